/-
  THE CONTRACT OF THE DOCUMENT'S Put (of a table).
-/
import Derived.Test.YtocjeehoghfnmaaDigPut
namespace Go.Proofs.Ytocjeehoghfnmaa
open Go.RowKit
attribute [local go_sem] ByteArray.mk_append_mk

set_option maxHeartbeats 1600000 in
set_option maxRecDepth 100000 in
theorem rdiput_no {w : World} {v : Value} {t : List Row} (hv : Tab w v t) (hs : Short t) (hm : Hid (diMay t = false)) :
    Calls Try.prog 18 #[v] w fun e w' => e = .returned (.tuple #[.string ⟨([] : List UInt8).toArray⟩, .bool false]) ∧ Below w.heap.size w w' := by
  have HM := Lib.hid (rdimay_eq hv hs hm)
  obtain ⟨a, cap, rfl, _⟩ := hv.open'
  clear hv hs hm
  go_enter Try.func18, Try.ntmps18
  go_wp2_with fail
  refine HM.out.mono ?_
  rintro e w1 ⟨rfl, hb1⟩
  have B1 := Lib.hid hb1
  clear hb1
  go_wp2_with fail
  go_ret2
  exact ⟨rfl, B1.out⟩

set_option maxHeartbeats 1600000 in
set_option maxRecDepth 100000 in
theorem rdiput_yes {w : World} {v : Value} {t : List Row} (hv : Tab w v t) (hs : Short t) (hm : Hid (diMay t = true)) :
    Calls Try.prog 18 #[v] w fun e w' => e = .returned (.tuple #[.string ⟨(diBytes t).toArray⟩, .bool true]) ∧ Below w.heap.size w w' := by
  have HM := Lib.hid (rdimay_eq hv hs hm)
  have HV := Lib.hid hv
  have hl32 := (diMay_iff.1 hm.out).1
  have HOk := Lib.hid (diMay_iff.1 hm.out).2.1
  have HS := Lib.hid hs
  obtain ⟨a, cap, rfl, _⟩ := hv.open'
  have HPut := Lib.hid (rput_any t.length (by omega))
  clear hv hs hm
  go_enter Try.func18, Try.ntmps18
  go_wp2_with fail
  refine HM.out.mono ?_
  rintro e w1 ⟨rfl, hb1⟩
  have B1 := Lib.hid hb1
  clear hb1
  go_wp2_with fail
  refine (HPut.out _).mono ?_
  rintro e w2 ⟨rfl, hb2⟩
  have N2 := Lib.hid (below2' B1.out hb2)
  clear hb2
  go_wp2_with fail
  go_loopw [4, 5] (fun s i wr => ∃ (k : Nat) (acc : List UInt8), k ≤ t.length ∧ i = .int .i64 k ∧ s = .string ⟨acc.toArray⟩ ∧ Hid (acc = vput t.length ++ rowsBytes (t.take k)) ∧ Hid (Below w.heap.size w wr)) (fun _ i _ => t.length - (intOf i).toNat)
  case atStart => exact ⟨0, vput t.length, by omega, rfl, rfl, by show _ = _; simp [rowsBytes], N2⟩
  case round =>
    clear N2
    obtain ⟨k, acc, hk, rfl, rfl, HA, HN⟩ := hrel
    by_cases hlt : k < t.length
    · obtain ⟨b, off, rfl, h0, h1, h2, h3, h4⟩ := HV.out.row HN.out k hlt
      obtain ⟨hl1, hl2⟩ := HS.out.get hlt
      obtain ⟨⟨c, ⟨x, y, z, st⟩⟩, hr⟩ : ∃ r, t.getD k Row.zero = r := ⟨_, rfl⟩
      rw [hr] at h0 h1 h2 h3 h4 hl1 hl2
      obtain ⟨hi, hm⟩ := rowOk_at HOk.out hlt hr
      have HX := Lib.hid (rowsBytes_next hlt hr)
      have HP := Lib.hid (ridput_eq c hl1 (Lib.hid (idPut_is hi)))
      have HQ := Lib.hid (rvaput_any x y z st hl2 (Lib.hid (vaPut_is hm)) (Lib.hid hm))
      have hal := acc_len HOk.out hl32 k
      rw [← HA.out] at hal
      have hal2 := acc_len HOk.out hl32 (k + 1)
      obtain ⟨p, hp⟩ : ∃ p, vput c.length ++ c = p := ⟨_, rfl⟩
      obtain ⟨q, hq⟩ : ∃ q, vaBytes ⟨x, y, z, st⟩ = q := ⟨_, rfl⟩
      rw [hp] at HP HX
      rw [hq] at HQ HX
      rw [HX.out, ← List.append_assoc, ← HA.out] at hal2
      have hal3 : acc.length + p.length + q.length ≤ 1994 := by simp only [List.length_append] at hal2; omega
      have HA2 : Hid (acc ++ (p ++ q) = vput t.length ++ rowsBytes (t.take (k + 1))) := by show _ = _; rw [HX.out, HA.out]; simp
      simp only at h0 h1 h2 h3 h4 hl1 hl2
      have K0 := Lib.hid (⟨h1, h2, h3, h4⟩ : _ ∧ _ ∧ _ ∧ _)
      clear hr hi hm hp hq hal hal2 HX hl1 hl2 h1 h2 h3 h4
      go_wp2_with fail
      refine (HP.out _).mono ?_
      rintro e w4 ⟨rfl, hb4⟩
      have N4 := Lib.hid (below2' HN.out hb4)
      have h1 := cell_later K0.out.1 hb4
      have h2 := cell_later K0.out.2.1 hb4
      have h3 := cell_later K0.out.2.2.1 hb4
      have h4 := cell_later K0.out.2.2.2 hb4
      clear hb4 h0 K0
      go_wp2_with fail
      refine (HQ.out _).mono ?_
      rintro e w5 ⟨rfl, hb5⟩
      have N5 := Lib.hid (below2' N4.out hb5)
      clear hb5 h1 h2 h3 h4 N4
      go_wp2_with fail
      go_roundw
      case rel => exact ⟨k + 1, acc ++ (p ++ q), by omega, by go_num, by first | rfl | simp, HA2, N5⟩
      case measure => simp [intOf]; omega
    · obtain rfl : k = t.length := by omega
      have HR : Hid (acc = diBytes t) := by show _ = _; rw [HA.out, List.take_length]; rfl
      go_wp2_with fail
      go_ret2
      exact ⟨by rw [HR.out]; rfl, HN.out⟩

theorem rdiput_eq {w : World} {v : Value} {t : List Row} (hv : Tab w v t) (hs : Short t) {l : List UInt8} {r : Bool} (h : Hid (diPut t = (l, r))) :
    Calls Try.prog 18 #[v] w fun e w' => e = .returned (.tuple #[.string ⟨l.toArray⟩, .bool r]) ∧ Below w.heap.size w w' := by
  have e := h.out
  cases hm : diMay t with
  | false =>
    rw [diPut_no hm] at e
    simp only [Prod.mk.injEq] at e
    obtain ⟨rfl, rfl⟩ := e
    exact rdiput_no hv hs (Lib.hid hm)
  | true =>
    rw [diPut_yes hm] at e
    simp only [Prod.mk.injEq] at e
    obtain ⟨rfl, rfl⟩ := e
    exact rdiput_yes hv hs (Lib.hid hm)

end Go.Proofs.Ytocjeehoghfnmaa
