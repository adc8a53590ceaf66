/-
  THE CONTRACTS OF digest.Put AND OF THE DOCUMENT'S ANSWER TO IT.
-/
import Derived.Test.YtocjeehoghfnmaaDigRmay
import Derived.Test.YtocjeehoghfnmaaShelfW
namespace Go.Proofs.Ytocjeehoghfnmaa
open Go.RowKit Go.Lib
attribute [local go_sem] ByteArray.mk_append_mk

theorem diPut_yes {t : List Row} (h : diMay t = true) : diPut t = (diBytes t, true) := by unfold diPut; rw [if_pos h]
theorem diPut_no {t : List Row} (h : diMay t = false) : diPut t = ([], false) := by unfold diPut; rw [if_neg (by rw [h]; decide)]

theorem rowOk_at {t : List Row} {k : Nat} {c st : List UInt8} {x y z : Int} (h : ∀ r ∈ t, rowOk r = true) (hk : k < t.length) (hr : t.getD k Row.zero = ⟨c, x, y, z, st⟩) : idIs c = true ∧ vaMay ⟨x, y, z, st⟩ = true := by
  have hm : t.getD k Row.zero ∈ t := by rw [← row_get hk]; exact List.getElem_mem hk
  have := rowOk_parts (h _ hm)
  rw [hr] at this
  exact this

theorem idPut_is {c : List UInt8} (h : idIs c = true) : idPut c = (vput c.length ++ c, true) := by unfold idPut; rw [if_pos h]
theorem vaPut_is {v : Val} (h : vaMay v = true) : vaPut v = vaBytes v := by unfold vaPut; rw [if_pos h]

theorem rowsBytes_next {t : List Row} {k : Nat} {c st : List UInt8} {x y z : Int} (hk : k < t.length) (hr : t.getD k Row.zero = ⟨c, x, y, z, st⟩) :
    rowsBytes (t.take (k + 1)) = rowsBytes (t.take k) ++ ((vput c.length ++ c) ++ vaBytes ⟨x, y, z, st⟩) := by
  rw [rowsBytes_succ hk, hr]
  rfl

theorem acc_len {t : List Row} (h : ∀ r ∈ t, rowOk r = true) (hl : t.length ≤ 32) (k : Nat) : (vput t.length ++ rowsBytes (t.take k)).length ≤ 1994 := by
  have h1 := rowsBytes_len (t := t.take k) (fun r hr => h r (List.mem_of_mem_take hr))
  have h2 := vput_len_le t.length
  have h3 : (t.take k).length ≤ t.length := by rw [List.length_take]; omega
  rw [List.length_append]
  omega

set_option maxHeartbeats 1600000 in
set_option maxRecDepth 100000 in
theorem diput_no {w : World} {v : Value} {t : List Row} (hv : Tab w v t) (hs : Short t) (hm : Hid (diMay t = false)) :
    Calls Try.prog 17 #[v] w fun e w' => e = .returned (.tuple #[.string ⟨([] : List UInt8).toArray⟩, .bool false]) ∧ Below w.heap.size w w' := by
  have HM := Lib.hid (dimay_eq hv hs hm)
  obtain ⟨a, cap, rfl, _⟩ := hv.open'
  clear hv hs hm
  go_enter Try.func17, Try.ntmps17
  go_wp2_with fail
  refine HM.out.mono ?_
  rintro e w1 ⟨rfl, hb1⟩
  have B1 := Lib.hid hb1
  clear hb1
  go_wp2_with fail
  go_ret2
  exact ⟨rfl, B1.out⟩

set_option maxHeartbeats 1600000 in
set_option maxRecDepth 100000 in
theorem diput_yes {w : World} {v : Value} {t : List Row} (hv : Tab w v t) (hs : Short t) (hm : Hid (diMay t = true)) :
    Calls Try.prog 17 #[v] w fun e w' => e = .returned (.tuple #[.string ⟨(diBytes t).toArray⟩, .bool true]) ∧ Below w.heap.size w w' := by
  have HM := Lib.hid (dimay_eq hv hs hm)
  have HV := Lib.hid hv
  have hl32 := (diMay_iff.1 hm.out).1
  have HOk := Lib.hid (diMay_iff.1 hm.out).2.1
  have HS := Lib.hid hs
  obtain ⟨a, cap, rfl, _⟩ := hv.open'
  have HPut := Lib.hid (put_any t.length (by omega))
  clear hv hs hm
  go_enter Try.func17, Try.ntmps17
  go_wp2_with fail
  refine HM.out.mono ?_
  rintro e w1 ⟨rfl, hb1⟩
  have B1 := Lib.hid hb1
  have HW := Lib.hid (fun W (acc l : List UInt8) h1 h2 h3 => Try.Builder_WriteString_k w1.heap.size w1.heap.size (byteCells acc) ⟨l.toArray⟩ W h1 h2 h3)
  have HStr := Lib.hid (fun W (acc : List UInt8) hI hb => Try.Builder_String_any_k w1.heap.size w1.heap.size acc W hI hb)
  have HF := Lib.hid (IsBuilderF.of (fresh_isBuilder 69 5 w1))
  clear hb1
  go_wp2_with fail
  refine (HPut.out _).mono ?_
  rintro e w2 ⟨rfl, hb2⟩
  have F2 := Lib.hid (builder_later HF.out hb2)
  have N2 := Lib.hid (below2' ((Below.refl w1.heap.size w1).alloc (Nat.le_refl _) _) hb2)
  have hz2 := N2.out.size
  have hvl := vput_len_le t.length
  clear hb2 HF
  go_wp2_with fail
  refine (HW.out _ [] (vput t.length) F2.out (by rw [byteCells_length, size_bytes]; simp; omega) hz2).mono ?_
  rintro e w3 ⟨rfl, h3, b3, _⟩
  have F3 : Hid (IsBuilderF 69 5 w1.heap.size w1.heap.size (byteCells (vput t.length)) w3) := by
    show IsBuilderF _ _ _ _ _ _
    have : byteCells (vput t.length) = byteCells [] ++ strCells ⟨(vput t.length).toArray⟩ := by rw [strCells_eq]; rfl
    rw [this]
    exact Or.inr h3
  have N3 := Lib.hid (N2.out.trans b3)
  clear h3 b3 F2 N2 hz2
  go_wp2_with fail
  go_loopw [21] (fun i wr => ∃ (k : Nat) (acc : List UInt8), k ≤ t.length ∧ i = .int .i64 k ∧ Hid (acc = vput t.length ++ rowsBytes (t.take k)) ∧ Hid (IsBuilderF 69 5 w1.heap.size w1.heap.size (byteCells acc) wr) ∧ Hid (Below w1.heap.size w1 wr)) (fun i _ => t.length - (intOf i).toNat)
  case atStart => exact ⟨0, vput t.length, by omega, rfl, by show _ = _; simp [rowsBytes], F3, N3⟩
  case round =>
    clear F3 N3
    obtain ⟨k, acc, hk, rfl, HA, F, HN⟩ := hrel
    by_cases hlt : k < t.length
    · obtain ⟨b, off, rfl, h0, h1, h2, h3, h4⟩ := HV.out.row (below2' B1.out HN.out) k hlt
      obtain ⟨hl1, hl2⟩ := HS.out.get hlt
      obtain ⟨⟨c, ⟨x, y, z, st⟩⟩, hr⟩ : ∃ r, t.getD k Row.zero = r := ⟨_, rfl⟩
      rw [hr] at h0 h1 h2 h3 h4 hl1 hl2
      obtain ⟨hi, hm⟩ := rowOk_at HOk.out hlt hr
      have HX := Lib.hid (rowsBytes_next hlt hr)
      have HP := Lib.hid (idput_eq c hl1 (Lib.hid (idPut_is hi)))
      have HQ := Lib.hid (vaput_any x y z st hl2 (Lib.hid (vaPut_is hm)) (Lib.hid hm))
      have hal := acc_len HOk.out hl32 k
      rw [← HA.out] at hal
      have hal2 := acc_len HOk.out hl32 (k + 1)
      obtain ⟨p, hp⟩ : ∃ p, vput c.length ++ c = p := ⟨_, rfl⟩
      obtain ⟨q, hq⟩ : ∃ q, vaBytes ⟨x, y, z, st⟩ = q := ⟨_, rfl⟩
      rw [hp] at HP HX
      rw [hq] at HQ HX
      rw [HX.out, ← List.append_assoc, ← HA.out] at hal2
      have hal3 : acc.length + p.length + q.length ≤ 1994 := by simp only [List.length_append] at hal2; omega
      have HA2 : Hid (acc ++ p ++ q = vput t.length ++ rowsBytes (t.take (k + 1))) := by show _ = _; rw [HX.out, HA.out]; simp
      simp only at h0 h1 h2 h3 h4 hl1 hl2
      clear hr hi hm hp hq hal hal2 HX hl1 hl2
      go_wp2_with fail
      refine (HP.out _).mono ?_
      rintro e w4 ⟨rfl, hb4⟩
      have N4 := Lib.hid (below2' HN.out (box5 hb4).2)
      have F4 := Lib.hid (builder_later F.out (box5 hb4).2)
      obtain ⟨k0, k1, k2, k3, k4⟩ := (box5 hb4).1
      clear hb4 h0 h1 h2 h3 h4
      go_wp2_with fail
      refine (HQ.out _).mono ?_
      rintro e w5 ⟨rfl, hb5⟩
      have N5 := Lib.hid (below2' N4.out hb5)
      have F5 := Lib.hid (builder_later F4.out hb5)
      have hz5 := N5.out.size
      clear hb5 k0 k1 k2 k3 k4 N4 F4
      go_wp2_with fail
      refine (HW.out _ acc p F5.out (by rw [byteCells_length, size_bytes]; omega) hz5).mono ?_
      rintro e w6 ⟨rfl, h6, b6, _⟩
      have F6 : Hid (IsBuilderF 69 5 w1.heap.size w1.heap.size (byteCells (acc ++ p)) w6) := by
        show IsBuilderF _ _ _ _ _ _
        rw [byteCells_append]
        exact Or.inr h6
      have N6 := Lib.hid (N5.out.trans b6)
      have hz6 := N6.out.size
      clear h6 b6 N5 F5 hz5
      go_wp2_with fail
      refine (HW.out _ (acc ++ p) q F6.out (by rw [byteCells_length, size_bytes, List.length_append]; omega) hz6).mono ?_
      rintro e w7 ⟨rfl, h7, b7, _⟩
      have F7 : Hid (IsBuilderF 69 5 w1.heap.size w1.heap.size (byteCells (acc ++ p ++ q)) w7) := by
        show IsBuilderF _ _ _ _ _ _
        rw [byteCells_append]
        exact Or.inr h7
      have N7 := Lib.hid (N6.out.trans b7)
      clear h7 b7 N6 F6 hz6
      go_wp2_with fail
      go_roundw
      case rel => exact ⟨k + 1, acc ++ p ++ q, by omega, by go_num, HA2, F7, N7⟩
      case measure => simp [intOf]; omega
    · obtain rfl : k = t.length := by omega
      have HR : Hid (acc = diBytes t) := by show _ = _; rw [HA.out, List.take_length]; rfl
      have hz := HN.out.size
      go_wp2_with fail
      refine (HStr.out _ acc F.out hz).mono ?_
      rintro e w8 ⟨rfl, _, b8, _⟩
      have N8 := Lib.hid (below2' B1.out (HN.out.trans b8))
      clear b8
      go_wp2_with fail
      go_ret2
      exact ⟨by rw [HR.out]; rfl, N8.out⟩

theorem diput_eq {w : World} {v : Value} {t : List Row} (hv : Tab w v t) (hs : Short t) {l : List UInt8} {r : Bool} (h : Hid (diPut t = (l, r))) :
    Calls Try.prog 17 #[v] w fun e w' => e = .returned (.tuple #[.string ⟨l.toArray⟩, .bool r]) ∧ Below w.heap.size w w' := by
  have e := h.out
  cases hm : diMay t with
  | false =>
    rw [diPut_no hm] at e
    simp only [Prod.mk.injEq] at e
    obtain ⟨rfl, rfl⟩ := e
    exact diput_no hv hs (Lib.hid hm)
  | true =>
    rw [diPut_yes hm] at e
    simp only [Prod.mk.injEq] at e
    obtain ⟨rfl, rfl⟩ := e
    exact diput_yes hv hs (Lib.hid hm)

end Go.Proofs.Ytocjeehoghfnmaa
