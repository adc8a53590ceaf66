/-
  TEXTS OF THE PROOF, one behind the other: SesDropC, StaDo, NumRow, PairKey, RosFits, RosItems, StaAll, BesWor, StaSame, StaTouch, IdLive, StaLive, StaMayP.
-/
import Derived.Test.YtdilcckoapaimaaGreatD09
import Derived.Test.YtdilcckoapaimaaGreatD04
import Derived.Test.YtdilcckoapaimaaGreatD08
import Derived.Test.YtdilcckoapaimaaGreatD06
import Derived.Test.YtdilcckoapaimaaGreatProg
import Derived.Test.YtdilcckoapaimaaGreatD07
import Derived.DeepKeys4
import Derived.Maps.OwnSet
import Derived.Deep.DeepCutAuto
import Derived.Deep.CutBlock
import Derived.Test.YtdilcckoapaimaaGreatD05
import Derived.Test.YtdilcckoapaimaaGreatD03
import Derived.BigRegion
import Derived.Deep.RegionHeld
import Derived.Test.YtdilcckoapaimaaGreatD01

set_option linter.unusedVariables false

section

/-
  LAYER 9: Drop; the document's place, Put and Drop.
-/
namespace Go.Proofs.YtdilcckoapaimaaGreat
open Go.RowKit

set_option maxHeartbeats 3200000 in
set_option maxRecDepth 100000 in
theorem sdrop_a {w : World} {v : Value} {l : List Ses} (hv : Sess w v l) (hs : ShortS l) (u : List UInt8) (id : Int) (h : seMay l = false) :
    Calls Tryz.prog 48 #[v, .string ⟨u.toArray⟩, .int .i64 id] w fun e w' => e = .returned (.tuple #[v, .int .i64 1]) ∧ Below w.heap.size w w' := by
  have HM := Lib.hid (smay9_any hv hs (Lib.hid h))
  obtain ⟨ao, cap, rfl, _⟩ := hv.open'
  clear hv h hs
  go_enter Tryz.func48, Tryz.ntmps48
  go_wp2_with fail
  refine HM.out.mono ?_
  rintro e w1 ⟨rfl, b1⟩
  have B1 := Lib.hid b1
  clear b1
  go_wp2_with fail
  go_ret2
  exact ⟨rfl, B1.out⟩

set_option maxHeartbeats 3200000 in
set_option maxRecDepth 100000 in
theorem sdrop_b {w : World} {v : Value} {l : List Ses} (hv : Sess w v l) (hs : ShortS l) (u : List UInt8) (id : Int) (h : seMay l = true) (hf : findO seIs l (keyS u id) = none) :
    Calls Tryz.prog 48 #[v, .string ⟨u.toArray⟩, .int .i64 id] w fun e w' => e = .returned (.tuple #[v, .int .i64 6]) ∧ Below w.heap.size w w' := by
  have HM := Lib.hid (smay9_any hv hs (Lib.hid h))
  have V0 := Lib.hid hv
  have HF1 := Lib.hid (seFind_none hf)
  obtain ⟨ao, cap, rfl, _⟩ := hv.open'
  clear hv h hs hf
  go_enter Tryz.func48, Tryz.ntmps48
  go_wp2_with fail
  refine HM.out.mono ?_
  rintro e w1 ⟨rfl, b1⟩
  have B1 := Lib.hid b1
  have V1 := Lib.hid (V0.out.later b1)
  clear b1
  have HF := Lib.hid (sefind_any V1.out u id (Lib.hid HF1.out))
  go_wp2_with fail
  refine HF.out.mono ?_
  rintro e w4 ⟨rfl, b4⟩
  have B4 := Lib.hid (below2Z B1.out b4)
  have V4 := Lib.hid (V1.out.later b4)
  clear b4 B1 V1 HF
  go_wp2_with fail
  go_ret2
  exact ⟨rfl, B4.out⟩

set_option maxHeartbeats 3200000 in
set_option maxRecDepth 100000 in
theorem sdrop_c {w : World} {v : Value} {l : List Ses} (hv : Sess w v l) (hs : ShortS l) (u : List UInt8) (id : Int) (h : seMay l = true) {i : Nat} (hf : findO seIs l (keyS u id) = some i) :
    Calls Tryz.prog 48 #[v, .string ⟨u.toArray⟩, .int .i64 id] w fun e w' => ∃ x, e = .returned (.tuple #[x, .int .i64 0]) ∧ OwnSes w' w.heap.size x (l.take i ++ l.drop (i + 1)) ∧ Below w.heap.size w w' := by
  have HM := Lib.hid (smay9_any hv hs (Lib.hid h))
  have V0 := Lib.hid hv
  have hi : i < l.length := (findO_some hf).1
  have hl32 := (seMay_rise h).1
  have HF1 := Lib.hid (seFind_some hf)
  obtain ⟨ao, cap, rfl, _⟩ := hv.open'
  clear hv h hs hf
  go_enter Tryz.func48, Tryz.ntmps48
  go_wp2_with fail
  refine HM.out.mono ?_
  rintro e w1 ⟨rfl, b1⟩
  have B1 := Lib.hid b1
  have V1 := Lib.hid (V0.out.later b1)
  clear b1
  have HF := Lib.hid (sefind_any V1.out u id (Lib.hid HF1.out))
  go_wp2_with fail
  refine HF.out.mono ?_
  rintro e w4 ⟨rfl, b4⟩
  have B4 := Lib.hid (below2Z B1.out b4)
  have V4 := Lib.hid (V1.out.later b4)
  clear b4 B1 V1 HF
  have HC := Lib.hid (ses_clone V4.out (by omega))
  have hw1 : IntKind.i64.wrap ((i : Int) + 1) = (i : Int) + 1 := IntWalk.i64_in _ (by omega)
  go_wp2_with fail
  refine HC.out.mono ?_
  rintro e w5 ⟨x, rfl, ho5, b5⟩
  have B5 := Lib.hid (below2Z B4.out b5)
  have hz4 := B4.out.size
  obtain ⟨g, cg, rfl, hcm⟩ : ∃ g cg, x = .slice (some ⟨g, 0, none⟩) l.length cg ∧ cg ≤ maxLen := by
    rcases ho5.2 with ⟨rfl, h0⟩ | ⟨g, cg, cur, rfl, _, _, _, hcm, _⟩
    · omega
    · exact ⟨g, cg, rfl, hcm⟩
  unfold maxLen at hcm
  have HD := Lib.hid (ses_delete (ownS_low ho5 hz4) hcm hi (by omega))
  clear ho5 b5 HC B4 V4
  go_wp2_with fail
  refine HD.out.mono ?_
  rintro e w6 ⟨y, rfl, ho6, b6⟩
  have O6 := Lib.hid ho6
  have B6 := Lib.hid (B5.out.trans b6)
  clear ho6 b6 HD
  go_wp2_with fail
  go_ret2
  exact ⟨_, rfl, O6.out, B6.out⟩

theorem sdrop_any {w : World} {v : Value} {l : List Ses} (hv : Sess w v l) (hs : ShortS l) (u : List UInt8) (id : Int) {m : List Ses} {n : Nat} (h : Hid (seDrop l u id = (m, n))) :
    Calls Tryz.prog 48 #[v, .string ⟨u.toArray⟩, .int .i64 id] w fun e w' => ∃ x, e = .returned (.tuple #[x, .int .i64 n]) ∧ Sess w' x m ∧ Below w.heap.size w w' := by
  have h := h.out
  cases hm : seMay l with
  | false =>
    rw [seDrop_arg hm] at h
    simp only [Prod.mk.injEq] at h
    obtain ⟨rfl, rfl⟩ := h
    exact (sdrop_a hv hs u id hm).mono (fun e w' ⟨h1, h2⟩ => ⟨v, h1, hv.later h2, h2⟩)
  | true =>
    cases hf : findO seIs l (keyS u id) with
    | some i =>
      rw [seDrop_at hm hf] at h
      simp only [Prod.mk.injEq] at h
      obtain ⟨rfl, rfl⟩ := h
      exact (sdrop_c hv hs u id hm hf).mono (fun e w' ⟨x, h1, h2, h3⟩ => ⟨x, h1, h2.rd sesOK, h3⟩)
    | none =>
      rw [seDrop_none hm hf] at h
      simp only [Prod.mk.injEq] at h
      obtain ⟨rfl, rfl⟩ := h
      exact (sdrop_b hv hs u id hm hf).mono (fun e w' ⟨h1, h2⟩ => ⟨v, h1, hv.later h2, h2⟩)

/-- What the document's place tells. -/
def sePl (l : List Ses) (x : Ses) : Int := match findO seIs l x with | some i => (i : Int) | none => -1

theorem sePl_some {l : List Ses} {x : Ses} {k : Nat} (h : findO seIs l x = some k) : sePl l x = (k : Int) := by unfold sePl; rw [h]
theorem sePl_none {l : List Ses} {x : Ses} (h : findO seIs l x = none) : sePl l x = -1 := by unfold sePl; rw [h]

theorem sePl_yes {l : List Ses} {x : Ses} {k : Nat} (hk : k < l.length) (hn : ∀ j, j < k → seIs (l.getD j Ses.zero) x = false) (hs : seIs (l.getD k Ses.zero) x = true) : sePl l x = (k : Int) :=
  sePl_some (findO_of hk (by rw [← sgetD hk]; exact hs) (fun j hj => by rw [← sgetD (by omega : j < l.length)]; exact hn j hj))

theorem sePl_no {l : List Ses} {x : Ses} (hn : ∀ j, j < l.length → seIs (l.getD j Ses.zero) x = false) : sePl l x = -1 :=
  sePl_none (findO_of_none (fun y hy => by obtain ⟨i, hi, rfl⟩ := List.getElem_of_mem hy; rw [← sgetD hi]; exact hn i hi))

set_option maxHeartbeats 1600000 in
set_option maxRecDepth 100000 in
theorem rplace_any {w : World} {v : Value} {l : List Ses} (hv : Sess w v l) (u : List UInt8) (id : Int) {z : Int} (h : Hid (sePl l (keyS u id) = z)) :
    Calls Tryz.prog 94 #[v, .string ⟨u.toArray⟩, .int .i64 id] w fun e w' => e = .returned (.int .i64 z) ∧ Below w.heap.size w w' := by
  have HV := Lib.hid hv
  obtain ⟨a, cap, rfl, hm⟩ := hv.open'
  clear hv
  go_enter Tryz.func94, Tryz.ntmps94
  go_wp2_with fail
  go_loopw [7] (fun i wr => ∃ k : Nat, k ≤ l.length ∧ i = .int .i64 k ∧ Hid (Below w.heap.size w wr) ∧ Hid (∀ j, j < k → seIs (l.getD j Ses.zero) (keyS u id) = false)) (fun i _ => l.length - (intOf i).toNat)
  case atStart => exact ⟨0, by omega, rfl, Below.refl _ _, by show ∀ _, _; intro j hj; omega⟩
  case round =>
    obtain ⟨k, hk, rfl, HB, HN⟩ := hrel
    by_cases hlt : k < l.length
    · obtain ⟨bk, off, rfl, hc⟩ := HV.out.row HB.out k hlt
      obtain ⟨⟨eu, ei, ⟨ea, eb, ec, es⟩⟩, hr⟩ : ∃ r, l.getD k Ses.zero = r := ⟨_, rfl⟩
      rw [hr] at hc
      obtain ⟨h0, h1, h2, h3, h4, h5⟩ := cells6 hc
      try simp only at h0 h1 h2 h3 h4 h5
      have hnx : ∀ {q : Bool}, seIs ⟨eu, ei, ⟨ea, eb, ec, es⟩⟩ (keyS u id) = q → Hid (seIs (l.getD k Ses.zero) (keyS u id) = q) := fun hq => by show _ = _; rw [hr]; exact hq
      have HNX : ∀ (_ : Hid (seIs (l.getD k Ses.zero) (keyS u id) = false)), Hid (∀ j, j < k + 1 → seIs (l.getD j Ses.zero) (keyS u id) = false) := fun hq => by
        show ∀ _, _
        intro j hj
        by_cases e : j = k
        · rw [e]; exact hq.out
        · exact HN.out j (by omega)
      clear hr hc
      by_cases hu : eu = u
      · by_cases hi : ei = id
        · have HR := sePl_yes hlt HN.out (hnx (q := true) (seIs_iff.2 ⟨hu, hi⟩)).out
          rw [h.out] at HR
          subst HR
          have t1 : (eu == u) = true := by rw [beq_iff_eq]; exact hu
          have t2 : (ei == id) = true := by rw [beq_iff_eq]; exact hi
          clear hnx HNX hu hi
          go_wp2_with fail
          go_ret
          exact ⟨rfl, HB.out⟩
        · have HN2 := HNX (hnx (by unfold seIs keyS; simp [hi]))
          have t1 : (eu == u) = true := by rw [beq_iff_eq]; exact hu
          have t2 : (ei == id) = false := by rw [beq_eq_false_iff_ne]; exact hi
          clear hnx HNX hu hi
          go_wp2_with fail
          go_roundw
          case rel => exact ⟨k + 1, by omega, by go_num, HB, HN2⟩
          case measure => simp [intOf]; omega
      · have HN2 := HNX (hnx (by unfold seIs keyS; simp [hu]))
        have t1 : (eu == u) = false := by rw [beq_eq_false_iff_ne]; exact hu
        clear hnx HNX hu
        go_wp2_with fail
        go_roundw
        case rel => exact ⟨k + 1, by omega, by go_num, HB, HN2⟩
        case measure => simp [intOf]; omega
    · obtain rfl : k = l.length := by omega
      have HR := sePl_no HN.out
      rw [h.out] at HR
      subst HR
      go_wp2_with fail
      go_ret
      exact ⟨rfl, HB.out⟩

theorem srcS_take {α : Type} {vals : α → List Value} {sz : Nat} (hl : ∀ a, (vals a).length = sz) {w : World} {ad : Addr} {l : List α} (h : SrcS vals w ad l) (k : Nat) : SrcS vals w ad (l.take k) := by
  intro j x hx
  rw [← cellsS_take hl, List.getElem?_take] at hx
  split at hx
  · exact h j x hx
  · cases hx

set_option maxHeartbeats 3200000 in
set_option maxRecDepth 100000 in
theorem rsdrop_a {w : World} {v : Value} {l : List Ses} (hv : Sess w v l) (hs : ShortS l) (u : List UInt8) (id : Int) (h : seMay l = false) :
    Calls Tryz.prog 51 #[v, .string ⟨u.toArray⟩, .int .i64 id] w fun e w' => e = .returned (.tuple #[v, .int .i64 1]) ∧ Below w.heap.size w w' := by
  have HM := Lib.hid (rsmay9_any hv hs (Lib.hid h))
  obtain ⟨ao, cap, rfl, _⟩ := hv.open'
  clear hv h hs
  go_enter Tryz.func51, Tryz.ntmps51
  go_wp2_with fail
  refine HM.out.mono ?_
  rintro e w1 ⟨rfl, b1⟩
  have B1 := Lib.hid b1
  clear b1
  go_wp2_with fail
  go_ret2
  exact ⟨rfl, B1.out⟩

set_option maxHeartbeats 3200000 in
set_option maxRecDepth 100000 in
theorem rsdrop_b {w : World} {v : Value} {l : List Ses} (hv : Sess w v l) (hs : ShortS l) (u : List UInt8) (id : Int) (h : seMay l = true) (hf : findO seIs l (keyS u id) = none) :
    Calls Tryz.prog 51 #[v, .string ⟨u.toArray⟩, .int .i64 id] w fun e w' => e = .returned (.tuple #[v, .int .i64 6]) ∧ Below w.heap.size w w' := by
  have HM := Lib.hid (rsmay9_any hv hs (Lib.hid h))
  have V0 := Lib.hid hv
  have HF1 := Lib.hid (sePl_none hf)
  obtain ⟨ao, cap, rfl, _⟩ := hv.open'
  clear hv h hs hf
  go_enter Tryz.func51, Tryz.ntmps51
  go_wp2_with fail
  refine HM.out.mono ?_
  rintro e w1 ⟨rfl, b1⟩
  have B1 := Lib.hid b1
  have V1 := Lib.hid (V0.out.later b1)
  clear b1
  have HF := Lib.hid (rplace_any V1.out u id HF1)
  go_wp2_with fail
  refine HF.out.mono ?_
  rintro e w4 ⟨rfl, b4⟩
  have B4 := Lib.hid (below2Z B1.out b4)
  have V4 := Lib.hid (V1.out.later b4)
  clear b4 B1 V1 HF
  go_wp2_with fail
  go_ret2
  exact ⟨rfl, B4.out⟩

set_option maxHeartbeats 3200000 in
set_option maxRecDepth 100000 in
theorem rsdrop_c {w : World} {v : Value} {l : List Ses} (hv : Sess w v l) (hs : ShortS l) (u : List UInt8) (id : Int) (h : seMay l = true) {i : Nat} (hf : findO seIs l (keyS u id) = some i) :
    Calls Tryz.prog 51 #[v, .string ⟨u.toArray⟩, .int .i64 id] w fun e w' => ∃ x, e = .returned (.tuple #[x, .int .i64 0]) ∧ OwnSes w' w.heap.size x (l.take i ++ l.drop (i + 1)) ∧ Below w.heap.size w w' := by
  have HM := Lib.hid (rsmay9_any hv hs (Lib.hid h))
  have V0 := Lib.hid hv
  have hi : i < l.length := (findO_some hf).1
  have hl32 := (seMay_rise h).1
  have HF1 := Lib.hid (sePl_some hf)
  obtain ⟨bk, off, ebk, _⟩ : ∃ b off, ∃ cap, v = .slice (some ⟨b, off, none⟩) l.length cap ∧ l.length ≤ cap ∧ cap ≤ maxLen := by
    obtain ⟨a, cap, e, h1, h2, _, h4⟩ := hv
    rcases h4 with h4 | ⟨b, off, e2, _⟩
    · rw [h4] at hi; simp at hi
    · exact ⟨b, off, cap, by rw [e, e2], h1, h2⟩
  rename_i hcaps
  obtain ⟨rfl, hc1, hc2⟩ := hcaps
  unfold maxLen at hc2
  have hw1 : IntKind.i64.wrap ((i : Int) + 1) = (i : Int) + 1 := IntWalk.i64_in _ (by omega)
  have t0 : decide ((i : Int) < 0) = false := by rw [decide_eq_false_iff_not]; omega
  have hic : i ≤ ebk := by omega
  have hnn : (0 : Int) ≤ (i : Int) := by omega
  obtain ⟨ad, had⟩ : ∃ ad, (if ebk = i + 1 then (⟨bk, off, none⟩ : Addr) else (⟨bk, off, none⟩ : Addr).add ((i + 1) * 6)) = ad := ⟨_, rfl⟩
  have hsl := fun w => run_slice_from_S sesOK w ⟨bk, off, none⟩ l.length ebk (i + 1) ((i : Int) + 1) (by omega) (by omega)
  rw [had] at hsl
  clear hv h hs hf
  go_enter Tryz.func51, Tryz.ntmps51
  go_wp2_with fail
  refine HM.out.mono ?_
  rintro e w1 ⟨rfl, b1⟩
  have B1 := Lib.hid b1
  have V1 := Lib.hid (V0.out.later b1)
  clear b1
  have HF := Lib.hid (rplace_any V1.out u id HF1)
  go_wp2_with fail
  refine HF.out.mono ?_
  rintro e w4 ⟨rfl, b4⟩
  have B4 := Lib.hid (below2Z B1.out b4)
  have V4 := Lib.hid (V1.out.later b4)
  clear b4 B1 V1 HF
  have HT := Lib.hid (V4.out.tail (by decide) (i + 1) (by omega))
  rw [had] at HT
  have b5 := bl_newZ w4 (.cells #[] 83)
  have HS5 := Lib.hid (srcS_take sesOK.len ((V4.out.later b5).src sesOK) i)
  go_wp2_with (at_builtin; refine wpList_append_S sesOK rfl _ _ rfl w4.heap.size _ [] rfl (by exact ownS_made w4) (some ⟨bk, off, none⟩) i ebk (l.take i) rfl (by rw [List.length_take]; omega) (fun e => nomatch e) (fun ad had => by obtain rfl := Option.some.inj had; exact HS5.out) (by rw [List.length_take]; simp only [List.length_nil]; omega) (by simp) ?_)
  intro x6 w6 ho6 b6
  have O6 := Lib.hid ho6
  have B56 := Lib.hid (b5.trans b6)
  have HT6 := Lib.hid (HT.out.later B56.out)
  have z6 := B56.out.size
  clear ho6 b6 b5 HS5 HT
  have hS6 := HT6.out.src sesOK
  go_wp2_with (at_builtin; refine wpList_append_S sesOK rfl _ _ rfl w4.heap.size _ (l.take i) rfl (by exact O6.out) (some ad) (l.length - (i + 1)) (ebk - (i + 1)) (l.drop (i + 1)) rfl (by rw [List.length_drop]) (fun e => nomatch e) (fun ad' had' => by obtain rfl := Option.some.inj had'; exact hS6) (by rw [List.length_take, List.length_drop]; omega) z6 ?_)
  intro x7 w7 ho7 b7
  have O7 := Lib.hid ho7
  have B7 := Lib.hid (below2Z B4.out (B56.out.trans b7))
  clear ho7 b7 O6 B56 HT6 hS6
  go_wp2_with fail
  go_ret2
  exact ⟨_, rfl, ownS_low O7.out B4.out.size, B7.out⟩

theorem rsdrop_any {w : World} {v : Value} {l : List Ses} (hv : Sess w v l) (hs : ShortS l) (u : List UInt8) (id : Int) {m : List Ses} {n : Nat} (h : Hid (seDrop l u id = (m, n))) :
    Calls Tryz.prog 51 #[v, .string ⟨u.toArray⟩, .int .i64 id] w fun e w' => ∃ x, e = .returned (.tuple #[x, .int .i64 n]) ∧ Sess w' x m ∧ Below w.heap.size w w' := by
  have h := h.out
  cases hm : seMay l with
  | false =>
    rw [seDrop_arg hm] at h
    simp only [Prod.mk.injEq] at h
    obtain ⟨rfl, rfl⟩ := h
    exact (rsdrop_a hv hs u id hm).mono (fun e w' ⟨h1, h2⟩ => ⟨v, h1, hv.later h2, h2⟩)
  | true =>
    cases hf : findO seIs l (keyS u id) with
    | some i =>
      rw [seDrop_at hm hf] at h
      simp only [Prod.mk.injEq] at h
      obtain ⟨rfl, rfl⟩ := h
      exact (rsdrop_c hv hs u id hm hf).mono (fun e w' ⟨x, h1, h2, h3⟩ => ⟨x, h1, h2.rd sesOK, h3⟩)
    | none =>
      rw [seDrop_none hm hf] at h
      simp only [Prod.mk.injEq] at h
      obtain ⟨rfl, rfl⟩ := h
      exact (rsdrop_b hv hs u id hm hf).mono (fun e w' ⟨h1, h2⟩ => ⟨v, h1, hv.later h2, h2⟩)

end Go.Proofs.YtdilcckoapaimaaGreat

end

section

/-
  LAYER 14: Apply of the code.
-/
namespace Go.Proofs.YtdilcckoapaimaaGreat
open Go.RowKit

theorem allSl_nil : AllSl #[.slice none 0 0, .slice none 0 0] := by
  intro j u h
  match j, h with
  | 0, h => simp at h; exact ⟨_, _, _, h.symm⟩
  | 1, h => simp at h; exact ⟨_, _, _, h.symm⟩
  | j + 2, h => simp at h

theorem allSl_two {x y : Value} (hx : ∃ a n c, x = .slice a n c) (hy : ∃ a n c, y = .slice a n c) : AllSl #[x, y] := by
  intro j u h
  match j, h with
  | 0, h => simp at h; exact h ▸ hx
  | 1, h => simp at h; exact h ▸ hy
  | j + 2, h => simp at h

theorem StAt.sl {w : World} {x y : Value} {t : Sta} (h : StAt w x y t) : AllSl #[x, y] := by
  obtain ⟨a, c, e1, -⟩ := h.1.open'
  obtain ⟨a', c', e2, -⟩ := RdS.open' h.2
  exact allSl_two ⟨_, _, _, e1⟩ ⟨_, _, _, e2⟩

theorem eightT {X : World} {B : Nat} {k id a b c : Int} {u o st : List UInt8} (h : CellsAt X B 0 (evVals ⟨k, u, o, id, ⟨a, b, c, st⟩⟩)) :
    X.cell? ⟨B, 0, none⟩ = some (.int .i64 k) ∧ X.cell? ⟨B, 1, none⟩ = some (.string ⟨u.toArray⟩) ∧ X.cell? ⟨B, 2, none⟩ = some (.string ⟨o.toArray⟩) ∧ X.cell? ⟨B, 3, none⟩ = some (.int .i64 id) ∧ X.cell? ⟨B, 4, none⟩ = some (.int .i64 a) ∧ X.cell? ⟨B, 5, none⟩ = some (.int .i64 b) ∧ X.cell? ⟨B, 6, none⟩ = some (.int .i64 c) ∧ X.cell? ⟨B, 7, none⟩ = some (.string ⟨st.toArray⟩) := by
  have h0 := h 0 _ rfl
  have h1 := h 1 _ rfl
  have h2 := h 2 _ rfl
  have h3 := h 3 _ rfl
  have h4 := h 4 _ rfl
  have h5 := h 5 _ rfl
  have h6 := h 6 _ rfl
  have h7 := h 7 _ rfl
  simp only [Nat.zero_add] at h0 h1 h2 h3 h4 h5 h6 h7
  exact ⟨h0, h1, h2, h3, h4, h5, h6, h7⟩

/-- One cell of a block of slices, written. -/
theorem st_one {w0 W : World} {x y : Value} {t : Sta} (h : StAt W x y t) (hb : Below w0.heap.size w0 W) {A : Nat} (hA : w0.heap.size ≤ A) {a0 a1 : Value} {T : TypeId} (ha : W.heap[A]? = some (.cells #[a0, a1] T (0, 0))) (hs : AllSl #[a0, a1]) (i : Nat) (u : Value) {R : Nat} (hne : A ≠ R) {o : Obj} (hr : W.heap[R]? = some o) :
    StAt (W.setCell ⟨A, i, none⟩ u) x y t ∧ Below w0.heap.size w0 (W.setCell ⟨A, i, none⟩ u) ∧ (W.setCell ⟨A, i, none⟩ u).heap[R]? = some o :=
  ⟨h.keep ha hs.no i u, hb.setCell hA u, (heap_setCell_other W ⟨A, i, none⟩ R u (fun e => hne e.symm)).trans hr⟩

/-- The result's block, written. -/
theorem st_fin {w0 W : World} {x y : Value} {t : Sta} (h : StAt W x y t) (hb : Below w0.heap.size w0 W) {R : Nat} (hR : w0.heap.size ≤ R) {r0 r1 : Value} {T : TypeId} (hr : W.heap[R]? = some (.cells #[r0, r1] T (0, 0))) (hs : AllSl #[r0, r1]) :
    StAt ((W.setCell ⟨R, 0, none⟩ x).setCell ⟨R, 1, none⟩ y) x y t ∧ Below w0.heap.size w0 ((W.setCell ⟨R, 0, none⟩ x).setCell ⟨R, 1, none⟩ y) ∧
      ((W.setCell ⟨R, 0, none⟩ x).setCell ⟨R, 1, none⟩ y).cell? ⟨R, 0, none⟩ = some x ∧ ((W.setCell ⟨R, 0, none⟩ x).setCell ⟨R, 1, none⟩ y).cell? ⟨R, 1, none⟩ = some y := by
  have k0 := heap_setCell_same W R 0 _ _ x hr
  have k1 := heap_setCell_same _ R 1 _ _ y k0
  have hs1 : AllSl #[x, r1] := allSl_two (h.sl 0 x rfl) (hs 1 r1 rfl)
  obtain ⟨c0, c1, -, -⟩ := two_T k1
  exact ⟨(h.keep hr hs.no 0 x).keep k0 hs1.no 1 y, (hb.setCell hR x).setCell hR y, c0, c1⟩

set_option maxHeartbeats 3200000 in
set_option maxRecDepth 100000 in
theorem stdo_a {w : World} {ax ay : Option Addr} {nx cx ny cy : Nat} {t : Sta} (h : StAt w (.slice ax nx cx) (.slice ay ny cy) t) (he : ShortE t.e) (hl : t.e.length ≤ 900) (hs : ShortS t.s) (u o st : List UInt8) (id a b c : Int) (hu : u.length ≤ 4294967296) (ho : o.length ≤ 4294967296) (hst : st.length ≤ 4294967296) (k : Int) (hm : stMay t = false) :
    Calls Tryz.prog 15 #[.agg #[.slice ax nx cx, .slice ay ny cy], .agg #[.int .i64 k, .string ⟨u.toArray⟩, .string ⟨o.toArray⟩, .int .i64 id, .int .i64 a, .int .i64 b, .int .i64 c, .string ⟨st.toArray⟩]] w fun e w' => ∃ x' y', e = .returned (.tuple #[.agg #[x', y'], .int .i64 1]) ∧ StAt w' x' y' ⟨t.e, t.s⟩ ∧ Below w.heap.size w w' := by
  have HM := Lib.hid hm
  have b1 := bl_newZ w (.cells #[.slice ax nx cx, .slice ay ny cy] 25)
  have b2 := bl_newZ (w.alloc (.cells #[.slice ax nx cx, .slice ay ny cy] 25)) (.cells #[.int .i64 k, .string ⟨u.toArray⟩, .string ⟨o.toArray⟩, .int .i64 id, .int .i64 a, .int .i64 b, .int .i64 c, .string ⟨st.toArray⟩] 29)
  have b3 := bl_newZ ((w.alloc (.cells #[.slice ax nx cx, .slice ay ny cy] 25)).alloc (.cells #[.int .i64 k, .string ⟨u.toArray⟩, .string ⟨o.toArray⟩, .int .i64 id, .int .i64 a, .int .i64 b, .int .i64 c, .string ⟨st.toArray⟩] 29)) (.cells #[.slice none 0 0, .slice none 0 0] 25)
  have b123 := below2Z b1 (below2Z b2 b3)
  have HB := Lib.hid b123
  have H := Lib.hid (h.later b123)
  have FS := Lib.hid (upT (heap_newT w (.cells #[.slice ax nx cx, .slice ay ny cy] 25)) (below2Z b2 b3))
  have FE := Lib.hid ((cellsAt_made (w := w.alloc (.cells #[.slice ax nx cx, .slice ay ny cy] 25)) (cs := #[.int .i64 k, .string ⟨u.toArray⟩, .string ⟨o.toArray⟩, .int .i64 id, .int .i64 a, .int .i64 b, .int .i64 c, .string ⟨st.toArray⟩]) (vs := evVals ⟨k, u, o, id, ⟨a, b, c, st⟩⟩) rfl 29 (B := w.heap.size + 1) (by simp)).later b3)
  have FR : Hid ((((w.alloc (.cells #[.slice ax nx cx, .slice ay ny cy] 25)).alloc (.cells #[.int .i64 k, .string ⟨u.toArray⟩, .string ⟨o.toArray⟩, .int .i64 id, .int .i64 a, .int .i64 b, .int .i64 c, .string ⟨st.toArray⟩] 29)).alloc (.cells #[.slice none 0 0, .slice none 0 0] 25)).heap[w.heap.size + 1 + 1]? = some (.cells #[.slice none 0 0, .slice none 0 0] 25 (0, 0))) := by
    have hz := heap_newT ((w.alloc (.cells #[.slice ax nx cx, .slice ay ny cy] 25)).alloc (.cells #[.int .i64 k, .string ⟨u.toArray⟩, .string ⟨o.toArray⟩, .int .i64 id, .int .i64 a, .int .i64 b, .int .i64 c, .string ⟨st.toArray⟩] 29)) (.cells #[.slice none 0 0, .slice none 0 0] 25)
    simp only [World.size_alloc] at hz
    exact hz
  have HE := Lib.hid he
  have HS := Lib.hid hs
  obtain ⟨s0, s1, f0, f1⟩ := two_T FS.out
  obtain ⟨e0, e1, e2, e3, e4, e5, e6, e7⟩ := eightT FE.out
  clear b1 b2 b3 b123 h he hs
  clear hm
  go_enter Tryz.func15, Tryz.ntmps15
  go_wp2_with fail
  refine (stmay_any H.out HE.out HS.out HM).mono ?_
  rintro e w1 ⟨rfl, c1⟩
  replace HB := Lib.hid (below2Z HB.out c1)
  replace H := Lib.hid (H.out.later c1)
  replace FS := Lib.hid (upT FS.out c1)
  replace FE := Lib.hid (FE.out.later c1)
  replace FR := Lib.hid (upT FR.out c1)
  clear s0 s1 f0 f1 e0 e1 e2 e3 e4 e5 e6 e7 c1
  obtain ⟨s0, s1, f0, f1⟩ := two_T FS.out
  obtain ⟨e0, e1, e2, e3, e4, e5, e6, e7⟩ := eightT FE.out
  obtain ⟨r0, r1, g0, g1⟩ := two_T FR.out
  go_wp2_with fail
  obtain ⟨z1, z2, o0, o1⟩ := st_fin H.out HB.out (show w.heap.size ≤ w.heap.size + 1 + 1 by omega) FR.out allSl_nil
  refine bodyPost_ret (v := .tuple #[.agg #[.slice ax nx cx, .slice ay ny cy], .int .i64 1]) (by simp [results, Tryz.results15, go_sem, o0, o1]) rfl ⟨_, _, rfl, z1, z2⟩

set_option maxHeartbeats 3200000 in
set_option maxRecDepth 100000 in
theorem stdo_b {w : World} {ax ay : Option Addr} {nx cx ny cy : Nat} {t : Sta} (h : StAt w (.slice ax nx cx) (.slice ay ny cy) t) (he : ShortE t.e) (hl : t.e.length ≤ 900) (hs : ShortS t.s) (u o st : List UInt8) (id a b c : Int) (hu : u.length ≤ 4294967296) (ho : o.length ≤ 4294967296) (hst : st.length ≤ 4294967296) (k : Int) (hm : stMay t = true) (hb : k < 1 ∨ 8 < k) :
    Calls Tryz.prog 15 #[.agg #[.slice ax nx cx, .slice ay ny cy], .agg #[.int .i64 k, .string ⟨u.toArray⟩, .string ⟨o.toArray⟩, .int .i64 id, .int .i64 a, .int .i64 b, .int .i64 c, .string ⟨st.toArray⟩]] w fun e w' => ∃ x' y', e = .returned (.tuple #[.agg #[x', y'], .int .i64 1]) ∧ StAt w' x' y' ⟨t.e, t.s⟩ ∧ Below w.heap.size w w' := by
  have HM := Lib.hid hm
  have t1 : (k == 1) = false := by rw [beq_eq_false_iff_ne]; omega
  have t2 : (k == 2) = false := by rw [beq_eq_false_iff_ne]; omega
  have t3 : (k == 3) = false := by rw [beq_eq_false_iff_ne]; omega
  have t4 : (k == 4) = false := by rw [beq_eq_false_iff_ne]; omega
  have t5 : (k == 5) = false := by rw [beq_eq_false_iff_ne]; omega
  have t6 : (k == 6) = false := by rw [beq_eq_false_iff_ne]; omega
  have t7 : (k == 7) = false := by rw [beq_eq_false_iff_ne]; omega
  have t8 : (k == 8) = false := by rw [beq_eq_false_iff_ne]; omega
  have b1 := bl_newZ w (.cells #[.slice ax nx cx, .slice ay ny cy] 25)
  have b2 := bl_newZ (w.alloc (.cells #[.slice ax nx cx, .slice ay ny cy] 25)) (.cells #[.int .i64 k, .string ⟨u.toArray⟩, .string ⟨o.toArray⟩, .int .i64 id, .int .i64 a, .int .i64 b, .int .i64 c, .string ⟨st.toArray⟩] 29)
  have b3 := bl_newZ ((w.alloc (.cells #[.slice ax nx cx, .slice ay ny cy] 25)).alloc (.cells #[.int .i64 k, .string ⟨u.toArray⟩, .string ⟨o.toArray⟩, .int .i64 id, .int .i64 a, .int .i64 b, .int .i64 c, .string ⟨st.toArray⟩] 29)) (.cells #[.slice none 0 0, .slice none 0 0] 25)
  have b123 := below2Z b1 (below2Z b2 b3)
  have HB := Lib.hid b123
  have H := Lib.hid (h.later b123)
  have FS := Lib.hid (upT (heap_newT w (.cells #[.slice ax nx cx, .slice ay ny cy] 25)) (below2Z b2 b3))
  have FE := Lib.hid ((cellsAt_made (w := w.alloc (.cells #[.slice ax nx cx, .slice ay ny cy] 25)) (cs := #[.int .i64 k, .string ⟨u.toArray⟩, .string ⟨o.toArray⟩, .int .i64 id, .int .i64 a, .int .i64 b, .int .i64 c, .string ⟨st.toArray⟩]) (vs := evVals ⟨k, u, o, id, ⟨a, b, c, st⟩⟩) rfl 29 (B := w.heap.size + 1) (by simp)).later b3)
  have FR : Hid ((((w.alloc (.cells #[.slice ax nx cx, .slice ay ny cy] 25)).alloc (.cells #[.int .i64 k, .string ⟨u.toArray⟩, .string ⟨o.toArray⟩, .int .i64 id, .int .i64 a, .int .i64 b, .int .i64 c, .string ⟨st.toArray⟩] 29)).alloc (.cells #[.slice none 0 0, .slice none 0 0] 25)).heap[w.heap.size + 1 + 1]? = some (.cells #[.slice none 0 0, .slice none 0 0] 25 (0, 0))) := by
    have hz := heap_newT ((w.alloc (.cells #[.slice ax nx cx, .slice ay ny cy] 25)).alloc (.cells #[.int .i64 k, .string ⟨u.toArray⟩, .string ⟨o.toArray⟩, .int .i64 id, .int .i64 a, .int .i64 b, .int .i64 c, .string ⟨st.toArray⟩] 29)) (.cells #[.slice none 0 0, .slice none 0 0] 25)
    simp only [World.size_alloc] at hz
    exact hz
  have HE := Lib.hid he
  have HS := Lib.hid hs
  obtain ⟨s0, s1, f0, f1⟩ := two_T FS.out
  obtain ⟨e0, e1, e2, e3, e4, e5, e6, e7⟩ := eightT FE.out
  clear b1 b2 b3 b123 h he hs
  clear hm hb
  go_enter Tryz.func15, Tryz.ntmps15
  go_wp2_with fail
  refine (stmay_any H.out HE.out HS.out HM).mono ?_
  rintro e w1 ⟨rfl, c1⟩
  replace HB := Lib.hid (below2Z HB.out c1)
  replace H := Lib.hid (H.out.later c1)
  replace FS := Lib.hid (upT FS.out c1)
  replace FE := Lib.hid (FE.out.later c1)
  replace FR := Lib.hid (upT FR.out c1)
  clear s0 s1 f0 f1 e0 e1 e2 e3 e4 e5 e6 e7 c1
  obtain ⟨s0, s1, f0, f1⟩ := two_T FS.out
  obtain ⟨e0, e1, e2, e3, e4, e5, e6, e7⟩ := eightT FE.out
  obtain ⟨r0, r1, g0, g1⟩ := two_T FR.out
  go_wp2_with fail
  obtain ⟨z1, z2, o0, o1⟩ := st_fin H.out HB.out (show w.heap.size ≤ w.heap.size + 1 + 1 by omega) FR.out allSl_nil
  refine bodyPost_ret (v := .tuple #[.agg #[.slice ax nx cx, .slice ay ny cy], .int .i64 1]) (by simp [results, Tryz.results15, go_sem, o0, o1]) rfl ⟨_, _, rfl, z1, z2⟩

set_option maxHeartbeats 3200000 in
set_option maxRecDepth 100000 in
theorem stdo_c1 {w : World} {ax ay : Option Addr} {nx cx ny cy : Nat} {t : Sta} (h : StAt w (.slice ax nx cx) (.slice ay ny cy) t) (he : ShortE t.e) (hl : t.e.length ≤ 900) (hs : ShortS t.s) (u o st : List UInt8) (id a b c : Int) (hu : u.length ≤ 4294967296) (ho : o.length ≤ 4294967296) (hst : st.length ≤ 4294967296) (hm : stMay t = true) {m : List Ent} {n : Nat} (hd : roDo t.e 1 u o = (m, n)) :
    Calls Tryz.prog 15 #[.agg #[.slice ax nx cx, .slice ay ny cy], .agg #[.int .i64 1, .string ⟨u.toArray⟩, .string ⟨o.toArray⟩, .int .i64 id, .int .i64 a, .int .i64 b, .int .i64 c, .string ⟨st.toArray⟩]] w fun e w' => ∃ x' y', e = .returned (.tuple #[.agg #[x', y'], .int .i64 n]) ∧ StAt w' x' y' ⟨m, t.s⟩ ∧ Below w.heap.size w w' := by
  have HM := Lib.hid hm
  have HD := Lib.hid hd
  have b1 := bl_newZ w (.cells #[.slice ax nx cx, .slice ay ny cy] 25)
  have b2 := bl_newZ (w.alloc (.cells #[.slice ax nx cx, .slice ay ny cy] 25)) (.cells #[.int .i64 1, .string ⟨u.toArray⟩, .string ⟨o.toArray⟩, .int .i64 id, .int .i64 a, .int .i64 b, .int .i64 c, .string ⟨st.toArray⟩] 29)
  have b3 := bl_newZ ((w.alloc (.cells #[.slice ax nx cx, .slice ay ny cy] 25)).alloc (.cells #[.int .i64 1, .string ⟨u.toArray⟩, .string ⟨o.toArray⟩, .int .i64 id, .int .i64 a, .int .i64 b, .int .i64 c, .string ⟨st.toArray⟩] 29)) (.cells #[.slice none 0 0, .slice none 0 0] 25)
  have b123 := below2Z b1 (below2Z b2 b3)
  have HB := Lib.hid b123
  have H := Lib.hid (h.later b123)
  have FS := Lib.hid (upT (heap_newT w (.cells #[.slice ax nx cx, .slice ay ny cy] 25)) (below2Z b2 b3))
  have FE := Lib.hid ((cellsAt_made (w := w.alloc (.cells #[.slice ax nx cx, .slice ay ny cy] 25)) (cs := #[.int .i64 1, .string ⟨u.toArray⟩, .string ⟨o.toArray⟩, .int .i64 id, .int .i64 a, .int .i64 b, .int .i64 c, .string ⟨st.toArray⟩]) (vs := evVals ⟨1, u, o, id, ⟨a, b, c, st⟩⟩) rfl 29 (B := w.heap.size + 1) (by simp)).later b3)
  have FR : Hid ((((w.alloc (.cells #[.slice ax nx cx, .slice ay ny cy] 25)).alloc (.cells #[.int .i64 1, .string ⟨u.toArray⟩, .string ⟨o.toArray⟩, .int .i64 id, .int .i64 a, .int .i64 b, .int .i64 c, .string ⟨st.toArray⟩] 29)).alloc (.cells #[.slice none 0 0, .slice none 0 0] 25)).heap[w.heap.size + 1 + 1]? = some (.cells #[.slice none 0 0, .slice none 0 0] 25 (0, 0))) := by
    have hz := heap_newT ((w.alloc (.cells #[.slice ax nx cx, .slice ay ny cy] 25)).alloc (.cells #[.int .i64 1, .string ⟨u.toArray⟩, .string ⟨o.toArray⟩, .int .i64 id, .int .i64 a, .int .i64 b, .int .i64 c, .string ⟨st.toArray⟩] 29)) (.cells #[.slice none 0 0, .slice none 0 0] 25)
    simp only [World.size_alloc] at hz
    exact hz
  have HE := Lib.hid he
  have HS := Lib.hid hs
  obtain ⟨s0, s1, f0, f1⟩ := two_T FS.out
  obtain ⟨e0, e1, e2, e3, e4, e5, e6, e7⟩ := eightT FE.out
  clear b1 b2 b3 b123 h he hs
  clear hm hd
  go_enter Tryz.func15, Tryz.ntmps15
  go_wp2_with fail
  refine (stmay_any H.out HE.out HS.out HM).mono ?_
  rintro e w1 ⟨rfl, c1⟩
  replace HB := Lib.hid (below2Z HB.out c1)
  replace H := Lib.hid (H.out.later c1)
  replace FS := Lib.hid (upT FS.out c1)
  replace FE := Lib.hid (FE.out.later c1)
  replace FR := Lib.hid (upT FR.out c1)
  clear s0 s1 f0 f1 e0 e1 e2 e3 e4 e5 e6 e7 c1
  obtain ⟨s0, s1, f0, f1⟩ := two_T FS.out
  obtain ⟨e0, e1, e2, e3, e4, e5, e6, e7⟩ := eightT FE.out
  obtain ⟨r0, r1, g0, g1⟩ := two_T FR.out
  go_wp2_with fail
  refine (rdo_any H.out.1 HE.out hl u o hu ho 1 (by decide) HD.out).mono ?_
  rintro e w2 ⟨x', rfl, hx, c2⟩
  obtain ⟨ap, np, cp, rfl⟩ : ∃ a n c, x' = .slice a n c := by obtain ⟨a, c, e, -⟩ := Ents.open' hx; exact ⟨_, _, _, e⟩
  replace HB := Lib.hid (below2Z HB.out c2)
  replace H := Lib.hid (H.out.later c2)
  replace FS := Lib.hid (upT FS.out c2)
  replace FE := Lib.hid (FE.out.later c2)
  replace FR := Lib.hid (upT FR.out c2)
  clear s0 s1 f0 f1 e0 e1 e2 e3 e4 e5 e6 e7 r0 r1 g0 g1 c2
  obtain ⟨s0, s1, f0, f1⟩ := two_T FS.out
  obtain ⟨e0, e1, e2, e3, e4, e5, e6, e7⟩ := eightT FE.out
  obtain ⟨r0, r1, g0, g1⟩ := two_T FR.out
  have HN : Hid (StAt w2 (.slice ap np cp) (.slice ay ny cy) ⟨m, t.s⟩) := Lib.hid ⟨hx, H.out.2⟩
  go_wp2_with fail
  obtain ⟨q1, q2, q3⟩ := st_one HN.out HB.out (Nat.le_refl _) FS.out H.out.sl 0 (.slice ap np cp) (show w.heap.size ≠ w.heap.size + 1 + 1 by omega) FR.out
  obtain ⟨z1, z2, o0, o1⟩ := st_fin q1 q2 (show w.heap.size ≤ w.heap.size + 1 + 1 by omega) q3 allSl_nil
  refine bodyPost_ret (v := .tuple #[.agg #[.slice ap np cp, .slice ay ny cy], .int .i64 n]) (by simp [results, Tryz.results15, go_sem, o0, o1]) rfl ⟨_, _, rfl, z1, z2⟩

set_option maxHeartbeats 3200000 in
set_option maxRecDepth 100000 in
theorem stdo_c2 {w : World} {ax ay : Option Addr} {nx cx ny cy : Nat} {t : Sta} (h : StAt w (.slice ax nx cx) (.slice ay ny cy) t) (he : ShortE t.e) (hl : t.e.length ≤ 900) (hs : ShortS t.s) (u o st : List UInt8) (id a b c : Int) (hu : u.length ≤ 4294967296) (ho : o.length ≤ 4294967296) (hst : st.length ≤ 4294967296) (hm : stMay t = true) {m : List Ent} {n : Nat} (hd : roDo t.e 2 u o = (m, n)) :
    Calls Tryz.prog 15 #[.agg #[.slice ax nx cx, .slice ay ny cy], .agg #[.int .i64 2, .string ⟨u.toArray⟩, .string ⟨o.toArray⟩, .int .i64 id, .int .i64 a, .int .i64 b, .int .i64 c, .string ⟨st.toArray⟩]] w fun e w' => ∃ x' y', e = .returned (.tuple #[.agg #[x', y'], .int .i64 n]) ∧ StAt w' x' y' ⟨m, t.s⟩ ∧ Below w.heap.size w w' := by
  have HM := Lib.hid hm
  have HD := Lib.hid hd
  have b1 := bl_newZ w (.cells #[.slice ax nx cx, .slice ay ny cy] 25)
  have b2 := bl_newZ (w.alloc (.cells #[.slice ax nx cx, .slice ay ny cy] 25)) (.cells #[.int .i64 2, .string ⟨u.toArray⟩, .string ⟨o.toArray⟩, .int .i64 id, .int .i64 a, .int .i64 b, .int .i64 c, .string ⟨st.toArray⟩] 29)
  have b3 := bl_newZ ((w.alloc (.cells #[.slice ax nx cx, .slice ay ny cy] 25)).alloc (.cells #[.int .i64 2, .string ⟨u.toArray⟩, .string ⟨o.toArray⟩, .int .i64 id, .int .i64 a, .int .i64 b, .int .i64 c, .string ⟨st.toArray⟩] 29)) (.cells #[.slice none 0 0, .slice none 0 0] 25)
  have b123 := below2Z b1 (below2Z b2 b3)
  have HB := Lib.hid b123
  have H := Lib.hid (h.later b123)
  have FS := Lib.hid (upT (heap_newT w (.cells #[.slice ax nx cx, .slice ay ny cy] 25)) (below2Z b2 b3))
  have FE := Lib.hid ((cellsAt_made (w := w.alloc (.cells #[.slice ax nx cx, .slice ay ny cy] 25)) (cs := #[.int .i64 2, .string ⟨u.toArray⟩, .string ⟨o.toArray⟩, .int .i64 id, .int .i64 a, .int .i64 b, .int .i64 c, .string ⟨st.toArray⟩]) (vs := evVals ⟨2, u, o, id, ⟨a, b, c, st⟩⟩) rfl 29 (B := w.heap.size + 1) (by simp)).later b3)
  have FR : Hid ((((w.alloc (.cells #[.slice ax nx cx, .slice ay ny cy] 25)).alloc (.cells #[.int .i64 2, .string ⟨u.toArray⟩, .string ⟨o.toArray⟩, .int .i64 id, .int .i64 a, .int .i64 b, .int .i64 c, .string ⟨st.toArray⟩] 29)).alloc (.cells #[.slice none 0 0, .slice none 0 0] 25)).heap[w.heap.size + 1 + 1]? = some (.cells #[.slice none 0 0, .slice none 0 0] 25 (0, 0))) := by
    have hz := heap_newT ((w.alloc (.cells #[.slice ax nx cx, .slice ay ny cy] 25)).alloc (.cells #[.int .i64 2, .string ⟨u.toArray⟩, .string ⟨o.toArray⟩, .int .i64 id, .int .i64 a, .int .i64 b, .int .i64 c, .string ⟨st.toArray⟩] 29)) (.cells #[.slice none 0 0, .slice none 0 0] 25)
    simp only [World.size_alloc] at hz
    exact hz
  have HE := Lib.hid he
  have HS := Lib.hid hs
  obtain ⟨s0, s1, f0, f1⟩ := two_T FS.out
  obtain ⟨e0, e1, e2, e3, e4, e5, e6, e7⟩ := eightT FE.out
  clear b1 b2 b3 b123 h he hs
  clear hm hd
  go_enter Tryz.func15, Tryz.ntmps15
  go_wp2_with fail
  refine (stmay_any H.out HE.out HS.out HM).mono ?_
  rintro e w1 ⟨rfl, c1⟩
  replace HB := Lib.hid (below2Z HB.out c1)
  replace H := Lib.hid (H.out.later c1)
  replace FS := Lib.hid (upT FS.out c1)
  replace FE := Lib.hid (FE.out.later c1)
  replace FR := Lib.hid (upT FR.out c1)
  clear s0 s1 f0 f1 e0 e1 e2 e3 e4 e5 e6 e7 c1
  obtain ⟨s0, s1, f0, f1⟩ := two_T FS.out
  obtain ⟨e0, e1, e2, e3, e4, e5, e6, e7⟩ := eightT FE.out
  obtain ⟨r0, r1, g0, g1⟩ := two_T FR.out
  go_wp2_with fail
  refine (rdo_any H.out.1 HE.out hl u o hu ho 2 (by decide) HD.out).mono ?_
  rintro e w2 ⟨x', rfl, hx, c2⟩
  obtain ⟨ap, np, cp, rfl⟩ : ∃ a n c, x' = .slice a n c := by obtain ⟨a, c, e, -⟩ := Ents.open' hx; exact ⟨_, _, _, e⟩
  replace HB := Lib.hid (below2Z HB.out c2)
  replace H := Lib.hid (H.out.later c2)
  replace FS := Lib.hid (upT FS.out c2)
  replace FE := Lib.hid (FE.out.later c2)
  replace FR := Lib.hid (upT FR.out c2)
  clear s0 s1 f0 f1 e0 e1 e2 e3 e4 e5 e6 e7 r0 r1 g0 g1 c2
  obtain ⟨s0, s1, f0, f1⟩ := two_T FS.out
  obtain ⟨e0, e1, e2, e3, e4, e5, e6, e7⟩ := eightT FE.out
  obtain ⟨r0, r1, g0, g1⟩ := two_T FR.out
  have HN : Hid (StAt w2 (.slice ap np cp) (.slice ay ny cy) ⟨m, t.s⟩) := Lib.hid ⟨hx, H.out.2⟩
  go_wp2_with fail
  obtain ⟨q1, q2, q3⟩ := st_one HN.out HB.out (Nat.le_refl _) FS.out H.out.sl 0 (.slice ap np cp) (show w.heap.size ≠ w.heap.size + 1 + 1 by omega) FR.out
  obtain ⟨z1, z2, o0, o1⟩ := st_fin q1 q2 (show w.heap.size ≤ w.heap.size + 1 + 1 by omega) q3 allSl_nil
  refine bodyPost_ret (v := .tuple #[.agg #[.slice ap np cp, .slice ay ny cy], .int .i64 n]) (by simp [results, Tryz.results15, go_sem, o0, o1]) rfl ⟨_, _, rfl, z1, z2⟩

set_option maxHeartbeats 3200000 in
set_option maxRecDepth 100000 in
theorem stdo_c3 {w : World} {ax ay : Option Addr} {nx cx ny cy : Nat} {t : Sta} (h : StAt w (.slice ax nx cx) (.slice ay ny cy) t) (he : ShortE t.e) (hl : t.e.length ≤ 900) (hs : ShortS t.s) (u o st : List UInt8) (id a b c : Int) (hu : u.length ≤ 4294967296) (ho : o.length ≤ 4294967296) (hst : st.length ≤ 4294967296) (hm : stMay t = true) {m : List Ent} {n : Nat} (hd : roDo t.e 3 u o = (m, n)) :
    Calls Tryz.prog 15 #[.agg #[.slice ax nx cx, .slice ay ny cy], .agg #[.int .i64 3, .string ⟨u.toArray⟩, .string ⟨o.toArray⟩, .int .i64 id, .int .i64 a, .int .i64 b, .int .i64 c, .string ⟨st.toArray⟩]] w fun e w' => ∃ x' y', e = .returned (.tuple #[.agg #[x', y'], .int .i64 n]) ∧ StAt w' x' y' ⟨m, t.s⟩ ∧ Below w.heap.size w w' := by
  have HM := Lib.hid hm
  have HD := Lib.hid hd
  have b1 := bl_newZ w (.cells #[.slice ax nx cx, .slice ay ny cy] 25)
  have b2 := bl_newZ (w.alloc (.cells #[.slice ax nx cx, .slice ay ny cy] 25)) (.cells #[.int .i64 3, .string ⟨u.toArray⟩, .string ⟨o.toArray⟩, .int .i64 id, .int .i64 a, .int .i64 b, .int .i64 c, .string ⟨st.toArray⟩] 29)
  have b3 := bl_newZ ((w.alloc (.cells #[.slice ax nx cx, .slice ay ny cy] 25)).alloc (.cells #[.int .i64 3, .string ⟨u.toArray⟩, .string ⟨o.toArray⟩, .int .i64 id, .int .i64 a, .int .i64 b, .int .i64 c, .string ⟨st.toArray⟩] 29)) (.cells #[.slice none 0 0, .slice none 0 0] 25)
  have b123 := below2Z b1 (below2Z b2 b3)
  have HB := Lib.hid b123
  have H := Lib.hid (h.later b123)
  have FS := Lib.hid (upT (heap_newT w (.cells #[.slice ax nx cx, .slice ay ny cy] 25)) (below2Z b2 b3))
  have FE := Lib.hid ((cellsAt_made (w := w.alloc (.cells #[.slice ax nx cx, .slice ay ny cy] 25)) (cs := #[.int .i64 3, .string ⟨u.toArray⟩, .string ⟨o.toArray⟩, .int .i64 id, .int .i64 a, .int .i64 b, .int .i64 c, .string ⟨st.toArray⟩]) (vs := evVals ⟨3, u, o, id, ⟨a, b, c, st⟩⟩) rfl 29 (B := w.heap.size + 1) (by simp)).later b3)
  have FR : Hid ((((w.alloc (.cells #[.slice ax nx cx, .slice ay ny cy] 25)).alloc (.cells #[.int .i64 3, .string ⟨u.toArray⟩, .string ⟨o.toArray⟩, .int .i64 id, .int .i64 a, .int .i64 b, .int .i64 c, .string ⟨st.toArray⟩] 29)).alloc (.cells #[.slice none 0 0, .slice none 0 0] 25)).heap[w.heap.size + 1 + 1]? = some (.cells #[.slice none 0 0, .slice none 0 0] 25 (0, 0))) := by
    have hz := heap_newT ((w.alloc (.cells #[.slice ax nx cx, .slice ay ny cy] 25)).alloc (.cells #[.int .i64 3, .string ⟨u.toArray⟩, .string ⟨o.toArray⟩, .int .i64 id, .int .i64 a, .int .i64 b, .int .i64 c, .string ⟨st.toArray⟩] 29)) (.cells #[.slice none 0 0, .slice none 0 0] 25)
    simp only [World.size_alloc] at hz
    exact hz
  have HE := Lib.hid he
  have HS := Lib.hid hs
  obtain ⟨s0, s1, f0, f1⟩ := two_T FS.out
  obtain ⟨e0, e1, e2, e3, e4, e5, e6, e7⟩ := eightT FE.out
  clear b1 b2 b3 b123 h he hs
  clear hm hd
  go_enter Tryz.func15, Tryz.ntmps15
  go_wp2_with fail
  refine (stmay_any H.out HE.out HS.out HM).mono ?_
  rintro e w1 ⟨rfl, c1⟩
  replace HB := Lib.hid (below2Z HB.out c1)
  replace H := Lib.hid (H.out.later c1)
  replace FS := Lib.hid (upT FS.out c1)
  replace FE := Lib.hid (FE.out.later c1)
  replace FR := Lib.hid (upT FR.out c1)
  clear s0 s1 f0 f1 e0 e1 e2 e3 e4 e5 e6 e7 c1
  obtain ⟨s0, s1, f0, f1⟩ := two_T FS.out
  obtain ⟨e0, e1, e2, e3, e4, e5, e6, e7⟩ := eightT FE.out
  obtain ⟨r0, r1, g0, g1⟩ := two_T FR.out
  go_wp2_with fail
  refine (rdo_any H.out.1 HE.out hl u o hu ho 3 (by decide) HD.out).mono ?_
  rintro e w2 ⟨x', rfl, hx, c2⟩
  obtain ⟨ap, np, cp, rfl⟩ : ∃ a n c, x' = .slice a n c := by obtain ⟨a, c, e, -⟩ := Ents.open' hx; exact ⟨_, _, _, e⟩
  replace HB := Lib.hid (below2Z HB.out c2)
  replace H := Lib.hid (H.out.later c2)
  replace FS := Lib.hid (upT FS.out c2)
  replace FE := Lib.hid (FE.out.later c2)
  replace FR := Lib.hid (upT FR.out c2)
  clear s0 s1 f0 f1 e0 e1 e2 e3 e4 e5 e6 e7 r0 r1 g0 g1 c2
  obtain ⟨s0, s1, f0, f1⟩ := two_T FS.out
  obtain ⟨e0, e1, e2, e3, e4, e5, e6, e7⟩ := eightT FE.out
  obtain ⟨r0, r1, g0, g1⟩ := two_T FR.out
  have HN : Hid (StAt w2 (.slice ap np cp) (.slice ay ny cy) ⟨m, t.s⟩) := Lib.hid ⟨hx, H.out.2⟩
  go_wp2_with fail
  obtain ⟨q1, q2, q3⟩ := st_one HN.out HB.out (Nat.le_refl _) FS.out H.out.sl 0 (.slice ap np cp) (show w.heap.size ≠ w.heap.size + 1 + 1 by omega) FR.out
  obtain ⟨z1, z2, o0, o1⟩ := st_fin q1 q2 (show w.heap.size ≤ w.heap.size + 1 + 1 by omega) q3 allSl_nil
  refine bodyPost_ret (v := .tuple #[.agg #[.slice ap np cp, .slice ay ny cy], .int .i64 n]) (by simp [results, Tryz.results15, go_sem, o0, o1]) rfl ⟨_, _, rfl, z1, z2⟩

set_option maxHeartbeats 3200000 in
set_option maxRecDepth 100000 in
theorem stdo_c4 {w : World} {ax ay : Option Addr} {nx cx ny cy : Nat} {t : Sta} (h : StAt w (.slice ax nx cx) (.slice ay ny cy) t) (he : ShortE t.e) (hl : t.e.length ≤ 900) (hs : ShortS t.s) (u o st : List UInt8) (id a b c : Int) (hu : u.length ≤ 4294967296) (ho : o.length ≤ 4294967296) (hst : st.length ≤ 4294967296) (hm : stMay t = true) {m : List Ent} {n : Nat} (hd : roDo t.e 4 u o = (m, n)) :
    Calls Tryz.prog 15 #[.agg #[.slice ax nx cx, .slice ay ny cy], .agg #[.int .i64 4, .string ⟨u.toArray⟩, .string ⟨o.toArray⟩, .int .i64 id, .int .i64 a, .int .i64 b, .int .i64 c, .string ⟨st.toArray⟩]] w fun e w' => ∃ x' y', e = .returned (.tuple #[.agg #[x', y'], .int .i64 n]) ∧ StAt w' x' y' ⟨m, t.s⟩ ∧ Below w.heap.size w w' := by
  have HM := Lib.hid hm
  have HD := Lib.hid hd
  have b1 := bl_newZ w (.cells #[.slice ax nx cx, .slice ay ny cy] 25)
  have b2 := bl_newZ (w.alloc (.cells #[.slice ax nx cx, .slice ay ny cy] 25)) (.cells #[.int .i64 4, .string ⟨u.toArray⟩, .string ⟨o.toArray⟩, .int .i64 id, .int .i64 a, .int .i64 b, .int .i64 c, .string ⟨st.toArray⟩] 29)
  have b3 := bl_newZ ((w.alloc (.cells #[.slice ax nx cx, .slice ay ny cy] 25)).alloc (.cells #[.int .i64 4, .string ⟨u.toArray⟩, .string ⟨o.toArray⟩, .int .i64 id, .int .i64 a, .int .i64 b, .int .i64 c, .string ⟨st.toArray⟩] 29)) (.cells #[.slice none 0 0, .slice none 0 0] 25)
  have b123 := below2Z b1 (below2Z b2 b3)
  have HB := Lib.hid b123
  have H := Lib.hid (h.later b123)
  have FS := Lib.hid (upT (heap_newT w (.cells #[.slice ax nx cx, .slice ay ny cy] 25)) (below2Z b2 b3))
  have FE := Lib.hid ((cellsAt_made (w := w.alloc (.cells #[.slice ax nx cx, .slice ay ny cy] 25)) (cs := #[.int .i64 4, .string ⟨u.toArray⟩, .string ⟨o.toArray⟩, .int .i64 id, .int .i64 a, .int .i64 b, .int .i64 c, .string ⟨st.toArray⟩]) (vs := evVals ⟨4, u, o, id, ⟨a, b, c, st⟩⟩) rfl 29 (B := w.heap.size + 1) (by simp)).later b3)
  have FR : Hid ((((w.alloc (.cells #[.slice ax nx cx, .slice ay ny cy] 25)).alloc (.cells #[.int .i64 4, .string ⟨u.toArray⟩, .string ⟨o.toArray⟩, .int .i64 id, .int .i64 a, .int .i64 b, .int .i64 c, .string ⟨st.toArray⟩] 29)).alloc (.cells #[.slice none 0 0, .slice none 0 0] 25)).heap[w.heap.size + 1 + 1]? = some (.cells #[.slice none 0 0, .slice none 0 0] 25 (0, 0))) := by
    have hz := heap_newT ((w.alloc (.cells #[.slice ax nx cx, .slice ay ny cy] 25)).alloc (.cells #[.int .i64 4, .string ⟨u.toArray⟩, .string ⟨o.toArray⟩, .int .i64 id, .int .i64 a, .int .i64 b, .int .i64 c, .string ⟨st.toArray⟩] 29)) (.cells #[.slice none 0 0, .slice none 0 0] 25)
    simp only [World.size_alloc] at hz
    exact hz
  have HE := Lib.hid he
  have HS := Lib.hid hs
  obtain ⟨s0, s1, f0, f1⟩ := two_T FS.out
  obtain ⟨e0, e1, e2, e3, e4, e5, e6, e7⟩ := eightT FE.out
  clear b1 b2 b3 b123 h he hs
  clear hm hd
  go_enter Tryz.func15, Tryz.ntmps15
  go_wp2_with fail
  refine (stmay_any H.out HE.out HS.out HM).mono ?_
  rintro e w1 ⟨rfl, c1⟩
  replace HB := Lib.hid (below2Z HB.out c1)
  replace H := Lib.hid (H.out.later c1)
  replace FS := Lib.hid (upT FS.out c1)
  replace FE := Lib.hid (FE.out.later c1)
  replace FR := Lib.hid (upT FR.out c1)
  clear s0 s1 f0 f1 e0 e1 e2 e3 e4 e5 e6 e7 c1
  obtain ⟨s0, s1, f0, f1⟩ := two_T FS.out
  obtain ⟨e0, e1, e2, e3, e4, e5, e6, e7⟩ := eightT FE.out
  obtain ⟨r0, r1, g0, g1⟩ := two_T FR.out
  go_wp2_with fail
  refine (rdo_any H.out.1 HE.out hl u o hu ho 4 (by decide) HD.out).mono ?_
  rintro e w2 ⟨x', rfl, hx, c2⟩
  obtain ⟨ap, np, cp, rfl⟩ : ∃ a n c, x' = .slice a n c := by obtain ⟨a, c, e, -⟩ := Ents.open' hx; exact ⟨_, _, _, e⟩
  replace HB := Lib.hid (below2Z HB.out c2)
  replace H := Lib.hid (H.out.later c2)
  replace FS := Lib.hid (upT FS.out c2)
  replace FE := Lib.hid (FE.out.later c2)
  replace FR := Lib.hid (upT FR.out c2)
  clear s0 s1 f0 f1 e0 e1 e2 e3 e4 e5 e6 e7 r0 r1 g0 g1 c2
  obtain ⟨s0, s1, f0, f1⟩ := two_T FS.out
  obtain ⟨e0, e1, e2, e3, e4, e5, e6, e7⟩ := eightT FE.out
  obtain ⟨r0, r1, g0, g1⟩ := two_T FR.out
  have HN : Hid (StAt w2 (.slice ap np cp) (.slice ay ny cy) ⟨m, t.s⟩) := Lib.hid ⟨hx, H.out.2⟩
  go_wp2_with fail
  obtain ⟨q1, q2, q3⟩ := st_one HN.out HB.out (Nat.le_refl _) FS.out H.out.sl 0 (.slice ap np cp) (show w.heap.size ≠ w.heap.size + 1 + 1 by omega) FR.out
  obtain ⟨z1, z2, o0, o1⟩ := st_fin q1 q2 (show w.heap.size ≤ w.heap.size + 1 + 1 by omega) q3 allSl_nil
  refine bodyPost_ret (v := .tuple #[.agg #[.slice ap np cp, .slice ay ny cy], .int .i64 n]) (by simp [results, Tryz.results15, go_sem, o0, o1]) rfl ⟨_, _, rfl, z1, z2⟩

set_option maxHeartbeats 3200000 in
set_option maxRecDepth 100000 in
theorem stdo_c5 {w : World} {ax ay : Option Addr} {nx cx ny cy : Nat} {t : Sta} (h : StAt w (.slice ax nx cx) (.slice ay ny cy) t) (he : ShortE t.e) (hl : t.e.length ≤ 900) (hs : ShortS t.s) (u o st : List UInt8) (id a b c : Int) (hu : u.length ≤ 4294967296) (ho : o.length ≤ 4294967296) (hst : st.length ≤ 4294967296) (hm : stMay t = true) {m : List Ent} {n : Nat} (hd : roDo t.e 5 u o = (m, n)) :
    Calls Tryz.prog 15 #[.agg #[.slice ax nx cx, .slice ay ny cy], .agg #[.int .i64 5, .string ⟨u.toArray⟩, .string ⟨o.toArray⟩, .int .i64 id, .int .i64 a, .int .i64 b, .int .i64 c, .string ⟨st.toArray⟩]] w fun e w' => ∃ x' y', e = .returned (.tuple #[.agg #[x', y'], .int .i64 n]) ∧ StAt w' x' y' ⟨m, t.s⟩ ∧ Below w.heap.size w w' := by
  have HM := Lib.hid hm
  have HD := Lib.hid hd
  have b1 := bl_newZ w (.cells #[.slice ax nx cx, .slice ay ny cy] 25)
  have b2 := bl_newZ (w.alloc (.cells #[.slice ax nx cx, .slice ay ny cy] 25)) (.cells #[.int .i64 5, .string ⟨u.toArray⟩, .string ⟨o.toArray⟩, .int .i64 id, .int .i64 a, .int .i64 b, .int .i64 c, .string ⟨st.toArray⟩] 29)
  have b3 := bl_newZ ((w.alloc (.cells #[.slice ax nx cx, .slice ay ny cy] 25)).alloc (.cells #[.int .i64 5, .string ⟨u.toArray⟩, .string ⟨o.toArray⟩, .int .i64 id, .int .i64 a, .int .i64 b, .int .i64 c, .string ⟨st.toArray⟩] 29)) (.cells #[.slice none 0 0, .slice none 0 0] 25)
  have b123 := below2Z b1 (below2Z b2 b3)
  have HB := Lib.hid b123
  have H := Lib.hid (h.later b123)
  have FS := Lib.hid (upT (heap_newT w (.cells #[.slice ax nx cx, .slice ay ny cy] 25)) (below2Z b2 b3))
  have FE := Lib.hid ((cellsAt_made (w := w.alloc (.cells #[.slice ax nx cx, .slice ay ny cy] 25)) (cs := #[.int .i64 5, .string ⟨u.toArray⟩, .string ⟨o.toArray⟩, .int .i64 id, .int .i64 a, .int .i64 b, .int .i64 c, .string ⟨st.toArray⟩]) (vs := evVals ⟨5, u, o, id, ⟨a, b, c, st⟩⟩) rfl 29 (B := w.heap.size + 1) (by simp)).later b3)
  have FR : Hid ((((w.alloc (.cells #[.slice ax nx cx, .slice ay ny cy] 25)).alloc (.cells #[.int .i64 5, .string ⟨u.toArray⟩, .string ⟨o.toArray⟩, .int .i64 id, .int .i64 a, .int .i64 b, .int .i64 c, .string ⟨st.toArray⟩] 29)).alloc (.cells #[.slice none 0 0, .slice none 0 0] 25)).heap[w.heap.size + 1 + 1]? = some (.cells #[.slice none 0 0, .slice none 0 0] 25 (0, 0))) := by
    have hz := heap_newT ((w.alloc (.cells #[.slice ax nx cx, .slice ay ny cy] 25)).alloc (.cells #[.int .i64 5, .string ⟨u.toArray⟩, .string ⟨o.toArray⟩, .int .i64 id, .int .i64 a, .int .i64 b, .int .i64 c, .string ⟨st.toArray⟩] 29)) (.cells #[.slice none 0 0, .slice none 0 0] 25)
    simp only [World.size_alloc] at hz
    exact hz
  have HE := Lib.hid he
  have HS := Lib.hid hs
  obtain ⟨s0, s1, f0, f1⟩ := two_T FS.out
  obtain ⟨e0, e1, e2, e3, e4, e5, e6, e7⟩ := eightT FE.out
  clear b1 b2 b3 b123 h he hs
  clear hm hd
  go_enter Tryz.func15, Tryz.ntmps15
  go_wp2_with fail
  refine (stmay_any H.out HE.out HS.out HM).mono ?_
  rintro e w1 ⟨rfl, c1⟩
  replace HB := Lib.hid (below2Z HB.out c1)
  replace H := Lib.hid (H.out.later c1)
  replace FS := Lib.hid (upT FS.out c1)
  replace FE := Lib.hid (FE.out.later c1)
  replace FR := Lib.hid (upT FR.out c1)
  clear s0 s1 f0 f1 e0 e1 e2 e3 e4 e5 e6 e7 c1
  obtain ⟨s0, s1, f0, f1⟩ := two_T FS.out
  obtain ⟨e0, e1, e2, e3, e4, e5, e6, e7⟩ := eightT FE.out
  obtain ⟨r0, r1, g0, g1⟩ := two_T FR.out
  go_wp2_with fail
  refine (rdo_any H.out.1 HE.out hl u o hu ho 5 (by decide) HD.out).mono ?_
  rintro e w2 ⟨x', rfl, hx, c2⟩
  obtain ⟨ap, np, cp, rfl⟩ : ∃ a n c, x' = .slice a n c := by obtain ⟨a, c, e, -⟩ := Ents.open' hx; exact ⟨_, _, _, e⟩
  replace HB := Lib.hid (below2Z HB.out c2)
  replace H := Lib.hid (H.out.later c2)
  replace FS := Lib.hid (upT FS.out c2)
  replace FE := Lib.hid (FE.out.later c2)
  replace FR := Lib.hid (upT FR.out c2)
  clear s0 s1 f0 f1 e0 e1 e2 e3 e4 e5 e6 e7 r0 r1 g0 g1 c2
  obtain ⟨s0, s1, f0, f1⟩ := two_T FS.out
  obtain ⟨e0, e1, e2, e3, e4, e5, e6, e7⟩ := eightT FE.out
  obtain ⟨r0, r1, g0, g1⟩ := two_T FR.out
  have HN : Hid (StAt w2 (.slice ap np cp) (.slice ay ny cy) ⟨m, t.s⟩) := Lib.hid ⟨hx, H.out.2⟩
  go_wp2_with fail
  obtain ⟨q1, q2, q3⟩ := st_one HN.out HB.out (Nat.le_refl _) FS.out H.out.sl 0 (.slice ap np cp) (show w.heap.size ≠ w.heap.size + 1 + 1 by omega) FR.out
  obtain ⟨z1, z2, o0, o1⟩ := st_fin q1 q2 (show w.heap.size ≤ w.heap.size + 1 + 1 by omega) q3 allSl_nil
  refine bodyPost_ret (v := .tuple #[.agg #[.slice ap np cp, .slice ay ny cy], .int .i64 n]) (by simp [results, Tryz.results15, go_sem, o0, o1]) rfl ⟨_, _, rfl, z1, z2⟩

set_option maxHeartbeats 3200000 in
set_option maxRecDepth 100000 in
theorem stdo_c6 {w : World} {ax ay : Option Addr} {nx cx ny cy : Nat} {t : Sta} (h : StAt w (.slice ax nx cx) (.slice ay ny cy) t) (he : ShortE t.e) (hl : t.e.length ≤ 900) (hs : ShortS t.s) (u o st : List UInt8) (id a b c : Int) (hu : u.length ≤ 4294967296) (ho : o.length ≤ 4294967296) (hst : st.length ≤ 4294967296) (hm : stMay t = true) {m : List Ent} {n : Nat} (hd : roDo t.e 6 u o = (m, n)) :
    Calls Tryz.prog 15 #[.agg #[.slice ax nx cx, .slice ay ny cy], .agg #[.int .i64 6, .string ⟨u.toArray⟩, .string ⟨o.toArray⟩, .int .i64 id, .int .i64 a, .int .i64 b, .int .i64 c, .string ⟨st.toArray⟩]] w fun e w' => ∃ x' y', e = .returned (.tuple #[.agg #[x', y'], .int .i64 n]) ∧ StAt w' x' y' ⟨m, t.s⟩ ∧ Below w.heap.size w w' := by
  have HM := Lib.hid hm
  have HD := Lib.hid hd
  have b1 := bl_newZ w (.cells #[.slice ax nx cx, .slice ay ny cy] 25)
  have b2 := bl_newZ (w.alloc (.cells #[.slice ax nx cx, .slice ay ny cy] 25)) (.cells #[.int .i64 6, .string ⟨u.toArray⟩, .string ⟨o.toArray⟩, .int .i64 id, .int .i64 a, .int .i64 b, .int .i64 c, .string ⟨st.toArray⟩] 29)
  have b3 := bl_newZ ((w.alloc (.cells #[.slice ax nx cx, .slice ay ny cy] 25)).alloc (.cells #[.int .i64 6, .string ⟨u.toArray⟩, .string ⟨o.toArray⟩, .int .i64 id, .int .i64 a, .int .i64 b, .int .i64 c, .string ⟨st.toArray⟩] 29)) (.cells #[.slice none 0 0, .slice none 0 0] 25)
  have b123 := below2Z b1 (below2Z b2 b3)
  have HB := Lib.hid b123
  have H := Lib.hid (h.later b123)
  have FS := Lib.hid (upT (heap_newT w (.cells #[.slice ax nx cx, .slice ay ny cy] 25)) (below2Z b2 b3))
  have FE := Lib.hid ((cellsAt_made (w := w.alloc (.cells #[.slice ax nx cx, .slice ay ny cy] 25)) (cs := #[.int .i64 6, .string ⟨u.toArray⟩, .string ⟨o.toArray⟩, .int .i64 id, .int .i64 a, .int .i64 b, .int .i64 c, .string ⟨st.toArray⟩]) (vs := evVals ⟨6, u, o, id, ⟨a, b, c, st⟩⟩) rfl 29 (B := w.heap.size + 1) (by simp)).later b3)
  have FR : Hid ((((w.alloc (.cells #[.slice ax nx cx, .slice ay ny cy] 25)).alloc (.cells #[.int .i64 6, .string ⟨u.toArray⟩, .string ⟨o.toArray⟩, .int .i64 id, .int .i64 a, .int .i64 b, .int .i64 c, .string ⟨st.toArray⟩] 29)).alloc (.cells #[.slice none 0 0, .slice none 0 0] 25)).heap[w.heap.size + 1 + 1]? = some (.cells #[.slice none 0 0, .slice none 0 0] 25 (0, 0))) := by
    have hz := heap_newT ((w.alloc (.cells #[.slice ax nx cx, .slice ay ny cy] 25)).alloc (.cells #[.int .i64 6, .string ⟨u.toArray⟩, .string ⟨o.toArray⟩, .int .i64 id, .int .i64 a, .int .i64 b, .int .i64 c, .string ⟨st.toArray⟩] 29)) (.cells #[.slice none 0 0, .slice none 0 0] 25)
    simp only [World.size_alloc] at hz
    exact hz
  have HE := Lib.hid he
  have HS := Lib.hid hs
  obtain ⟨s0, s1, f0, f1⟩ := two_T FS.out
  obtain ⟨e0, e1, e2, e3, e4, e5, e6, e7⟩ := eightT FE.out
  clear b1 b2 b3 b123 h he hs
  clear hm hd
  go_enter Tryz.func15, Tryz.ntmps15
  go_wp2_with fail
  refine (stmay_any H.out HE.out HS.out HM).mono ?_
  rintro e w1 ⟨rfl, c1⟩
  replace HB := Lib.hid (below2Z HB.out c1)
  replace H := Lib.hid (H.out.later c1)
  replace FS := Lib.hid (upT FS.out c1)
  replace FE := Lib.hid (FE.out.later c1)
  replace FR := Lib.hid (upT FR.out c1)
  clear s0 s1 f0 f1 e0 e1 e2 e3 e4 e5 e6 e7 c1
  obtain ⟨s0, s1, f0, f1⟩ := two_T FS.out
  obtain ⟨e0, e1, e2, e3, e4, e5, e6, e7⟩ := eightT FE.out
  obtain ⟨r0, r1, g0, g1⟩ := two_T FR.out
  go_wp2_with fail
  refine (rdo_any H.out.1 HE.out hl u o hu ho 6 (by decide) HD.out).mono ?_
  rintro e w2 ⟨x', rfl, hx, c2⟩
  obtain ⟨ap, np, cp, rfl⟩ : ∃ a n c, x' = .slice a n c := by obtain ⟨a, c, e, -⟩ := Ents.open' hx; exact ⟨_, _, _, e⟩
  replace HB := Lib.hid (below2Z HB.out c2)
  replace H := Lib.hid (H.out.later c2)
  replace FS := Lib.hid (upT FS.out c2)
  replace FE := Lib.hid (FE.out.later c2)
  replace FR := Lib.hid (upT FR.out c2)
  clear s0 s1 f0 f1 e0 e1 e2 e3 e4 e5 e6 e7 r0 r1 g0 g1 c2
  obtain ⟨s0, s1, f0, f1⟩ := two_T FS.out
  obtain ⟨e0, e1, e2, e3, e4, e5, e6, e7⟩ := eightT FE.out
  obtain ⟨r0, r1, g0, g1⟩ := two_T FR.out
  have HN : Hid (StAt w2 (.slice ap np cp) (.slice ay ny cy) ⟨m, t.s⟩) := Lib.hid ⟨hx, H.out.2⟩
  go_wp2_with fail
  obtain ⟨q1, q2, q3⟩ := st_one HN.out HB.out (Nat.le_refl _) FS.out H.out.sl 0 (.slice ap np cp) (show w.heap.size ≠ w.heap.size + 1 + 1 by omega) FR.out
  obtain ⟨z1, z2, o0, o1⟩ := st_fin q1 q2 (show w.heap.size ≤ w.heap.size + 1 + 1 by omega) q3 allSl_nil
  refine bodyPost_ret (v := .tuple #[.agg #[.slice ap np cp, .slice ay ny cy], .int .i64 n]) (by simp [results, Tryz.results15, go_sem, o0, o1]) rfl ⟨_, _, rfl, z1, z2⟩

set_option maxHeartbeats 3200000 in
set_option maxRecDepth 100000 in
theorem stdo_d {w : World} {ax ay : Option Addr} {nx cx ny cy : Nat} {t : Sta} (h : StAt w (.slice ax nx cx) (.slice ay ny cy) t) (he : ShortE t.e) (hl : t.e.length ≤ 900) (hs : ShortS t.s) (u o st : List UInt8) (id a b c : Int) (hu : u.length ≤ 4294967296) (ho : o.length ≤ 4294967296) (hst : st.length ≤ 4294967296) (hm : stMay t = true) {m : List Ses} {n : Nat} (hd : sePut t.s ⟨u, id, ⟨a, b, c, st⟩⟩ = (m, n)) :
    Calls Tryz.prog 15 #[.agg #[.slice ax nx cx, .slice ay ny cy], .agg #[.int .i64 7, .string ⟨u.toArray⟩, .string ⟨o.toArray⟩, .int .i64 id, .int .i64 a, .int .i64 b, .int .i64 c, .string ⟨st.toArray⟩]] w fun e w' => ∃ x' y', e = .returned (.tuple #[.agg #[x', y'], .int .i64 n]) ∧ StAt w' x' y' ⟨t.e, m⟩ ∧ Below w.heap.size w w' := by
  have HM := Lib.hid hm
  have HD := Lib.hid hd
  have b1 := bl_newZ w (.cells #[.slice ax nx cx, .slice ay ny cy] 25)
  have b2 := bl_newZ (w.alloc (.cells #[.slice ax nx cx, .slice ay ny cy] 25)) (.cells #[.int .i64 7, .string ⟨u.toArray⟩, .string ⟨o.toArray⟩, .int .i64 id, .int .i64 a, .int .i64 b, .int .i64 c, .string ⟨st.toArray⟩] 29)
  have b3 := bl_newZ ((w.alloc (.cells #[.slice ax nx cx, .slice ay ny cy] 25)).alloc (.cells #[.int .i64 7, .string ⟨u.toArray⟩, .string ⟨o.toArray⟩, .int .i64 id, .int .i64 a, .int .i64 b, .int .i64 c, .string ⟨st.toArray⟩] 29)) (.cells #[.slice none 0 0, .slice none 0 0] 25)
  have b123 := below2Z b1 (below2Z b2 b3)
  have HB := Lib.hid b123
  have H := Lib.hid (h.later b123)
  have FS := Lib.hid (upT (heap_newT w (.cells #[.slice ax nx cx, .slice ay ny cy] 25)) (below2Z b2 b3))
  have FE := Lib.hid ((cellsAt_made (w := w.alloc (.cells #[.slice ax nx cx, .slice ay ny cy] 25)) (cs := #[.int .i64 7, .string ⟨u.toArray⟩, .string ⟨o.toArray⟩, .int .i64 id, .int .i64 a, .int .i64 b, .int .i64 c, .string ⟨st.toArray⟩]) (vs := evVals ⟨7, u, o, id, ⟨a, b, c, st⟩⟩) rfl 29 (B := w.heap.size + 1) (by simp)).later b3)
  have FR : Hid ((((w.alloc (.cells #[.slice ax nx cx, .slice ay ny cy] 25)).alloc (.cells #[.int .i64 7, .string ⟨u.toArray⟩, .string ⟨o.toArray⟩, .int .i64 id, .int .i64 a, .int .i64 b, .int .i64 c, .string ⟨st.toArray⟩] 29)).alloc (.cells #[.slice none 0 0, .slice none 0 0] 25)).heap[w.heap.size + 1 + 1]? = some (.cells #[.slice none 0 0, .slice none 0 0] 25 (0, 0))) := by
    have hz := heap_newT ((w.alloc (.cells #[.slice ax nx cx, .slice ay ny cy] 25)).alloc (.cells #[.int .i64 7, .string ⟨u.toArray⟩, .string ⟨o.toArray⟩, .int .i64 id, .int .i64 a, .int .i64 b, .int .i64 c, .string ⟨st.toArray⟩] 29)) (.cells #[.slice none 0 0, .slice none 0 0] 25)
    simp only [World.size_alloc] at hz
    exact hz
  have HE := Lib.hid he
  have HS := Lib.hid hs
  obtain ⟨s0, s1, f0, f1⟩ := two_T FS.out
  obtain ⟨e0, e1, e2, e3, e4, e5, e6, e7⟩ := eightT FE.out
  clear b1 b2 b3 b123 h he hs
  clear hm hd
  go_enter Tryz.func15, Tryz.ntmps15
  go_wp2_with fail
  refine (stmay_any H.out HE.out HS.out HM).mono ?_
  rintro e w1 ⟨rfl, c1⟩
  replace HB := Lib.hid (below2Z HB.out c1)
  replace H := Lib.hid (H.out.later c1)
  replace FS := Lib.hid (upT FS.out c1)
  replace FE := Lib.hid (FE.out.later c1)
  replace FR := Lib.hid (upT FR.out c1)
  clear s0 s1 f0 f1 e0 e1 e2 e3 e4 e5 e6 e7 c1
  obtain ⟨s0, s1, f0, f1⟩ := two_T FS.out
  obtain ⟨e0, e1, e2, e3, e4, e5, e6, e7⟩ := eightT FE.out
  obtain ⟨r0, r1, g0, g1⟩ := two_T FR.out
  go_wp2_with fail
  refine (sput_any H.out.2 HS.out ⟨u, id, ⟨a, b, c, st⟩⟩ hu hst HD).mono ?_
  rintro e w2 ⟨x', rfl, hx, c2⟩
  obtain ⟨ap, np, cp, rfl⟩ : ∃ a n c, x' = .slice a n c := by obtain ⟨a, c, e, -⟩ := RdS.open' hx; exact ⟨_, _, _, e⟩
  replace HB := Lib.hid (below2Z HB.out c2)
  replace H := Lib.hid (H.out.later c2)
  replace FS := Lib.hid (upT FS.out c2)
  replace FE := Lib.hid (FE.out.later c2)
  replace FR := Lib.hid (upT FR.out c2)
  clear s0 s1 f0 f1 e0 e1 e2 e3 e4 e5 e6 e7 r0 r1 g0 g1 c2
  obtain ⟨s0, s1, f0, f1⟩ := two_T FS.out
  obtain ⟨e0, e1, e2, e3, e4, e5, e6, e7⟩ := eightT FE.out
  obtain ⟨r0, r1, g0, g1⟩ := two_T FR.out
  have HN : Hid (StAt w2 (.slice ax nx cx) (.slice ap np cp) ⟨t.e, m⟩) := Lib.hid ⟨H.out.1, hx⟩
  go_wp2_with fail
  obtain ⟨q1, q2, q3⟩ := st_one HN.out HB.out (Nat.le_refl _) FS.out H.out.sl 1 (.slice ap np cp) (show w.heap.size ≠ w.heap.size + 1 + 1 by omega) FR.out
  obtain ⟨z1, z2, o0, o1⟩ := st_fin q1 q2 (show w.heap.size ≤ w.heap.size + 1 + 1 by omega) q3 allSl_nil
  refine bodyPost_ret (v := .tuple #[.agg #[.slice ax nx cx, .slice ap np cp], .int .i64 n]) (by simp [results, Tryz.results15, go_sem, o0, o1]) rfl ⟨_, _, rfl, z1, z2⟩

set_option maxHeartbeats 3200000 in
set_option maxRecDepth 100000 in
theorem stdo_e {w : World} {ax ay : Option Addr} {nx cx ny cy : Nat} {t : Sta} (h : StAt w (.slice ax nx cx) (.slice ay ny cy) t) (he : ShortE t.e) (hl : t.e.length ≤ 900) (hs : ShortS t.s) (u o st : List UInt8) (id a b c : Int) (hu : u.length ≤ 4294967296) (ho : o.length ≤ 4294967296) (hst : st.length ≤ 4294967296) (hm : stMay t = true) {m : List Ses} {n : Nat} (hd : seDrop t.s u id = (m, n)) :
    Calls Tryz.prog 15 #[.agg #[.slice ax nx cx, .slice ay ny cy], .agg #[.int .i64 8, .string ⟨u.toArray⟩, .string ⟨o.toArray⟩, .int .i64 id, .int .i64 a, .int .i64 b, .int .i64 c, .string ⟨st.toArray⟩]] w fun e w' => ∃ x' y', e = .returned (.tuple #[.agg #[x', y'], .int .i64 n]) ∧ StAt w' x' y' ⟨t.e, m⟩ ∧ Below w.heap.size w w' := by
  have HM := Lib.hid hm
  have HD := Lib.hid hd
  have b1 := bl_newZ w (.cells #[.slice ax nx cx, .slice ay ny cy] 25)
  have b2 := bl_newZ (w.alloc (.cells #[.slice ax nx cx, .slice ay ny cy] 25)) (.cells #[.int .i64 8, .string ⟨u.toArray⟩, .string ⟨o.toArray⟩, .int .i64 id, .int .i64 a, .int .i64 b, .int .i64 c, .string ⟨st.toArray⟩] 29)
  have b3 := bl_newZ ((w.alloc (.cells #[.slice ax nx cx, .slice ay ny cy] 25)).alloc (.cells #[.int .i64 8, .string ⟨u.toArray⟩, .string ⟨o.toArray⟩, .int .i64 id, .int .i64 a, .int .i64 b, .int .i64 c, .string ⟨st.toArray⟩] 29)) (.cells #[.slice none 0 0, .slice none 0 0] 25)
  have b123 := below2Z b1 (below2Z b2 b3)
  have HB := Lib.hid b123
  have H := Lib.hid (h.later b123)
  have FS := Lib.hid (upT (heap_newT w (.cells #[.slice ax nx cx, .slice ay ny cy] 25)) (below2Z b2 b3))
  have FE := Lib.hid ((cellsAt_made (w := w.alloc (.cells #[.slice ax nx cx, .slice ay ny cy] 25)) (cs := #[.int .i64 8, .string ⟨u.toArray⟩, .string ⟨o.toArray⟩, .int .i64 id, .int .i64 a, .int .i64 b, .int .i64 c, .string ⟨st.toArray⟩]) (vs := evVals ⟨8, u, o, id, ⟨a, b, c, st⟩⟩) rfl 29 (B := w.heap.size + 1) (by simp)).later b3)
  have FR : Hid ((((w.alloc (.cells #[.slice ax nx cx, .slice ay ny cy] 25)).alloc (.cells #[.int .i64 8, .string ⟨u.toArray⟩, .string ⟨o.toArray⟩, .int .i64 id, .int .i64 a, .int .i64 b, .int .i64 c, .string ⟨st.toArray⟩] 29)).alloc (.cells #[.slice none 0 0, .slice none 0 0] 25)).heap[w.heap.size + 1 + 1]? = some (.cells #[.slice none 0 0, .slice none 0 0] 25 (0, 0))) := by
    have hz := heap_newT ((w.alloc (.cells #[.slice ax nx cx, .slice ay ny cy] 25)).alloc (.cells #[.int .i64 8, .string ⟨u.toArray⟩, .string ⟨o.toArray⟩, .int .i64 id, .int .i64 a, .int .i64 b, .int .i64 c, .string ⟨st.toArray⟩] 29)) (.cells #[.slice none 0 0, .slice none 0 0] 25)
    simp only [World.size_alloc] at hz
    exact hz
  have HE := Lib.hid he
  have HS := Lib.hid hs
  obtain ⟨s0, s1, f0, f1⟩ := two_T FS.out
  obtain ⟨e0, e1, e2, e3, e4, e5, e6, e7⟩ := eightT FE.out
  clear b1 b2 b3 b123 h he hs
  clear hm hd
  go_enter Tryz.func15, Tryz.ntmps15
  go_wp2_with fail
  refine (stmay_any H.out HE.out HS.out HM).mono ?_
  rintro e w1 ⟨rfl, c1⟩
  replace HB := Lib.hid (below2Z HB.out c1)
  replace H := Lib.hid (H.out.later c1)
  replace FS := Lib.hid (upT FS.out c1)
  replace FE := Lib.hid (FE.out.later c1)
  replace FR := Lib.hid (upT FR.out c1)
  clear s0 s1 f0 f1 e0 e1 e2 e3 e4 e5 e6 e7 c1
  obtain ⟨s0, s1, f0, f1⟩ := two_T FS.out
  obtain ⟨e0, e1, e2, e3, e4, e5, e6, e7⟩ := eightT FE.out
  obtain ⟨r0, r1, g0, g1⟩ := two_T FR.out
  go_wp2_with fail
  refine (sdrop_any H.out.2 HS.out u id HD).mono ?_
  rintro e w2 ⟨x', rfl, hx, c2⟩
  obtain ⟨ap, np, cp, rfl⟩ : ∃ a n c, x' = .slice a n c := by obtain ⟨a, c, e, -⟩ := RdS.open' hx; exact ⟨_, _, _, e⟩
  replace HB := Lib.hid (below2Z HB.out c2)
  replace H := Lib.hid (H.out.later c2)
  replace FS := Lib.hid (upT FS.out c2)
  replace FE := Lib.hid (FE.out.later c2)
  replace FR := Lib.hid (upT FR.out c2)
  clear s0 s1 f0 f1 e0 e1 e2 e3 e4 e5 e6 e7 r0 r1 g0 g1 c2
  obtain ⟨s0, s1, f0, f1⟩ := two_T FS.out
  obtain ⟨e0, e1, e2, e3, e4, e5, e6, e7⟩ := eightT FE.out
  obtain ⟨r0, r1, g0, g1⟩ := two_T FR.out
  have HN : Hid (StAt w2 (.slice ax nx cx) (.slice ap np cp) ⟨t.e, m⟩) := Lib.hid ⟨H.out.1, hx⟩
  go_wp2_with fail
  obtain ⟨q1, q2, q3⟩ := st_one HN.out HB.out (Nat.le_refl _) FS.out H.out.sl 1 (.slice ap np cp) (show w.heap.size ≠ w.heap.size + 1 + 1 by omega) FR.out
  obtain ⟨z1, z2, o0, o1⟩ := st_fin q1 q2 (show w.heap.size ≤ w.heap.size + 1 + 1 by omega) q3 allSl_nil
  refine bodyPost_ret (v := .tuple #[.agg #[.slice ax nx cx, .slice ap np cp], .int .i64 n]) (by simp [results, Tryz.results15, go_sem, o0, o1]) rfl ⟨_, _, rfl, z1, z2⟩

theorem stdo_any {w : World} {x y : Value} {t : Sta} (h : StAt w x y t) (he : ShortE t.e) (hl : t.e.length ≤ 900) (hs : ShortS t.s) (e : Ev) (hu : e.u.length ≤ 4294967296) (ho : e.o.length ≤ 4294967296) (hst : e.v.st.length ≤ 4294967296) {t' : Sta} {n : Nat} (hd : stApply t e = (t', n)) :
    Calls Tryz.prog 15 #[.agg #[x, y], .agg #[.int .i64 e.k, .string ⟨e.u.toArray⟩, .string ⟨e.o.toArray⟩, .int .i64 e.id, .int .i64 e.v.sh, .int .i64 e.v.pr, .int .i64 e.v.si, .string ⟨e.v.st.toArray⟩]] w fun z w' => ∃ x' y', z = .returned (.tuple #[.agg #[x', y'], .int .i64 n]) ∧ StAt w' x' y' t' ∧ Below w.heap.size w w' := by
  obtain ⟨ax, cx, rfl, -⟩ := h.1.open'
  obtain ⟨ay, cy, rfl, -⟩ := RdS.open' h.2
  cases hm : stMay t with
  | false =>
    rw [stApply_bad (.inl hm)] at hd
    obtain ⟨rfl, rfl⟩ := Prod.mk.inj hd
    exact stdo_a h he hl hs e.u e.o e.v.st e.id e.v.sh e.v.pr e.v.si hu ho hst e.k hm
  | true =>
    by_cases hb : e.k < 1 ∨ 8 < e.k
    · rw [stApply_bad (.inr hb)] at hd
      obtain ⟨rfl, rfl⟩ := Prod.mk.inj hd
      exact stdo_b h he hl hs e.u e.o e.v.st e.id e.v.sh e.v.pr e.v.si hu ho hst e.k hm hb
    · obtain ⟨k, u, o, id, v⟩ := e
      try simp only at hb hu ho hst
      by_cases h6 : k ≤ 6
      · obtain ⟨m, j, hr⟩ : ∃ m j, roDo t.e k u o = (m, j) := ⟨_, _, rfl⟩
        rw [stApply_do hm (by show 1 ≤ k; omega) h6 hr] at hd
        obtain ⟨rfl, rfl⟩ := Prod.mk.inj hd
        have hk : k = 1 ∨ k = 2 ∨ k = 3 ∨ k = 4 ∨ k = 5 ∨ k = 6 := by omega
        rcases hk with rfl | rfl | rfl | rfl | rfl | rfl
        · exact stdo_c1 h he hl hs u o v.st id v.sh v.pr v.si hu ho hst hm hr
        · exact stdo_c2 h he hl hs u o v.st id v.sh v.pr v.si hu ho hst hm hr
        · exact stdo_c3 h he hl hs u o v.st id v.sh v.pr v.si hu ho hst hm hr
        · exact stdo_c4 h he hl hs u o v.st id v.sh v.pr v.si hu ho hst hm hr
        · exact stdo_c5 h he hl hs u o v.st id v.sh v.pr v.si hu ho hst hm hr
        · exact stdo_c6 h he hl hs u o v.st id v.sh v.pr v.si hu ho hst hm hr
      · by_cases h7 : k = 7
        · obtain ⟨m, j, hr⟩ : ∃ m j, sePut t.s ⟨u, id, v⟩ = (m, j) := ⟨_, _, rfl⟩
          rw [stApply_put hm h7 hr] at hd
          obtain ⟨rfl, rfl⟩ := Prod.mk.inj hd
          subst h7
          exact stdo_d h he hl hs u o v.st id v.sh v.pr v.si hu ho hst hm hr
        · have h8 : k = 8 := by omega
          obtain ⟨m, j, hr⟩ : ∃ m j, seDrop t.s u id = (m, j) := ⟨_, _, rfl⟩
          rw [stApply_drop hm h8 hr] at hd
          obtain ⟨rfl, rfl⟩ := Prod.mk.inj hd
          subst h8
          exact stdo_e h he hl hs u o v.st id v.sh v.pr v.si hu ho hst hm hr

end Go.Proofs.YtdilcckoapaimaaGreat

end

section

/-
  A ROW OF ERRORS' NUMBERS THAT IS MADE, AND WRITTEN ONE BY ONE; one that is read.
-/
namespace Go.Proofs.YtdilcckoapaimaaGreat
open Go.RowKit

/-- A row of numbers that may be written. -/
def RowN (w : World) (B : Nat) (u : List Int) : Prop := w.heap[B]? = some (.cells (u.map (Value.int .i64)).toArray 33 (0, 0))

theorem RowN.lt {w : World} {B : Nat} {u : List Int} (h : RowN w B u) : B < w.heap.size := (Array.getElem?_eq_some_iff.1 h).1

theorem RowN.at {w : World} {B : Nat} {u : List Int} (h : RowN w B u) (j : Nat) (hj : j < u.length) : w.cell? ⟨B, j, none⟩ = some (.int .i64 (u.getD j 0)) ∧ w.frozen? ⟨B, j, none⟩ = false := by
  refine ⟨?_, frozen_of_row w B j _ _ h⟩
  refine (cell_of_row w B j _ _ (0, 0) h).trans ?_
  simp [List.getD, hj]

theorem RowN.set {w : World} {B : Nat} {u : List Int} (h : RowN w B u) (j : Nat) (x : Int) : RowN (w.setCell ⟨B, j, none⟩ (.int .i64 x)) B (u.set j x) := by
  have := heap_setCell_same w B j _ _ (.int .i64 x) h
  unfold RowN
  rw [this]
  simp [List.map_set]

theorem RowN.later {w w' : World} {B : Nat} {u : List Int} (h : RowN w B u) (hb : Below w.heap.size w w') : RowN w' B u := (hb.block B h.lt).trans h

def numVals (n : Int) : List Value := [.int .i64 n]

theorem numOK : RowOK Tryz.prog numVals 1 0 33 43 (.int .i64 0) 8 where
  len _ := rfl
  one a u hu := by
    simp only [numVals, List.mem_cons, List.not_mem_nil, or_false] at hu
    rcases hu with rfl
    rfl
  pos := by decide
  small := by decide
  under := Tryz.underlying43
  info := by kernel_rfl
  zvals := rfl
  fits := by decide

/-- A slice of numbers that may be read. -/
abbrev Nums (w : World) (v : Value) (u : List Int) : Prop := RdS numVals 1 0 w v u

theorem Nums.at {w wr : World} {a : Option Addr} {n cap : Nat} {u : List Int} (h : Nums w (.slice a n cap) u) (hb : Below w.heap.size w wr) (k : Nat) (hk : k < u.length) :
    ∃ b off, a = some ⟨b, off, none⟩ ∧ wr.cell? ⟨b, off + k, none⟩ = some (.int .i64 (u.getD k 0)) := by
  obtain ⟨b, off, e, hc⟩ := RdS.row h hb k hk
  have h0 := hc 0 _ rfl
  rw [Nat.mul_one] at h0
  exact ⟨b, off, e, h0⟩

theorem RowN.nums {w : World} {B : Nat} {u : List Int} (h : RowN w B u) (hl : u.length ≤ 4294967296) : Nums w (.slice (some ⟨B, 0, none⟩) u.length u.length) u := by
  refine ⟨_, u.length, rfl, Nat.le_refl _, by unfold maxLen; omega, (fun e => by cases e), .inr ⟨B, 0, rfl, h.lt, fun i hi => ?_⟩⟩
  intro j x hx
  match j, hx with
  | 0, hx =>
    simp only [numVals, List.getElem?_cons_zero, Option.some.injEq] at hx
    rw [← hx, Nat.zero_add, Nat.mul_one]
    exact (h.at i hi).1
  | j + 1, hx => simp [numVals] at hx

/-- The numbers up to k, and noughts behind. -/
def numAt (t : List Int) (k : Nat) : List Int := t.take k ++ List.replicate (t.length - k) 0

theorem numAt_len {t : List Int} {k : Nat} (h : k ≤ t.length) : (numAt t k).length = t.length := by unfold numAt; rw [List.length_append, List.length_take, List.length_replicate]; omega

theorem numAt_set {t : List Int} {k : Nat} (hk : k < t.length) : (numAt t k).set k (t.getD k 0) = numAt t (k + 1) := by
  unfold numAt
  have h1 : (t.take k).length = k := by rw [List.length_take]; omega
  rw [List.set_append_right _ _ (by omega), h1, Nat.sub_self, show t.length - k = (t.length - (k + 1)) + 1 by omega, List.replicate_succ, List.set_cons_zero, List.getD_eq_getElem?_getD, List.getElem?_eq_getElem hk]
  have h2 : t.take (k + 1) = t.take k ++ [t[k]] := List.take_succ_eq_append_getElem hk
  rw [h2, List.append_assoc]
  rfl

theorem numAt_end (t : List Int) : numAt t t.length = t := by
  unfold numAt
  rw [Nat.sub_self, List.take_length]
  simp

theorem infoErrno : (Tryz.prog.info? 33).map (fun i => (i.zero, i.size, i.bytes)) = some (some (.int .i64 0), 1, 8) := by kernel_rfl

/-- 'make([]api.Errno, n)'. -/
theorem wpList_make_num {w : World} {ops : Array Oper} {rest : List Oper} {o : Oper} {a : Act} {Q : Exit → Act → World → Prop}
    (hg : o.guard = none) (l c : Operand) (hop : o.op = Op.makeSlice 43 l c)
    (L C : Int) (n : Nat) (hl : a.eval l = .int .i64 L) (hc : a.eval c = .int .i64 C) (hL : L = (n : Int)) (hC : C = (n : Int)) (hn : n ≤ 4294967296)
    (hK : ∀ w', RowN w' w.heap.size (List.replicate n 0) → Below w.heap.size w w' → w.heap.size < w'.heap.size → wpList Tryz.prog ops Q rest (a.put o.dst (.slice (some ⟨w.heap.size, 0, none⟩) n n)) w') :
    wpList Tryz.prog ops Q (o :: rest) a w := by
  obtain ⟨i, hi, hz, hsize, hby⟩ := info_parts infoErrno
  refine wpList_make_full w hg l c _ hop w.heap.size 33 i _ 1 Tryz.underlying43 hi hz hsize .i64 .i64 L C n hl hc hL hC (by rw [hby]; omega) (by unfold maxLen; omega) (Nat.le_refl _) ?_
  intro w' hown hgrow
  have hm : (madeCells (Value.int .i64 0).cells (n * 1)).toList = List.replicate n (.int .i64 0) := by rw [Nat.mul_one]; exact toList_madeCells_one _ n
  have hlt := (hown.lt w.heap.size rfl).2
  refine hK w' ?_ ((Below.refl _ _).grown hgrow (Nat.le_refl _) (fun k hk => by simp at hk)) hlt
  have hO : OwnS numVals 1 33 w' w.heap.size (.slice (some ⟨w.heap.size, 0, none⟩) n n) (List.replicate n 0) := by
    unfold OwnS
    rw [hm] at hown
    have e1 : cellsS numVals (List.replicate n (0 : Int)) = List.replicate n (.int .i64 0) := by
      have : ∀ m : Nat, cellsS numVals (List.replicate m (0 : Int)) = List.replicate m (.int .i64 0) := by
        intro m
        induction m with
        | zero => rfl
        | succ m ih =>
          rw [List.replicate_succ, List.replicate_succ, ← ih]
          rfl
      exact this n
    rw [e1, List.length_replicate]
    exact hown
  obtain ⟨_, _, _, _, _, cur, h1, h2⟩ := hO.head
  unfold RowN
  rw [h1]
  have e2 : cur = ((List.replicate n (0 : Int)).map (Value.int .i64)).toArray := by
    apply Array.ext_getElem?
    intro j
    by_cases hj : j < n
    · have h3 := hO.cellAt numOK j (by simp; exact hj)
      have h4 : w'.cell? ⟨w.heap.size, j, none⟩ = cur[j]? := cell_of_row w' w.heap.size j _ _ (0, 0) h1
      have e1 : (cellsS numVals (List.replicate n (0 : Int)))[j]? = some (.int .i64 0) := by
        have : ∀ m : Nat, cellsS numVals (List.replicate m (0 : Int)) = List.replicate m (.int .i64 0) := by
          intro m
          induction m with
          | zero => rfl
          | succ m ih =>
            rw [List.replicate_succ, List.replicate_succ, ← ih]
            rfl
        rw [this n]
        simp [hj]
      rw [← h4, h3, e1]
      simp [hj]
    · rw [Array.getElem?_eq_none (by omega)]
      simp [hj]
  rw [e2]

end Go.Proofs.YtdilcckoapaimaaGreat

end

section

/-
  KEYS THAT ARE TWO TEXTS: what a map's key of type [2]string stands for; unlike pairs have unlike keys.
-/
namespace Go.Proofs.YtdilcckoapaimaaGreat
open Go.RowKit Go.ChangeMaps Go.MapKept

def pkV (a b : List UInt8) : Value := .agg #[.string ⟨a.toArray⟩, .string ⟨b.toArray⟩]

/-- The literal of a pair. -/
def pkL (a b : List UInt8) : Lit := .string (keyBytes [.string a, .string b])

end Go.Proofs.YtdilcckoapaimaaGreat

end

section

/-
  LAYER 8, PLAIN: what RostSides, RostOthers and RostWatchers ask.
-/
namespace Go.Proofs.YtdilcckoapaimaaGreat

theorem rises_ext {a b : List Ent} (ha : Rise a) (hb : Rise b) (h : ∀ x, x ∈ a ↔ x ∈ b) : a = b := rise_unique entOrd ha hb h

theorem roDo_mem {l m : List Ent} {k : Int} {u o : List UInt8} (h : roDo l k u o = (m, 0)) {y : Ent} (h1 : ¬ (y.o = u ∧ y.c = o)) (h2 : ¬ (y.o = o ∧ y.c = u)) : y ∈ m ↔ y ∈ l := by
  obtain ⟨hm, _, _, huo, _, _, a, b, _, _, rfl⟩ := roDo_ok h
  have hr : Rise l := hm.1
  rw [roSet_mem hr huo]
  constructor
  · rintro (⟨_, rfl | rfl⟩ | ⟨h3, _⟩)
    · exact absurd ⟨rfl, rfl⟩ h1
    · exact absurd ⟨rfl, rfl⟩ h2
    · exact h3
  · intro h3; exact .inr ⟨h3, h1, h2⟩

theorem roDo_mayC {l m : List Ent} {k : Int} {u o : List UInt8} (h : roDo l k u o = (m, 0)) : roMayC m = true := roMay_iff.2 (roDo_may h)

theorem roDo_rises {l m : List Ent} {k : Int} {u o : List UInt8} (h : roDo l k u o = (m, 0)) : Rise l ∧ Rise m := ⟨(roDo_ok h).1.1, (roDo_may h).1⟩

theorem roDo_of {l m : List Ent} {k : Int} {u o p : List UInt8} (h : roDo l k u o = (m, 0)) (h1 : p ≠ u) (h2 : p ≠ o) : roOf m p = roOf l p := by
  obtain ⟨hrl, hrm⟩ := roDo_rises h
  unfold roOf
  congr 1
  refine rises_ext (List.Pairwise.filter _ hrm) (List.Pairwise.filter _ hrl) fun y => ?_
  simp only [List.mem_filter, ofOwner, decide_eq_true_eq]
  constructor
  · rintro ⟨h3, h4⟩
    exact ⟨(roDo_mem h (fun e => h1 (h4.symm.trans e.1)) (fun e => h2 (h4.symm.trans e.1))).1 h3, h4⟩
  · rintro ⟨h3, h4⟩
    exact ⟨(roDo_mem h (fun e => h1 (h4.symm.trans e.1)) (fun e => h2 (h4.symm.trans e.1))).2 h3, h4⟩

theorem roDo_get {l m : List Ent} {k : Int} {u o : List UInt8} (h : roDo l k u o = (m, 0)) {p q : List UInt8} (h1 : ¬ (p = u ∧ q = o)) (h2 : ¬ (p = o ∧ q = u)) : roGet m p q = roGet l p q ∧ roSees m p q = roSees l p q := by
  have e1 : roGet m p q = roGet l p q := roDo_other h h1 h2
  have e2 : roGet m q p = roGet l q p := roDo_other h (fun e => h2 ⟨e.2, e.1⟩) (fun e => h1 ⟨e.2, e.1⟩)
  refine ⟨e1, ?_⟩
  unfold roSees
  rw [e1, e2]

end Go.Proofs.YtdilcckoapaimaaGreat

end

section

/-
  LAYER 8: a map from pairs of names to items; what Do makes of the two items; for RostMay.
-/
namespace Go.Proofs.YtdilcckoapaimaaGreat
open Go.RowKit Go.ChangeMaps Go.MapKept

/-- How an item reads as a map's element. -/
def itData (i : It) : DataW Unit := .agg [.lit (.bool i.to), .lit (.bool i.fr), .lit (.bool i.out), .lit (.bool i.inn), .lit (.bool i.bl)]

def itElem : Value → Option (DataW Unit × List MemPlace)
  | .agg cs => match cs.toList with
    | [.bool a, .bool b, .bool c, .bool d, .bool e] => some (itData ⟨a, b, c, d, e⟩, [])
    | _ => none
  | _ => none

/-- Block B is a map that holds the item of each pair of names. -/
def ItemsAt (w : World) (B n : Nat) (g : List UInt8 → List UInt8 → It) : Prop :=
  ∃ m, ∃ D : DataW Unit, m ≤ n ∧ w.ownsMap Tryz.prog 47 itElem B m D ∧ ∀ a b : List UInt8, a.length ≤ 40 → b.length ≤ 40 → D.atKey (pkL a b) (itData It.zero) = itData (g a b)

theorem ItemsAt.lt {w : World} {B n : Nat} {g : List UInt8 → List UInt8 → It} (h : ItemsAt w B n g) : B < w.heap.size := by
  obtain ⟨_, _, _, h, _⟩ := h
  exact h.lt

theorem ItemsAt.later {w w' : World} {B n : Nat} {g : List UInt8 → List UInt8 → It} (h : ItemsAt w B n g) (hb : Below w.heap.size w w') : ItemsAt w' B n g := by
  have hlt := h.lt
  obtain ⟨m, D, h1, ⟨es, clock, h2, h3, h4, h5⟩, h6⟩ := h
  exact ⟨m, D, h1, ⟨es, clock, (hb.block B hlt).trans h2, h3, h4, h5⟩, h6⟩

theorem ItemsAt.isMap {w : World} {B n : Nat} {g : List UInt8 → List UInt8 → It} (h : ItemsAt w B n g) : ∃ es clock, w.heap[B]? = some (.map es clock) := by
  obtain ⟨_, _, _, ⟨es, clock, h2, _⟩, _⟩ := h
  exact ⟨es, clock, h2⟩

def layI (g : List UInt8 → List UInt8 → It) (a b : List UInt8) (i : It) : List UInt8 → List UInt8 → It := fun x y => if x = a ∧ y = b then i else g x y

/-- Entries stay where a map turns. -/
theorem Ents.grown {w w' : World} {v : Value} {l : List Ent} (h : Ents w v l) {B : Nat} (hm : ∃ es clock, w.heap[B]? = some (.map es clock)) (hg : w.grownBy w' (some B)) : Ents w' v l := by
  obtain ⟨es, clock, hm⟩ := hm
  obtain ⟨a, cap, h1, h2, h3, h4, h5⟩ := h
  refine ⟨a, cap, h1, h2, h3, h4, ?_⟩
  rcases h5 with h5 | ⟨b, off, e, hlt, hc⟩
  · exact .inl h5
  · refine .inr ⟨b, off, e, Nat.lt_of_lt_of_le hlt hg.size, fun i hi => ?_⟩
    have hbB : b ≠ B := by
      rintro rfl
      have := (hc i hi).1
      simp [World.cell?, hm] at this
    have hb := hg.block b hlt (fun e => hbB (by injection e))
    have key : ∀ j u, w.cell? ⟨b, j, none⟩ = some u → w'.cell? ⟨b, j, none⟩ = some u := by
      intro j u hu
      simp only [World.cell?, hb] at hu ⊢
      exact hu
    obtain ⟨g0, g1, g2, g3, g4, g5, g6⟩ := hc i hi
    exact ⟨key _ _ g0, key _ _ g1, key _ _ g2, key _ _ g3, key _ _ g4, key _ _ g5, key _ _ g6⟩

theorem roM_short {l : List Ent} (h : RoM l) : ShortE l := fun e he => by
  have h1 := (h.2 e he).1
  have h2 := (h.2 e he).2.1
  have k1 := (idIs_parts h1).2.1
  have k2 := (idIs_parts h2).2.1
  exact ⟨by omega, by omega⟩

theorem roDo_len2 {l m : List Ent} {k : Int} {u o : List UInt8} (h : roDo l k u o = (m, 0)) : m.length ≤ l.length + 2 := by
  obtain ⟨hm, _, _, _, _, _, a, b, _, _, rfl⟩ := roDo_ok h
  have hr : Rise l := hm.1
  have key : ∀ (t : List Ent) (x : Ent) (keep : Bool), Rise t → (roSet t x keep).length ≤ t.length + 1 := by
    intro t x keep ht
    cases keep with
    | true => rw [roSet_keep ht]; exact putO_le t x
    | false => rw [roSet_drop]; exact Nat.le_trans (dropO_le t x) (Nat.le_succ _)
  have h1 := key l ⟨u, o, a⟩ (!(suEmpty a && suEmpty b)) hr
  have h2 := key (roSet l ⟨u, o, a⟩ (!(suEmpty a && suEmpty b))) ⟨o, u, b⟩ (!(suEmpty a && suEmpty b)) (roSet_rise hr _ _)
  omega

end Go.Proofs.YtdilcckoapaimaaGreat

end

section

/-
  LAYER 14, THE CODE: All.
-/
namespace Go.Proofs.YtdilcckoapaimaaGreat
open Go.RowKit

/-- What the contracts of layer 14 want of a state. -/
def StOK (t : Sta) : Prop := ShortE t.e ∧ ShortS t.s

theorem seOne_st {s : Ses} (h : seOne s = true) : s.v.st.length ≤ 32 := by
  unfold seOne at h
  simp only [Bool.and_eq_true] at h
  have h2 : vaMay s.v = true := h.2.2.2
  unfold vaMay stOk at h2
  simp only [Bool.and_eq_true, decide_eq_true_eq] at h2
  exact h2.2.1

theorem seMay_short {l : List Ses} (h : seMay l = true) : ShortS l := fun s hs => by
  have h1 := (seMay_rise h).2.2 s hs
  unfold seOne at h1
  simp only [Bool.and_eq_true] at h1
  have h2 := (idIs_parts h1.1).2.1
  have h3 : s.v.st.length ≤ 32 := seOne_st ((seMay_rise h).2.2 s hs)
  exact ⟨by omega, by omega⟩

theorem stOK_may {t : Sta} (h : stMay t = true) : StOK t := by
  unfold stMay at h
  rw [Bool.and_eq_true] at h
  exact ⟨roM_short (roMay_iff.1 h.1), seMay_short h.2⟩

theorem stOK_next {t t' : Sta} {e : Ev} {n : Nat} (h : StOK t) (hd : stApply t e = (t', n)) : StOK t' := by
  by_cases hn : n = 0
  · subst hn
    exact stOK_may (stApply_may hd)
  · rw [stApply_err hd hn]
    exact h

theorem stLen_next {t t' : Sta} {e : Ev} {n : Nat} (hd : stApply t e = (t', n)) : t'.e.length ≤ t.e.length + 2 := by
  by_cases hn : n = 0
  · subst hn
    obtain ⟨_, h⟩ := stApply_ok hd
    rcases h with ⟨_, _, h, _⟩ | ⟨_, _, h⟩ | ⟨_, _, h⟩
    · exact roDo_len2 h
    · rw [h]; omega
    · rw [h]; omega
  · rw [stApply_err hd hn]
    omega

theorem stAll_take {t : Sta} {l : List Ev} {k : Nat} (hk : k < l.length) : (stAll t (l.take (k + 1))).1 = (stApply (stAll t (l.take k)).1 (l.getD k Ev.zero)).1 := by
  rw [List.take_add_one, List.getElem?_eq_getElem hk, List.getD_eq_getElem?_getD, List.getElem?_eq_getElem hk, Option.toList_some, stAll_snoc]
  rfl

theorem stAll_get : ∀ (t : Sta) (l : List Ev) (k : Nat), k < l.length → (stAll t l).2.getD k 0 = (stApply (stAll t (l.take k)).1 (l.getD k Ev.zero)).2
  | t, [], k, h => by simp at h
  | t, e :: l, 0, _ => rfl
  | t, e :: l, k + 1, h => by
    have := stAll_get (stApply t e).1 l k (by simpa using h)
    exact this

/-- The numbers that All tells. -/
def numsOf (t : Sta) (l : List Ev) : List Int := (stAll t l).2.map fun (n : Nat) => (n : Int)

theorem numsOf_len (t : Sta) (l : List Ev) : (numsOf t l).length = l.length := by unfold numsOf; rw [List.length_map, stAll_len]

theorem numsOf_get {t : Sta} {l : List Ev} {k : Nat} (h : k < l.length) : (numsOf t l).getD k 0 = ((stApply (stAll t (l.take k)).1 (l.getD k Ev.zero)).2 : Int) := by
  rw [← stAll_get t l k h]
  unfold numsOf
  have h2 : k < (stAll t l).2.length := by rw [stAll_len]; exact h
  rw [List.getD_eq_getElem?_getD, List.getElem?_map, List.getElem?_eq_getElem h2, List.getD_eq_getElem?_getD, List.getElem?_eq_getElem h2]
  rfl

theorem eightAt {X : World} {B off : Nat} {k id a b c : Int} {u o st : List UInt8} (h : CellsAt X B off (evVals ⟨k, u, o, id, ⟨a, b, c, st⟩⟩)) :
    X.cell? ⟨B, off, none⟩ = some (.int .i64 k) ∧ X.cell? ⟨B, off + 1, none⟩ = some (.string ⟨u.toArray⟩) ∧ X.cell? ⟨B, off + 2, none⟩ = some (.string ⟨o.toArray⟩) ∧ X.cell? ⟨B, off + 3, none⟩ = some (.int .i64 id) ∧ X.cell? ⟨B, off + 4, none⟩ = some (.int .i64 a) ∧ X.cell? ⟨B, off + 5, none⟩ = some (.int .i64 b) ∧ X.cell? ⟨B, off + 6, none⟩ = some (.int .i64 c) ∧ X.cell? ⟨B, off + 7, none⟩ = some (.string ⟨st.toArray⟩) :=
  ⟨h 0 _ rfl, h 1 _ rfl, h 2 _ rfl, h 3 _ rfl, h 4 _ rfl, h 5 _ rfl, h 6 _ rfl, h 7 _ rfl⟩

/-- A round's stores: the state, and the number. -/
theorem st_step {w0 W : World} {x y : Value} {t : Sta} (h : StAt W x y t) (hb : Below w0.heap.size w0 W) {S R M : Nat} (hS : w0.heap.size ≤ S) (hM : w0.heap.size ≤ M) (hSM : S ≠ M) (hSR : S ≠ R) (hMR : M ≠ R) {a0 a1 : Value} {T : TypeId} (fs : W.heap[S]? = some (.cells #[a0, a1] T (0, 0))) (hs : AllSl #[a0, a1]) {o : Obj} (fr : W.heap[R]? = some o) {u : List Int} (rn : RowN W M u) (k : Nat) (n : Int) :
    StAt (((W.setCell ⟨S, 0, none⟩ x).setCell ⟨S, 1, none⟩ y).setCell ⟨M, k, none⟩ (.int .i64 n)) x y t ∧
    Below w0.heap.size w0 (((W.setCell ⟨S, 0, none⟩ x).setCell ⟨S, 1, none⟩ y).setCell ⟨M, k, none⟩ (.int .i64 n)) ∧
    (((W.setCell ⟨S, 0, none⟩ x).setCell ⟨S, 1, none⟩ y).setCell ⟨M, k, none⟩ (.int .i64 n)).heap[S]? = some (.cells #[x, y] T (0, 0)) ∧
    (((W.setCell ⟨S, 0, none⟩ x).setCell ⟨S, 1, none⟩ y).setCell ⟨M, k, none⟩ (.int .i64 n)).heap[R]? = some o ∧
    RowN (((W.setCell ⟨S, 0, none⟩ x).setCell ⟨S, 1, none⟩ y).setCell ⟨M, k, none⟩ (.int .i64 n)) M (u.set k n) := by
  have k0 := heap_setCell_same W S 0 _ _ x fs
  have k1 := heap_setCell_same _ S 1 _ _ y k0
  have hs1 : AllSl #[x, a1] := allSl_two (h.sl 0 x rfl) (hs 1 a1 rfl)
  have h2 := (h.keep fs hs.no 0 x).keep k0 hs1.no 1 y
  have r2 : RowN ((W.setCell ⟨S, 0, none⟩ x).setCell ⟨S, 1, none⟩ y) M u := by
    unfold RowN
    rw [heap_setCell_other _ ⟨S, 1, none⟩ M y (fun e => hSM e.symm), heap_setCell_other _ ⟨S, 0, none⟩ M x (fun e => hSM e.symm)]
    exact rn
  have f2 : ((W.setCell ⟨S, 0, none⟩ x).setCell ⟨S, 1, none⟩ y).heap[R]? = some o := by
    rw [heap_setCell_other _ ⟨S, 1, none⟩ R y (fun e => hSR e.symm), heap_setCell_other _ ⟨S, 0, none⟩ R x (fun e => hSR e.symm)]
    exact fr
  have hno : ∀ (j : Nat) (s : ByteArray), ((u.map (Value.int .i64)).toArray)[j]? ≠ some (Value.string s) := by
    intro j s e
    simp only [List.getElem?_toArray, List.getElem?_map, Option.map_eq_some_iff] at e
    obtain ⟨_, _, e⟩ := e
    cases e
  refine ⟨h2.keep r2 hno k _, ((hb.setCell hS x).setCell hS y).setCell hM _, ?_, ?_, r2.set k n⟩
  · rw [heap_setCell_other _ ⟨M, k, none⟩ S _ hSM]
    exact k1
  · rw [heap_setCell_other _ ⟨M, k, none⟩ R _ (fun e => hMR e.symm)]
    exact f2

/-- Texts that the contracts serve. -/
def evShort (e : Ev) : Prop := e.u.length ≤ 4294967296 ∧ e.o.length ≤ 4294967296 ∧ e.v.st.length ≤ 4294967296

theorem evgetD {l : List Ev} {i : Nat} (h : i < l.length) : l.getD i Ev.zero = l[i] := by
  rw [List.getD_eq_getElem?_getD, List.getElem?_eq_getElem h]; rfl

set_option maxHeartbeats 3200000 in
set_option maxRecDepth 100000 in
theorem stall_any {w : World} {x y v : Value} {t : Sta} (h : StAt w x y t) (hok : StOK t) (hel : t.e.length ≤ 200) {l : List Ev} (hv : Evs w v l) (hll : l.length ≤ 100) (hsh : ∀ e ∈ l, evShort e) :
    Calls Tryz.prog 25 #[.agg #[x, y], v] w fun z w' => ∃ x' y' u, z = .returned (.tuple #[.agg #[x', y'], u]) ∧ StAt w' x' y' (stAll t l).1 ∧ Nums w' u (numsOf t l) ∧ Below w.heap.size w w' := by
  have b1 := bl_newZ w (.cells #[x, y] 25)
  have b2 := bl_newZ (w.alloc (.cells #[x, y] 25)) (.cells #[.slice none 0 0, .slice none 0 0] 25)
  have HB := Lib.hid (below2Z b1 b2)
  have H := Lib.hid (h.later (below2Z b1 b2))
  have HV := Lib.hid hv
  have FS := Lib.hid (upT (heap_newT w (.cells #[x, y] 25)) b2)
  have FR : Hid (((w.alloc (.cells #[x, y] 25)).alloc (.cells #[.slice none 0 0, .slice none 0 0] 25)).heap[w.heap.size + 1]? = some (.cells #[.slice none 0 0, .slice none 0 0] 25 (0, 0))) := by
    have hz := heap_newT (w.alloc (.cells #[x, y] 25)) (.cells #[.slice none 0 0, .slice none 0 0] 25)
    simp only [World.size_alloc] at hz
    exact hz
  have HOK := Lib.hid hok
  have HSH := Lib.hid hsh
  obtain ⟨av, cv, rfl, -⟩ := RdS.open' hv
  have hnl := numsOf_len t l
  obtain ⟨ns, hns⟩ : ∃ ns, numsOf t l = ns := ⟨_, rfl⟩
  rw [hns] at hnl
  have HNS := Lib.hid hns
  have hzS : ((w.alloc (.cells #[x, y] 25)).alloc (.cells #[.slice none 0 0, .slice none 0 0] 25)).heap.size = w.heap.size + 2 := by simp
  clear b1 b2 h hv hok hsh hns
  go_enter Tryz.func25, Tryz.ntmps25
  go_wp2_with (with_reducible refine wpList_make_num rfl (.tmp 10) (.tmp 10) rfl (l.length : Int) (l.length : Int) l.length rfl rfl rfl rfl (by omega) ?_)
  intro w2 hn2 hb2 hz2
  have hb2 : Below ((w.alloc (.cells #[x, y] 25)).alloc (.cells #[.slice none 0 0, .slice none 0 0] 25)).heap.size ((w.alloc (.cells #[x, y] 25)).alloc (.cells #[.slice none 0 0, .slice none 0 0] 25)) w2 := by rw [hzS]; exact hb2
  generalize hM : w.heap.size + 2 = M at hn2 hz2 ⊢
  have B2 := Lib.hid (below2Z HB.out hb2)
  have H2 := Lib.hid (H.out.later hb2)
  have FS2 := Lib.hid (upT FS.out hb2)
  have FR2 := Lib.hid (upT FR.out hb2)
  have RN2 : Hid (RowN w2 M (numAt ns 0)) := by
    unfold numAt
    rw [List.take_zero, List.nil_append, hnl, Nat.sub_zero]
    exact hn2
  clear hb2 hn2 hz2 HB H FS FR
  have hMS : M ≠ w.heap.size := by omega
  have hMR : M ≠ w.heap.size + 1 := by omega
  have hMw : w.heap.size ≤ M := by omega
  clear hzS hM
  go_wp2_with fail
  go_loopw [14] (fun i wr => ∃ (k : Nat) (xk yk : Value), k ≤ l.length ∧ i = .int .i64 k ∧ Hid (wr.heap[w.heap.size]? = some (.cells #[xk, yk] 25 (0, 0))) ∧ Hid (StAt wr xk yk (stAll t (l.take k)).1) ∧ Hid (RowN wr M (numAt ns k)) ∧ Hid (wr.heap[w.heap.size + 1]? = some (.cells #[.slice none 0 0, .slice none 0 0] 25 (0, 0))) ∧ Hid (StOK (stAll t (l.take k)).1) ∧ (stAll t (l.take k)).1.e.length ≤ t.e.length + 2 * k ∧ Hid (Below w.heap.size w wr)) (fun i _ => l.length - (intOf i).toNat)
  case atStart => exact ⟨0, x, y, by omega, rfl, FS2, H2, RN2, FR2, HOK, by simp [stAll], B2⟩
  case round =>
    obtain ⟨k, xk, yk, hk, rfl, GS, GH, GN, GR, GO, hlen, GB⟩ := hrel
    by_cases hlt : k < l.length
    · obtain ⟨vb, vo, rfl, hc⟩ := RdS.row HV.out GB.out k hlt
      have hes := HSH.out _ (by rw [evgetD hlt]; exact List.getElem_mem hlt : l.getD k Ev.zero ∈ l)
      have htk := stAll_take (t := t) hlt
      have hng := numsOf_get (t := t) hlt
      rw [HNS.out] at hng
      obtain ⟨⟨kk, u, o, id, ⟨a, b, c, st⟩⟩, hr⟩ : ∃ r, l.getD k Ev.zero = r := ⟨_, rfl⟩
      rw [hr] at hc hes htk hng
      obtain ⟨tk, htk0⟩ : ∃ tk, (stAll t (l.take k)).1 = tk := ⟨_, rfl⟩
      rw [htk0] at GH GO hlen htk hng
      obtain ⟨t2, n2, hap⟩ : ∃ t2 n2, stApply tk ⟨kk, u, o, id, ⟨a, b, c, st⟩⟩ = (t2, n2) := ⟨_, _, rfl⟩
      rw [hap] at htk hng
      simp only at htk hng
      obtain ⟨m0, m1, m2, m3, m4, m5, m6, m7⟩ := eightAt hc
      obtain ⟨hs1, hs2, hs3⟩ := hes
      try simp only at hs1 hs2 hs3
      have HAP := Lib.hid hap
      have HTK := Lib.hid htk
      have HNG := Lib.hid hng
      have GO2 := Lib.hid (stOK_next GO.out hap)
      have hlen2 := stLen_next hap
      have bn := bl_newZ wr (.cells #[.int .i64 kk, .string ⟨u.toArray⟩, .string ⟨o.toArray⟩, .int .i64 id, .int .i64 a, .int .i64 b, .int .i64 c, .string ⟨st.toArray⟩] 29)
      have GS1 := Lib.hid (upT GS.out bn)
      have GH1 := Lib.hid (GH.out.later bn)
      have GN1 := Lib.hid (GN.out.later bn)
      have GR1 := Lib.hid (upT GR.out bn)
      have GB1 := Lib.hid (below2Z GB.out bn)
      have FE1 := Lib.hid (cellsAt_made (w := wr) (cs := #[.int .i64 kk, .string ⟨u.toArray⟩, .string ⟨o.toArray⟩, .int .i64 id, .int .i64 a, .int .i64 b, .int .i64 c, .string ⟨st.toArray⟩]) (vs := evVals ⟨kk, u, o, id, ⟨a, b, c, st⟩⟩) rfl 29 rfl)
      have hnn : (0 : Int) ≤ (k : Int) := by omega
      have hli : (k : Int) < (l.length : Int) := by omega
      clear hr hc bn hap htk hng htk0
      go_upto_region 5 with fail
      generalize hW1 : wr.alloc (.cells #[.int .i64 kk, .string ⟨u.toArray⟩, .string ⟨o.toArray⟩, .int .i64 id, .int .i64 a, .int .i64 b, .int .i64 c, .string ⟨st.toArray⟩] 29) = W1 at GS1 GH1 GN1 GR1 GB1 FE1 ⊢
      generalize hTB : wr.heap.size = TB at FE1 ⊢
      clear hW1 hTB m0 m1 m2 m3 m4 m5 m6 m7
      obtain ⟨s0, s1, -, -⟩ := two_T GS1.out
      obtain ⟨e0, e1, e2, e3, e4, e5, e6, e7⟩ := eightT FE1.out
      go_wp2_with fail
      refine (stdo_any GH1.out GO.out.1 (by omega) GO.out.2 ⟨kk, u, o, id, ⟨a, b, c, st⟩⟩ hs1 hs2 hs3 HAP.out).mono ?_
      rintro e w4 ⟨x4, y4, rfl, h4, b4⟩
      obtain ⟨ap, cp, rfl, -⟩ := h4.1.open'
      obtain ⟨aq, cq, rfl, -⟩ := RdS.open' h4.2
      have GS4 := Lib.hid (upT GS1.out b4)
      have GN4 := Lib.hid (GN1.out.later b4)
      have GR4 := Lib.hid (upT GR1.out b4)
      have GB4 := Lib.hid (below2Z GB1.out b4)
      have H4 := Lib.hid h4
      have hsl := Lib.hid (GH1.out.sl)
      obtain ⟨s0, s1, f0, f1⟩ := two_T GS4.out
      have hnk : k < (numAt ns k).length := by rw [numAt_len (by omega)]; omega
      obtain ⟨d0, d1⟩ := GN4.out.at k hnk
      have q5 := Lib.hid (st_step H4.out GB4.out (Nat.le_refl _) hMw (fun e => hMS e.symm) (show w.heap.size ≠ w.heap.size + 1 by omega) hMR GS4.out hsl.out GR4.out GN4.out k (n2 : Int))
      clear h4 b4 GS1 GH1 GN1 GR1 GB1 FE1 e0 e1 e2 e3 e4 e5 e6 e7
      go_wp2_with fail
      obtain ⟨z1, z2, z3, z4, z5⟩ := q5.out
      have e5 : (numAt ns k).set k (n2 : Int) = numAt ns (k + 1) := by rw [← HNG.out]; exact numAt_set (by omega)
      rw [e5] at z5
      go_roundw
      case rel => exact ⟨k + 1, _, _, by omega, by go_num, z3, by rw [HTK.out]; exact z1, z5, z4, by rw [HTK.out]; exact GO2, by rw [HTK.out]; omega, z2⟩
      case measure => simp [intOf]; omega
    · obtain rfl : k = l.length := by omega
      rw [List.take_length] at GH
      obtain ⟨ap, cp, rfl, -⟩ := GH.out.1.open'
      obtain ⟨aq, cq, rfl, -⟩ := RdS.open' GH.out.2
      have hz := GN.out
      rw [← hnl, numAt_end] at hz
      obtain ⟨s0, s1, -, -⟩ := two_T GS.out
      obtain ⟨r0, r1, g0, g1⟩ := two_T GR.out
      obtain ⟨z1, z2, o0, o1⟩ := st_fin GH.out GB.out (Nat.le_succ _) GR.out allSl_nil
      have hz2 : RowN ((wr.setCell ⟨w.heap.size + 1, 0, none⟩ (.slice ap (stAll t l).1.e.length cp)).setCell ⟨w.heap.size + 1, 1, none⟩ (.slice aq (stAll t l).1.s.length cq)) M ns := by
        unfold RowN
        rw [heap_setCell_other _ ⟨w.heap.size + 1, 1, none⟩ M _ hMR, heap_setCell_other _ ⟨w.heap.size + 1, 0, none⟩ M _ hMR]
        exact hz
      have HZ := Lib.hid (hz2.nums (by omega))
      have Z1 := Lib.hid z1
      have Z2 := Lib.hid z2
      have O0 := Lib.hid o0
      have O1 := Lib.hid o1
      clear hz hz2 z1 z2 o0 o1
      go_wp2_with fail
      have o0 := O0.out
      have o1 := O1.out
      refine bodyPost_ret (v := .tuple #[.agg #[.slice ap (stAll t l).1.e.length cp, .slice aq (stAll t l).1.s.length cq], .slice (some ⟨M, 0, none⟩) l.length l.length]) (by simp [results, Tryz.results25, go_sem, o0, o1]) rfl ⟨_, _, _, rfl, Z1.out, ?_, Z2.out⟩
      rw [← hnl, HNS.out]
      exact HZ.out

end Go.Proofs.YtdilcckoapaimaaGreat

end

section

/-
  LAYER 11, THE DOCUMENT's: which of two values is worth more. Few sessions.
-/
namespace Go.Proofs.YtdilcckoapaimaaGreat
open Go.RowKit

/-- At most n sessions, of few bytes. -/
def fewOne (s : Ses) : Bool := decide (s.u.length ≤ 40) && decide (s.v.st.length ≤ 60)

def fewSes (l : List Ses) : Bool := decide (l.length ≤ 50) && l.all fewOne

theorem few_off {l : List Ses} {k : Nat} (hk : k < l.length) (h : fewOne (sat l k) = false) : fewSes l = false := by
  unfold fewSes
  rw [show l.all fewOne = false from ?_, Bool.and_false]
  rw [List.all_eq_false]
  rw [show sat l k = l[k] from sgetDB hk] at h
  exact ⟨l[k], List.getElem_mem hk, by rw [h]; simp⟩

theorem few_on {l : List Ses} {k : Nat} (ha : ∀ j, j < k → fewOne (sat l j) = true) (h : fewOne (sat l k) = true) : ∀ j, j < k + 1 → fewOne (sat l j) = true := by
  intro j hj
  by_cases e : j = k
  · rw [e]; exact h
  · exact ha j (by omega)

theorem few_all {l : List Ses} (hl : l.length ≤ 50) (ha : ∀ j, j < l.length → fewOne (sat l j) = true) : fewSes l = true := by
  unfold fewSes
  rw [show decide (l.length ≤ 50) = true by simpa using hl, Bool.true_and, List.all_eq_true]
  intro s hs
  obtain ⟨j, hj, rfl⟩ := List.getElem_of_mem hs
  have := ha j hj
  rwa [show sat l j = l[j] from sgetDB hj] at this

theorem few_get {l : List Ses} (h : fewSes l = true) : l.length ≤ 50 ∧ ∀ s ∈ l, s.u.length ≤ 40 ∧ s.v.st.length ≤ 60 := by
  unfold fewSes at h
  rw [Bool.and_eq_true, List.all_eq_true] at h
  refine ⟨by simpa using h.1, fun s hs => ?_⟩
  have := h.2 s hs
  unfold fewOne at this
  simpa using this

set_option maxHeartbeats 1600000 in
set_option maxRecDepth 100000 in
theorem few09_eq {w : World} {v : Value} {l : List Ses} (hv : Sess w v l) {r : Bool} (hr : fewSes l = r) :
    Calls Tryz.prog 45 #[v] w fun e w' => e = .returned (.bool r) ∧ w = w' := by
  have HV := Lib.hid hv
  obtain ⟨ao, cap, rfl, hm⟩ := hv.open'
  clear hv
  by_cases hl : l.length ≤ 50
  · have t0 : decide (50 < (l.length : Int)) = false := by simp; omega
    have HR := Lib.hid hr
    clear hr
    go_enter Tryz.func45, Tryz.ntmps45
    go_wp2_with fail
    go_loop [3] (fun t => ∃ k : Nat, k ≤ l.length ∧ t = .int .i64 k ∧ Hid (∀ j, j < k → fewOne (sat l j) = true)) (fun t => l.length - (intOf t).toNat)
    case atStart => exact ⟨0, by omega, rfl, by show ∀ _, _; intro j hj; omega⟩
    case round =>
      obtain ⟨k, hk, rfl, HA⟩ := hrel
      by_cases hlt : k < l.length
      · obtain ⟨b, off, rfl, hc⟩ := HV.out.row (Below.refl _ _) k hlt
        have hA1 := few_off (l := l) hlt
        have hA2 := few_on (l := l) (k := k) HA.out
        obtain ⟨⟨xn, xi, ⟨xa, xb, xc, xs⟩⟩, hx⟩ : ∃ s, sat l k = s := ⟨_, rfl⟩
        rw [show l.getD k Ses.zero = sat l k from rfl, hx] at hc
        rw [hx] at hA1 hA2
        obtain ⟨s0, s1, s2, s3, s4, s5⟩ := cells6 hc
        try simp only at s0 s1 s2 s3 s4 s5
        by_cases h1 : xn.length ≤ 40
        · have t1 : decide (40 < (xn.length : Int)) = false := by simp; omega
          by_cases h2 : xs.length ≤ 60
          · have t2 : decide (60 < (xs.length : Int)) = false := by simp; omega
            have HA2 : Hid (∀ j, j < k + 1 → fewOne (sat l j) = true) := hA2 (by unfold fewOne; simp [h1, h2])
            clear hA1 hA2 hx hc h1 h2
            go_wp2_with fail
            go_round
            case rel => exact ⟨k + 1, by omega, by go_num, HA2⟩
            case measure => simp [intOf]; omega
          · have t2 : decide (60 < (xs.length : Int)) = true := by simp; omega
            have HRF : Hid (false = r) := by show _ = _; rw [← HR.out, hA1 (by unfold fewOne; simp [h1]; omega)]
            clear hA1 hA2 hx hc h1 h2
            go_wp2_with fail
            go_ret
            exact ⟨by rw [← HRF.out]; rfl, rfl⟩
        · have t1 : decide (40 < (xn.length : Int)) = true := by simp; omega
          have HRF : Hid (false = r) := by show _ = _; rw [← HR.out, hA1 (by unfold fewOne; simp [h1])]
          clear hA1 hA2 hx hc h1
          go_wp2_with fail
          go_ret
          exact ⟨by rw [← HRF.out]; rfl, rfl⟩
      · obtain rfl : k = l.length := by omega
        have HRF : Hid (true = r) := by show _ = _; rw [← HR.out, few_all hl HA.out]
        go_wp2_with fail
        go_ret
        exact ⟨by rw [← HRF.out]; rfl, rfl⟩
  · have t0 : decide (50 < (l.length : Int)) = true := by simp; omega
    have HRF : Hid (false = r) := by
      show _ = _
      rw [← hr]
      unfold fewSes
      rw [show decide (l.length ≤ 50) = false by simp; omega]
      rfl
    clear hr hl
    go_enter Tryz.func45, Tryz.ntmps45
    go_wp2_with fail
    go_ret
    exact ⟨by rw [← HRF.out]; rfl, rfl⟩

end Go.Proofs.YtdilcckoapaimaaGreat

end

section

/-
  LAYER 14: Same of the code (slices.Equal) and of the document; Few, Short.
-/
namespace Go.Proofs.YtdilcckoapaimaaGreat
open Go.RowKit

def entSame (a b : Ent) : Bool := (a.o == b.o) && ((a.c == b.c) && itSame a.it b.it)

theorem entSame_iff {a b : Ent} : entSame a b = true ↔ a = b := by
  obtain ⟨ao, ac, ai⟩ := a
  obtain ⟨bo, bc, bi⟩ := b
  unfold entSame
  simp only [Bool.and_eq_true, beq_iff_eq, itSame_iff, Ent.mk.injEq]

def entsSame (a b : List Ent) : Bool := (a.length == b.length) && (List.range a.length).all fun i => entSame (a.getD i Ent.zero) (b.getD i Ent.zero)

def staSame (t s : Sta) : Bool := entsSame t.e s.e && sessSame t.s s.s

theorem ent_eqG (d : Nat) (xo xc : List UInt8) (x1 x2 x3 x4 x5 : Bool) (yo yc : List UInt8) (y1 y2 y3 y4 y5 : Bool) (w : World) :
    (Op.equalIn (d + 1 + 1 + 1) 87 (.agg #[.string ⟨xo.toArray⟩, .string ⟨xc.toArray⟩, .bool x1, .bool x2, .bool x3, .bool x4, .bool x5]) (.agg #[.string ⟨yo.toArray⟩, .string ⟨yc.toArray⟩, .bool y1, .bool y2, .bool y3, .bool y4, .bool y5])).run Tryz.prog w = .ok (entSame ⟨xo, xc, ⟨x1, x2, x3, x4, x5⟩⟩ ⟨yo, yc, ⟨y1, y2, y3, y4, y5⟩⟩) w := by
  have hS : Tryz.prog.underlying 87 = some (.struct (Tryz.prog.fieldsOf 87)) := by kernel_rfl
  have hp : Tryz.prog.stoodInHeld 87 = false := by kernel_rfl
  have u9 := Tryz.underlying9
  have a9 := Tryz.isAgg9
  have z9 := Tryz.sizeOf9
  have a3 := Tryz.isAgg51
  have z3 := Tryz.sizeOf51
  have hi := fun w => item_eqIn d x1 x2 x3 x4 x5 y1 y2 y3 y4 y5 w
  have e1 : ∀ b : Bool, (xo == yo) = b → (xc == yc) = b → True := fun _ _ _ => trivial
  clear e1
  rw [run_equalIn_agg w (d + 1 + 1) 87 _ _ hS hp]
  simp only [Program.fieldsOf, Tryz.underlying87]
  unfold entSame
  by_cases h1 : xo = yo
  · subst h1
    by_cases h2 : xc = yc
    · subst h2
      go_simp
      generalize itSame ⟨x1, x2, x3, x4, x5⟩ ⟨y1, y2, y3, y4, y5⟩ = q
      cases q <;> simp
    · have t2 : (xc == yc) = false := by rw [beq_eq_false_iff_ne]; exact h2
      go_simp
  · have t1 : (xo == yo) = false := by rw [beq_eq_false_iff_ne]; exact h1
    go_simp

theorem ent_neqG (xo xc : List UInt8) (x1 x2 x3 x4 x5 : Bool) (yo yc : List UInt8) (y1 y2 y3 y4 y5 : Bool) (w : World) :
    (binOp .neq 87 (.agg #[.string ⟨xo.toArray⟩, .string ⟨xc.toArray⟩, .bool x1, .bool x2, .bool x3, .bool x4, .bool x5]) (.agg #[.string ⟨yo.toArray⟩, .string ⟨yc.toArray⟩, .bool y1, .bool y2, .bool y3, .bool y4, .bool y5])).run Tryz.prog w = .ok (.bool (!entSame ⟨xo, xc, ⟨x1, x2, x3, x4, x5⟩⟩ ⟨yo, yc, ⟨y1, y2, y3, y4, y5⟩⟩)) w := by
  rw [run_neq_struct, show (10000 : Nat) = 9997 + 1 + 1 + 1 from rfl, ent_eqG 9997]
  rfl

set_option maxHeartbeats 1600000 in
set_option maxRecDepth 100000 in
theorem rsame8_any {w : World} {v u : Value} {l m : List Ent} (hv : Ents w v l) (hu : Ents w u m) {r : Bool} (h : Hid (entsSame l m = r)) :
    Calls Tryz.prog 52 #[v, u] w fun e w' => e = .returned (.bool r) ∧ Below w.heap.size w w' := by
  have HV := Lib.hid hv
  have HU := Lib.hid hu
  obtain ⟨a, cap, rfl, _⟩ := hv.open'
  obtain ⟨a2, cap2, rfl, _⟩ := hu.open'
  clear hv hu
  by_cases hln : l.length = m.length
  · have t0 : ((l.length : Int) != (m.length : Int)) = false := by rw [hln]; simp
    go_enter Tryz.func52, Tryz.ntmps52
    go_wp2_with fail
    go_loopw [5] (fun i wr => ∃ k : Nat, k ≤ l.length ∧ i = .int .i64 k ∧ Hid (Below w.heap.size w wr) ∧ Hid ((List.range k).all (fun i => entSame (l.getD i Ent.zero) (m.getD i Ent.zero)) = true)) (fun i _ => l.length - (intOf i).toNat)
    case atStart => exact ⟨0, by omega, rfl, Below.refl _ _, rfl⟩
    case round =>
      obtain ⟨k, hk, rfl, HB, HA⟩ := hrel
      by_cases hlt : k < l.length
      · have hltm : k < m.length := by omega
        obtain ⟨b, off, rfl, hc⟩ := HV.out.row HB.out k hlt
        obtain ⟨b2, off2, rfl, hd⟩ := HU.out.row HB.out k hltm
        obtain ⟨⟨eo, ec, ⟨x1, x2, x3, x4, x5⟩⟩, hr⟩ : ∃ r, l.getD k Ent.zero = r := ⟨_, rfl⟩
        obtain ⟨⟨fo, fc, ⟨y1, y2, y3, y4, y5⟩⟩, hr2⟩ : ∃ r, m.getD k Ent.zero = r := ⟨_, rfl⟩
        rw [hr] at hc
        rw [hr2] at hd
        obtain ⟨p0, p1, p2, p3, p4, p5, p6⟩ := cells7_regrown hc
        obtain ⟨q0, q1, q2, q3, q4, q5, q6⟩ := cells7_regrown hd
        try simp only at p0 p1 p2 p3 p4 p5 p6 q0 q1 q2 q3 q4 q5 q6
        obtain ⟨q, hq⟩ : ∃ q, entSame ⟨eo, ec, ⟨x1, x2, x3, x4, x5⟩⟩ ⟨fo, fc, ⟨y1, y2, y3, y4, y5⟩⟩ = q := ⟨_, rfl⟩
        have he := fun w => ent_neqG eo ec x1 x2 x3 x4 x5 fo fc y1 y2 y3 y4 y5 w
        rw [hq] at he
        have HQ : Hid (entSame (l.getD k Ent.zero) (m.getD k Ent.zero) = q) := by show _ = _; rw [hr, hr2]; exact hq
        have hnn : (0 : Int) ≤ (k : Int) := by omega
        have hli : (k : Int) < (l.length : Int) := by omega
        have hlm : (k : Int) < (m.length : Int) := by omega
        clear hr hr2 hq hc hd
        go_wp2_with fail
        refine wp_region_quiet_below (by kernel_rfl) (by kernel_rfl) ?_
        repeat (go_big_quiet_step (fail))
        refine wpQuiet_nil ?_
        intro w5 hw5
        have B5 := Lib.hid (below2Z HB.out (regrownZ hw5))
        clear hw5 p0 p1 p2 p3 p4 p5 p6 q0 q1 q2 q3 q4 q5 q6
        cases q with
        | false =>
          have HR : entsSame l m = false := by
            unfold entsSame
            rw [show (List.range l.length).all (fun i => entSame (l.getD i Ent.zero) (m.getD i Ent.zero)) = false from all_off hlt HQ.out, Bool.and_false]
          rw [h.out] at HR
          subst HR
          go_wp2_with fail
          go_ret
          exact ⟨rfl, B5.out⟩
        | true =>
          have HA2 : Hid ((List.range (k + 1)).all (fun i => entSame (l.getD i Ent.zero) (m.getD i Ent.zero)) = true) := all_next HA.out HQ.out
          clear HQ
          go_wp2_with fail
          go_roundw
          case rel => exact ⟨k + 1, by omega, by go_num, B5, HA2⟩
          case measure => simp [intOf]; omega
      · obtain rfl : k = l.length := by omega
        have HR : entsSame l m = true := by
          unfold entsSame
          rw [show (List.range l.length).all (fun i => entSame (l.getD i Ent.zero) (m.getD i Ent.zero)) = true from HA.out]
          simp [hln]
        rw [h.out] at HR
        subst HR
        go_wp2_with fail
        go_ret
        exact ⟨rfl, HB.out⟩
  · have t0 : ((l.length : Int) != (m.length : Int)) = true := by rw [bne_iff_ne]; omega
    have HR : entsSame l m = false := by
      unfold entsSame
      simp [hln]
    rw [h.out] at HR
    subst HR
    go_enter Tryz.func52, Tryz.ntmps52
    go_wp2_with fail
    go_ret
    exact ⟨rfl, Below.refl _ _⟩

set_option maxHeartbeats 1600000 in
set_option maxRecDepth 100000 in
theorem eqEnts_any {w : World} {v u : Value} {l m : List Ent} (hv : Ents w v l) (hu : Ents w u m) {r : Bool} (h : Hid (entsSame l m = r)) :
    Calls Tryz.prog 57 #[v, u] w fun e w' => e = .returned (.bool r) ∧ Below w.heap.size w w' := by
  have HV := Lib.hid hv
  have HU := Lib.hid hu
  obtain ⟨a, cap, rfl, _⟩ := hv.open'
  obtain ⟨a2, cap2, rfl, _⟩ := hu.open'
  clear hv hu
  by_cases hln : l.length = m.length
  · have t0 : ((l.length : Int) != (m.length : Int)) = false := by rw [hln]; simp
    go_enter Tryz.func57, Tryz.ntmps57
    go_wp2_with fail
    go_loopw [13] (fun i wr => ∃ k : Nat, k ≤ l.length ∧ i = .int .i64 k ∧ Hid (Below w.heap.size w wr) ∧ Hid ((List.range k).all (fun i => entSame (l.getD i Ent.zero) (m.getD i Ent.zero)) = true)) (fun i _ => l.length - (intOf i).toNat)
    case atStart => exact ⟨0, by omega, rfl, Below.refl _ _, rfl⟩
    case round =>
      obtain ⟨k, hk, rfl, HB, HA⟩ := hrel
      by_cases hlt : k < l.length
      · have hltm : k < m.length := by omega
        obtain ⟨b, off, rfl, hc⟩ := HV.out.row HB.out k hlt
        obtain ⟨b2, off2, rfl, hd⟩ := HU.out.row HB.out k hltm
        obtain ⟨⟨eo, ec, ⟨x1, x2, x3, x4, x5⟩⟩, hr⟩ : ∃ r, l.getD k Ent.zero = r := ⟨_, rfl⟩
        obtain ⟨⟨fo, fc, ⟨y1, y2, y3, y4, y5⟩⟩, hr2⟩ : ∃ r, m.getD k Ent.zero = r := ⟨_, rfl⟩
        rw [hr] at hc
        rw [hr2] at hd
        obtain ⟨p0, p1, p2, p3, p4, p5, p6⟩ := cells7_regrown hc
        obtain ⟨q0, q1, q2, q3, q4, q5, q6⟩ := cells7_regrown hd
        try simp only at p0 p1 p2 p3 p4 p5 p6 q0 q1 q2 q3 q4 q5 q6
        obtain ⟨q, hq⟩ : ∃ q, entSame ⟨eo, ec, ⟨x1, x2, x3, x4, x5⟩⟩ ⟨fo, fc, ⟨y1, y2, y3, y4, y5⟩⟩ = q := ⟨_, rfl⟩
        have he := fun w => ent_neqG eo ec x1 x2 x3 x4 x5 fo fc y1 y2 y3 y4 y5 w
        rw [hq] at he
        have HQ : Hid (entSame (l.getD k Ent.zero) (m.getD k Ent.zero) = q) := by show _ = _; rw [hr, hr2]; exact hq
        have hnn : (0 : Int) ≤ (k : Int) := by omega
        have hli : (k : Int) < (l.length : Int) := by omega
        have hlm : (k : Int) < (m.length : Int) := by omega
        clear hr hr2 hq hc hd
        go_wp2_with fail
        refine wp_region_quiet_below (by kernel_rfl) (by kernel_rfl) ?_
        repeat (go_big_quiet_step (fail))
        refine wpQuiet_nil ?_
        intro w5 hw5
        have B5 := Lib.hid (below2Z HB.out (regrownZ hw5))
        clear hw5 p0 p1 p2 p3 p4 p5 p6 q0 q1 q2 q3 q4 q5 q6
        cases q with
        | false =>
          have HR : entsSame l m = false := by
            unfold entsSame
            rw [show (List.range l.length).all (fun i => entSame (l.getD i Ent.zero) (m.getD i Ent.zero)) = false from all_off hlt HQ.out, Bool.and_false]
          rw [h.out] at HR
          subst HR
          go_wp2_with fail
          go_ret
          exact ⟨rfl, B5.out⟩
        | true =>
          have HA2 : Hid ((List.range (k + 1)).all (fun i => entSame (l.getD i Ent.zero) (m.getD i Ent.zero)) = true) := all_next HA.out HQ.out
          clear HQ
          go_wp2_with fail
          go_roundw
          case rel => exact ⟨k + 1, by omega, by go_num, B5, HA2⟩
          case measure => simp [intOf]; omega
      · obtain rfl : k = l.length := by omega
        have HR : entsSame l m = true := by
          unfold entsSame
          rw [show (List.range l.length).all (fun i => entSame (l.getD i Ent.zero) (m.getD i Ent.zero)) = true from HA.out]
          simp [hln]
        rw [h.out] at HR
        subst HR
        go_wp2_with fail
        go_ret
        exact ⟨rfl, HB.out⟩
  · have t0 : ((l.length : Int) != (m.length : Int)) = true := by rw [bne_iff_ne]; omega
    have HR : entsSame l m = false := by
      unfold entsSame
      simp [hln]
    rw [h.out] at HR
    subst HR
    go_enter Tryz.func57, Tryz.ntmps57
    go_wp2_with fail
    go_ret
    exact ⟨rfl, Below.refl _ _⟩

set_option maxHeartbeats 1600000 in
set_option maxRecDepth 100000 in
theorem eqSess_any {w : World} {v u : Value} {l m : List Ses} (hv : Sess w v l) (hu : Sess w u m) {r : Bool} (h : Hid (sessSame l m = r)) :
    Calls Tryz.prog 58 #[v, u] w fun e w' => e = .returned (.bool r) ∧ Below w.heap.size w w' := by
  have HV := Lib.hid hv
  have HU := Lib.hid hu
  obtain ⟨a, cap, rfl, _⟩ := hv.open'
  obtain ⟨a2, cap2, rfl, _⟩ := hu.open'
  clear hv hu
  by_cases hln : l.length = m.length
  · have t0 : ((l.length : Int) != (m.length : Int)) = false := by rw [hln]; simp
    go_enter Tryz.func58, Tryz.ntmps58
    go_wp2_with fail
    go_loopw [13] (fun i wr => ∃ k : Nat, k ≤ l.length ∧ i = .int .i64 k ∧ Hid (Below w.heap.size w wr) ∧ Hid ((List.range k).all (fun i => sesSame (l.getD i Ses.zero) (m.getD i Ses.zero)) = true)) (fun i _ => l.length - (intOf i).toNat)
    case atStart => exact ⟨0, by omega, rfl, Below.refl _ _, rfl⟩
    case round =>
      obtain ⟨k, hk, rfl, HB, HA⟩ := hrel
      by_cases hlt : k < l.length
      · have hltm : k < m.length := by omega
        obtain ⟨b, off, rfl, hc⟩ := HV.out.row HB.out k hlt
        obtain ⟨b2, off2, rfl, hd⟩ := HU.out.row HB.out k hltm
        obtain ⟨⟨eu, ei, ⟨ea, eb, ec, es⟩⟩, hr⟩ : ∃ r, l.getD k Ses.zero = r := ⟨_, rfl⟩
        obtain ⟨⟨fu, fi, ⟨fa, fb, fc, fs⟩⟩, hr2⟩ : ∃ r, m.getD k Ses.zero = r := ⟨_, rfl⟩
        rw [hr] at hc
        rw [hr2] at hd
        obtain ⟨p0, p1, p2, p3, p4, p5⟩ := cells6_regrown hc
        obtain ⟨q0, q1, q2, q3, q4, q5⟩ := cells6_regrown hd
        try simp only at p0 p1 p2 p3 p4 p5 q0 q1 q2 q3 q4 q5
        obtain ⟨q, hq⟩ : ∃ q, sesSame ⟨eu, ei, ⟨ea, eb, ec, es⟩⟩ ⟨fu, fi, ⟨fa, fb, fc, fs⟩⟩ = q := ⟨_, rfl⟩
        have he := fun w => ses_neq eu fu ei ea eb ec fi fa fb fc es fs w
        rw [hq] at he
        have HQ : Hid (sesSame (l.getD k Ses.zero) (m.getD k Ses.zero) = q) := by show _ = _; rw [hr, hr2]; exact hq
        have hnn : (0 : Int) ≤ (k : Int) := by omega
        have hli : (k : Int) < (l.length : Int) := by omega
        have hlm : (k : Int) < (m.length : Int) := by omega
        clear hr hr2 hq hc hd
        go_wp2_with fail
        refine wp_region_quiet_below (by kernel_rfl) (by kernel_rfl) ?_
        repeat (go_big_quiet_step (fail))
        refine wpQuiet_nil ?_
        intro w5 hw5
        have B5 := Lib.hid (below2Z HB.out (regrownZ hw5))
        clear hw5 p0 p1 p2 p3 p4 p5 q0 q1 q2 q3 q4 q5
        cases q with
        | false =>
          have HR : sessSame l m = false := by
            unfold sessSame
            rw [show (List.range l.length).all (fun i => sesSame (l.getD i Ses.zero) (m.getD i Ses.zero)) = false from all_off hlt HQ.out, Bool.and_false]
          rw [h.out] at HR
          subst HR
          go_wp2_with fail
          go_ret
          exact ⟨rfl, B5.out⟩
        | true =>
          have HA2 : Hid ((List.range (k + 1)).all (fun i => sesSame (l.getD i Ses.zero) (m.getD i Ses.zero)) = true) := all_next HA.out HQ.out
          clear HQ
          go_wp2_with fail
          go_roundw
          case rel => exact ⟨k + 1, by omega, by go_num, B5, HA2⟩
          case measure => simp [intOf]; omega
      · obtain rfl : k = l.length := by omega
        have HR : sessSame l m = true := by
          unfold sessSame
          rw [show (List.range l.length).all (fun i => sesSame (l.getD i Ses.zero) (m.getD i Ses.zero)) = true from HA.out]
          simp [hln]
        rw [h.out] at HR
        subst HR
        go_wp2_with fail
        go_ret
        exact ⟨rfl, HB.out⟩
  · have t0 : ((l.length : Int) != (m.length : Int)) = true := by rw [bne_iff_ne]; omega
    have HR : sessSame l m = false := by
      unfold sessSame
      simp [hln]
    rw [h.out] at HR
    subst HR
    go_enter Tryz.func58, Tryz.ntmps58
    go_wp2_with fail
    go_ret
    exact ⟨rfl, Below.refl _ _⟩

set_option maxHeartbeats 1600000 in
set_option maxRecDepth 100000 in
theorem stsame_any {w : World} {x y x2 y2 : Value} {t s : Sta} (h : StAt w x y t) (h2 : StAt w x2 y2 s) {r : Bool} (hr : Hid (staSame t s = r)) :
    Calls Tryz.prog 20 #[.agg #[x, y], .agg #[x2, y2]] w fun e w' => e = .returned (.bool r) ∧ Below w.heap.size w w' := by
  have hr := hr.out
  unfold staSame at hr
  have b1 := bl_newZ w (.cells #[x, y] 25)
  have b2 := bl_newZ (w.alloc (.cells #[x, y] 25)) (.cells #[x2, y2] 25)
  have b12 := below2Z b1 b2
  have HB := Lib.hid b12
  have H := Lib.hid (h.later b12)
  have K := Lib.hid (h2.later b12)
  have FA := Lib.hid (upT (heap_newT w (.cells #[x, y] 25)) b2)
  have FB : Hid (((w.alloc (.cells #[x, y] 25)).alloc (.cells #[x2, y2] 25)).heap[w.heap.size + 1]? = some (.cells #[x2, y2] 25 (0, 0))) := by
    have hz := heap_newT (w.alloc (.cells #[x, y] 25)) (.cells #[x2, y2] 25)
    simp only [World.size_alloc] at hz
    exact hz
  obtain ⟨a0, a1, -, -⟩ := two_T FA.out
  obtain ⟨d0, d1, -, -⟩ := two_T FB.out
  obtain ⟨p, hp⟩ : ∃ p, entsSame t.e s.e = p := ⟨_, rfl⟩
  obtain ⟨q, hq⟩ : ∃ q, sessSame t.s s.s = q := ⟨_, rfl⟩
  rw [hp, hq] at hr
  have HP := Lib.hid hp
  have HQ := Lib.hid hq
  clear hp hq b1 b2 b12 h h2
  cases p with
  | false =>
    rw [Bool.false_and] at hr
    subst hr
    go_enter Tryz.func20, Tryz.ntmps20
    go_wp2_with fail
    refine (eqEnts_any H.out.1 K.out.1 HP).mono ?_
    rintro e w1 ⟨rfl, c1⟩
    replace HB := Lib.hid (below2Z HB.out c1)
    replace H := Lib.hid (H.out.later c1)
    replace K := Lib.hid (K.out.later c1)
    replace FA := Lib.hid (upT FA.out c1)
    replace FB := Lib.hid (upT FB.out c1)
    clear c1 a0 a1 d0 d1
    obtain ⟨a0, a1, -, -⟩ := two_T FA.out
    obtain ⟨d0, d1, -, -⟩ := two_T FB.out
    go_wp2_with fail
    go_ret
    exact ⟨rfl, HB.out⟩
  | true =>
    rw [Bool.true_and] at hr
    subst hr
    go_enter Tryz.func20, Tryz.ntmps20
    go_wp2_with fail
    refine (eqEnts_any H.out.1 K.out.1 HP).mono ?_
    rintro e w1 ⟨rfl, c1⟩
    replace HB := Lib.hid (below2Z HB.out c1)
    replace H := Lib.hid (H.out.later c1)
    replace K := Lib.hid (K.out.later c1)
    replace FA := Lib.hid (upT FA.out c1)
    replace FB := Lib.hid (upT FB.out c1)
    clear c1 a0 a1 d0 d1
    obtain ⟨a0, a1, -, -⟩ := two_T FA.out
    obtain ⟨d0, d1, -, -⟩ := two_T FB.out
    go_wp2_with fail
    refine (eqSess_any H.out.2 K.out.2 HQ).mono ?_
    rintro e w2 ⟨rfl, c2⟩
    replace HB := Lib.hid (below2Z HB.out c2)
    clear c2 a0 a1 d0 d1
    go_wp2_with fail
    go_ret
    exact ⟨rfl, HB.out⟩

set_option maxHeartbeats 1600000 in
set_option maxRecDepth 100000 in
theorem rstsame_any {w : World} {x y x2 y2 : Value} {t s : Sta} (h : StAt w x y t) (h2 : StAt w x2 y2 s) {r : Bool} (hr : Hid (staSame t s = r)) :
    Calls Tryz.prog 17 #[.agg #[x, y], .agg #[x2, y2]] w fun e w' => e = .returned (.bool r) ∧ Below w.heap.size w w' := by
  have hr := hr.out
  unfold staSame at hr
  have b1 := bl_newZ w (.cells #[x, y] 25)
  have b2 := bl_newZ (w.alloc (.cells #[x, y] 25)) (.cells #[x2, y2] 25)
  have b12 := below2Z b1 b2
  have HB := Lib.hid b12
  have H := Lib.hid (h.later b12)
  have K := Lib.hid (h2.later b12)
  have FA := Lib.hid (upT (heap_newT w (.cells #[x, y] 25)) b2)
  have FB : Hid (((w.alloc (.cells #[x, y] 25)).alloc (.cells #[x2, y2] 25)).heap[w.heap.size + 1]? = some (.cells #[x2, y2] 25 (0, 0))) := by
    have hz := heap_newT (w.alloc (.cells #[x, y] 25)) (.cells #[x2, y2] 25)
    simp only [World.size_alloc] at hz
    exact hz
  obtain ⟨a0, a1, -, -⟩ := two_T FA.out
  obtain ⟨d0, d1, -, -⟩ := two_T FB.out
  obtain ⟨p, hp⟩ : ∃ p, entsSame t.e s.e = p := ⟨_, rfl⟩
  obtain ⟨q, hq⟩ : ∃ q, sessSame t.s s.s = q := ⟨_, rfl⟩
  rw [hp, hq] at hr
  have HP := Lib.hid hp
  have HQ := Lib.hid hq
  clear hp hq b1 b2 b12 h h2
  cases p with
  | false =>
    rw [Bool.false_and] at hr
    subst hr
    go_enter Tryz.func17, Tryz.ntmps17
    go_wp2_with fail
    refine (rsame8_any H.out.1 K.out.1 HP).mono ?_
    rintro e w1 ⟨rfl, c1⟩
    replace HB := Lib.hid (below2Z HB.out c1)
    replace H := Lib.hid (H.out.later c1)
    replace K := Lib.hid (K.out.later c1)
    replace FA := Lib.hid (upT FA.out c1)
    replace FB := Lib.hid (upT FB.out c1)
    clear c1 a0 a1 d0 d1
    obtain ⟨a0, a1, -, -⟩ := two_T FA.out
    obtain ⟨d0, d1, -, -⟩ := two_T FB.out
    go_wp2_with fail
    go_ret
    exact ⟨rfl, HB.out⟩
  | true =>
    rw [Bool.true_and] at hr
    subst hr
    go_enter Tryz.func17, Tryz.ntmps17
    go_wp2_with fail
    refine (rsame8_any H.out.1 K.out.1 HP).mono ?_
    rintro e w1 ⟨rfl, c1⟩
    replace HB := Lib.hid (below2Z HB.out c1)
    replace H := Lib.hid (H.out.later c1)
    replace K := Lib.hid (K.out.later c1)
    replace FA := Lib.hid (upT FA.out c1)
    replace FB := Lib.hid (upT FB.out c1)
    clear c1 a0 a1 d0 d1
    obtain ⟨a0, a1, -, -⟩ := two_T FA.out
    obtain ⟨d0, d1, -, -⟩ := two_T FB.out
    go_wp2_with fail
    refine (rssame_any H.out.2 K.out.2 HQ).mono ?_
    rintro e w2 ⟨rfl, c2⟩
    replace HB := Lib.hid (below2Z HB.out c2)
    clear c2 a0 a1 d0 d1
    go_wp2_with fail
    go_ret
    exact ⟨rfl, HB.out⟩

theorem entsSame_self (l : List Ent) : entsSame l l = true := by
  unfold entsSame
  simp only [beq_self_eq_true, Bool.true_and, List.all_eq_true]
  intro i _
  exact entSame_iff.2 rfl

theorem staSame_self (t : Sta) : staSame t t = true := by
  unfold staSame
  rw [entsSame_self, sessSame_self]
  rfl

/-- Few entries and sessions. -/
def fewSta (t : Sta) : Bool := fewR t.e && fewSes t.s

set_option maxHeartbeats 1600000 in
set_option maxRecDepth 100000 in
theorem fewst_any {w : World} {x y : Value} {t : Sta} (h : StAt w x y t) {r : Bool} (hr : Hid (fewSta t = r)) :
    Calls Tryz.prog 12 #[.agg #[x, y]] w fun e w' => e = .returned (.bool r) ∧ Below w.heap.size w w' := by
  have hr := hr.out
  unfold fewSta at hr
  have b0 := bl_newZ w (.cells #[x, y] 25)
  have HB := Lib.hid b0
  have H := Lib.hid (h.later b0)
  have F := Lib.hid (heap_newT w (.cells #[x, y] 25))
  obtain ⟨c0, c1, -, -⟩ := two_T F.out
  obtain ⟨a, ha⟩ : ∃ a, fewR t.e = a := ⟨_, rfl⟩
  obtain ⟨b, hb⟩ : ∃ b, fewSes t.s = b := ⟨_, rfl⟩
  rw [ha, hb] at hr
  have HA := Lib.hid ha
  have HC := Lib.hid (few09_eq H.out.2 hb)
  clear ha hb b0 h
  cases a with
  | false =>
    rw [Bool.false_and] at hr
    subst hr
    go_enter Tryz.func12, Tryz.ntmps12
    go_wp2_with fail
    refine (few8_any H.out.1 HA).mono ?_
    rintro e w1 ⟨rfl, rfl⟩
    go_wp2_with fail
    go_ret
    exact ⟨rfl, HB.out⟩
  | true =>
    rw [Bool.true_and] at hr
    subst hr
    go_enter Tryz.func12, Tryz.ntmps12
    go_wp2_with fail
    refine (few8_any H.out.1 HA).mono ?_
    rintro e w1 ⟨rfl, rfl⟩
    go_wp2_with fail
    refine HC.out.mono ?_
    rintro e w1 ⟨rfl, rfl⟩
    go_wp2_with fail
    go_ret
    exact ⟨rfl, HB.out⟩

/-- Short texts. -/
def shortEv (e : Ev) : Bool := decide (e.u.length ≤ 40) && (decide (e.o.length ≤ 40) && decide (e.v.st.length ≤ 60))

theorem shortEv_get {e : Ev} (h : shortEv e = true) : e.u.length ≤ 40 ∧ e.o.length ≤ 40 ∧ e.v.st.length ≤ 60 := by
  unfold shortEv at h
  simpa only [Bool.and_eq_true, decide_eq_true_eq] using h

set_option maxHeartbeats 1600000 in
set_option maxRecDepth 100000 in
theorem short14_any (k : Int) (u o st : List UInt8) (id a b c : Int) {r : Bool} (hr : Hid (shortEv ⟨k, u, o, id, ⟨a, b, c, st⟩⟩ = r)) (w : World) :
    Calls Tryz.prog 13 #[.agg #[.int .i64 k, .string ⟨u.toArray⟩, .string ⟨o.toArray⟩, .int .i64 id, .int .i64 a, .int .i64 b, .int .i64 c, .string ⟨st.toArray⟩]] w fun e w' => e = .returned (.bool r) ∧ Below w.heap.size w w' := by
  have hr := hr.out
  unfold shortEv at hr
  simp only at hr
  have HB := Lib.hid (bl_newZ w (.cells #[.int .i64 k, .string ⟨u.toArray⟩, .string ⟨o.toArray⟩, .int .i64 id, .int .i64 a, .int .i64 b, .int .i64 c, .string ⟨st.toArray⟩] 29))
  by_cases h1 : u.length ≤ 40
  · have t1 : decide ((u.length : Int) ≤ 40) = true := by rw [decide_eq_true_eq]; omega
    rw [decide_eq_true h1, Bool.true_and] at hr
    by_cases h2 : o.length ≤ 40
    · have t2 : decide ((o.length : Int) ≤ 40) = true := by rw [decide_eq_true_eq]; omega
      rw [decide_eq_true h2, Bool.true_and] at hr
      have t3 : decide ((st.length : Int) ≤ 60) = r := by rw [← hr]; congr 1; rw [eq_iff_iff]; omega
      clear hr
      go_enter Tryz.func13, Tryz.ntmps13
      go_wp2_with fail
      go_ret
      exact ⟨rfl, HB.out⟩
    · have t2 : decide ((o.length : Int) ≤ 40) = false := by rw [decide_eq_false_iff_not]; omega
      rw [decide_eq_false h2, Bool.false_and] at hr
      subst hr
      go_enter Tryz.func13, Tryz.ntmps13
      go_wp2_with fail
      go_ret
      exact ⟨rfl, HB.out⟩
  · have t1 : decide ((u.length : Int) ≤ 40) = false := by rw [decide_eq_false_iff_not]; omega
    rw [decide_eq_false h1, Bool.false_and] at hr
    subst hr
    go_enter Tryz.func13, Tryz.ntmps13
    go_wp2_with fail
    go_ret
    exact ⟨rfl, HB.out⟩

end Go.Proofs.YtdilcckoapaimaaGreat

end

section

/-
  LAYER 14: Touches of the code and of the document.
-/
namespace Go.Proofs.YtdilcckoapaimaaGreat
open Go.RowKit

theorem cells_up {A : Nat} {W X : World} {B : Nat} {vs : List Value} (h : CellsAt W B 0 vs) (hb : Below A W X) (hA : B < A) : CellsAt X B 0 vs := fun j u hu =>
  (hb.cell (p := ⟨B, 0 + j, none⟩) hA).trans (h j u hu)

set_option maxHeartbeats 1600000 in
set_option maxRecDepth 100000 in
theorem touch_c1 (u o st : List UInt8) (id a b c : Int)  (w : World) :
    Calls Tryz.prog 22 #[.agg #[.int .i64 1, .string ⟨u.toArray⟩, .string ⟨o.toArray⟩, .int .i64 id, .int .i64 a, .int .i64 b, .int .i64 c, .string ⟨st.toArray⟩]] w fun e w' => ∃ v, e = .returned v ∧ Texts w' v (mrg ([o] ++ [u] ++ [])) ∧ Below w.heap.size w w' := by
  obtain ⟨i0, hi, hz0, hz1, hz2⟩ := info_parts Tryz.infoTxt
  have b1 := bl_newZ w (.cells #[.int .i64 1, .string ⟨u.toArray⟩, .string ⟨o.toArray⟩, .int .i64 id, .int .i64 a, .int .i64 b, .int .i64 c, .string ⟨st.toArray⟩] 29)
  have HB := Lib.hid b1
  have FE := Lib.hid (cellsAt_made (w := w) (cs := #[.int .i64 1, .string ⟨u.toArray⟩, .string ⟨o.toArray⟩, .int .i64 id, .int .i64 a, .int .i64 b, .int .i64 c, .string ⟨st.toArray⟩]) (vs := evVals ⟨1, u, o, id, ⟨a, b, c, st⟩⟩) rfl 29 rfl)
  have hz := b1.size
  have hz1w : w.heap.size + 1 ≤ (w.alloc (.cells #[.int .i64 1, .string ⟨u.toArray⟩, .string ⟨o.toArray⟩, .int .i64 id, .int .i64 a, .int .i64 b, .int .i64 c, .string ⟨st.toArray⟩] 29)).heap.size := by simp
  have yy0 := hz1w
  obtain ⟨e0, e1, e2, e3, e4, e5, e6, e7⟩ := eightT FE.out
  clear b1
  have B0 : Hid (Below (w.heap.size + 1) (w.alloc (.cells #[.int .i64 1, .string ⟨u.toArray⟩, .string ⟨o.toArray⟩, .int .i64 id, .int .i64 a, .int .i64 b, .int .i64 c, .string ⟨st.toArray⟩] 29)) (w.alloc (.cells #[.int .i64 1, .string ⟨u.toArray⟩, .string ⟨o.toArray⟩, .int .i64 id, .int .i64 a, .int .i64 b, .int .i64 c, .string ⟨st.toArray⟩] 29))) := Lib.hid (Below.refl _ _)
  go_enter Tryz.func22, Tryz.ntmps22
  have O1 : Hid (OwnT _ (w.heap.size + 1) 9 (.slice none 0 0) []) := Lib.hid ((World.ownsRow_nil (w.alloc (.cells #[.int .i64 1, .string ⟨u.toArray⟩, .string ⟨o.toArray⟩, .int .i64 id, .int .i64 a, .int .i64 b, .int .i64 c, .string ⟨st.toArray⟩] 29)) _ _ _).alloc (.cells #[.string ⟨o.toArray⟩] 9))
  have M1 := Lib.hid (B0.out.alloc yy0 (.cells #[.string ⟨o.toArray⟩] 9))
  go_wp2_with (at_builtin; go_must (refine wpList_append_texts rfl _ _ 38 rfl (w.heap.size + 1) 9 i0 _ 16 Tryz.underlying38 hi hz0 hz1 hz2 rfl _ [] rfl (by exact O1.out) _ 1 1 [o] rfl rfl (fun e => nomatch e) ?c1 (by simp only [List.length_cons, List.length_nil]; omega) (by decide) (Nat.le_trans yy0 (bl_newZ _ _).size) ?_))
  case c1 => exact new_cellN (by simp)
  intro v1 W1 ho1 hb1
  have R1 := Lib.hid ho1
  have B1 := Lib.hid (M1.out.trans hb1)
  have yy1 := Nat.le_trans hz1w B1.out.size
  clear ho1 hb1 O1 M1 e0 e1 e2 e3 e4 e5 e6 e7
  obtain ⟨e0, e1, e2, e3, e4, e5, e6, e7⟩ := eightT (cells_up FE.out B1.out (by simp))
  have O2 := Lib.hid ((R1.out).alloc (.cells #[.string ⟨u.toArray⟩] 9))
  have M2 := Lib.hid (B1.out.alloc yy1 (.cells #[.string ⟨u.toArray⟩] 9))
  go_wp2_with (at_builtin; go_must (refine wpList_append_texts rfl _ _ 38 rfl (w.heap.size + 1) 9 i0 _ 16 Tryz.underlying38 hi hz0 hz1 hz2 rfl _ [o] rfl (by exact O2.out) _ 1 1 [u] rfl rfl (fun e => nomatch e) ?c1 (by simp only [List.length_cons, List.length_nil]; omega) (by decide) (Nat.le_trans yy1 (bl_newZ _ _).size) ?_))
  case c1 => exact new_cellN (by simp)
  intro v2 W2 ho2 hb2
  have R2 := Lib.hid ho2
  have B2 := Lib.hid (M2.out.trans hb2)
  have yy2 := Nat.le_trans hz1w B2.out.size
  clear ho2 hb2 O2 M2 e0 e1 e2 e3 e4 e5 e6 e7
  obtain ⟨e0, e1, e2, e3, e4, e5, e6, e7⟩ := eightT (cells_up FE.out B2.out (by simp))
  go_wp2_with fail
  refine (merge_any R2.out.texts (texts_nil _) (by simp) (by simp)).mono ?_
  rintro e w9 ⟨v9, rfl, h9, b9⟩
  have T9 := Lib.hid h9
  have N9 := Lib.hid (below2Z (HB.out.trans (B2.out.mono (Nat.le_succ _))) b9)
  clear h9 b9 e0 e1 e2 e3 e4 e5 e6 e7
  go_wp2_with fail
  go_ret
  exact ⟨_, rfl, T9.out, N9.out⟩

set_option maxHeartbeats 1600000 in
set_option maxRecDepth 100000 in
theorem touch_c2 (u o st : List UInt8) (id a b c : Int)  (w : World) :
    Calls Tryz.prog 22 #[.agg #[.int .i64 2, .string ⟨u.toArray⟩, .string ⟨o.toArray⟩, .int .i64 id, .int .i64 a, .int .i64 b, .int .i64 c, .string ⟨st.toArray⟩]] w fun e w' => ∃ v, e = .returned v ∧ Texts w' v (mrg ([o] ++ [u] ++ [])) ∧ Below w.heap.size w w' := by
  obtain ⟨i0, hi, hz0, hz1, hz2⟩ := info_parts Tryz.infoTxt
  have b1 := bl_newZ w (.cells #[.int .i64 2, .string ⟨u.toArray⟩, .string ⟨o.toArray⟩, .int .i64 id, .int .i64 a, .int .i64 b, .int .i64 c, .string ⟨st.toArray⟩] 29)
  have HB := Lib.hid b1
  have FE := Lib.hid (cellsAt_made (w := w) (cs := #[.int .i64 2, .string ⟨u.toArray⟩, .string ⟨o.toArray⟩, .int .i64 id, .int .i64 a, .int .i64 b, .int .i64 c, .string ⟨st.toArray⟩]) (vs := evVals ⟨2, u, o, id, ⟨a, b, c, st⟩⟩) rfl 29 rfl)
  have hz := b1.size
  have hz1w : w.heap.size + 1 ≤ (w.alloc (.cells #[.int .i64 2, .string ⟨u.toArray⟩, .string ⟨o.toArray⟩, .int .i64 id, .int .i64 a, .int .i64 b, .int .i64 c, .string ⟨st.toArray⟩] 29)).heap.size := by simp
  have yy0 := hz1w
  obtain ⟨e0, e1, e2, e3, e4, e5, e6, e7⟩ := eightT FE.out
  clear b1
  have B0 : Hid (Below (w.heap.size + 1) (w.alloc (.cells #[.int .i64 2, .string ⟨u.toArray⟩, .string ⟨o.toArray⟩, .int .i64 id, .int .i64 a, .int .i64 b, .int .i64 c, .string ⟨st.toArray⟩] 29)) (w.alloc (.cells #[.int .i64 2, .string ⟨u.toArray⟩, .string ⟨o.toArray⟩, .int .i64 id, .int .i64 a, .int .i64 b, .int .i64 c, .string ⟨st.toArray⟩] 29))) := Lib.hid (Below.refl _ _)
  go_enter Tryz.func22, Tryz.ntmps22
  have O1 : Hid (OwnT _ (w.heap.size + 1) 9 (.slice none 0 0) []) := Lib.hid ((World.ownsRow_nil (w.alloc (.cells #[.int .i64 2, .string ⟨u.toArray⟩, .string ⟨o.toArray⟩, .int .i64 id, .int .i64 a, .int .i64 b, .int .i64 c, .string ⟨st.toArray⟩] 29)) _ _ _).alloc (.cells #[.string ⟨o.toArray⟩] 9))
  have M1 := Lib.hid (B0.out.alloc yy0 (.cells #[.string ⟨o.toArray⟩] 9))
  go_wp2_with (at_builtin; go_must (refine wpList_append_texts rfl _ _ 38 rfl (w.heap.size + 1) 9 i0 _ 16 Tryz.underlying38 hi hz0 hz1 hz2 rfl _ [] rfl (by exact O1.out) _ 1 1 [o] rfl rfl (fun e => nomatch e) ?c1 (by simp only [List.length_cons, List.length_nil]; omega) (by decide) (Nat.le_trans yy0 (bl_newZ _ _).size) ?_))
  case c1 => exact new_cellN (by simp)
  intro v1 W1 ho1 hb1
  have R1 := Lib.hid ho1
  have B1 := Lib.hid (M1.out.trans hb1)
  have yy1 := Nat.le_trans hz1w B1.out.size
  clear ho1 hb1 O1 M1 e0 e1 e2 e3 e4 e5 e6 e7
  obtain ⟨e0, e1, e2, e3, e4, e5, e6, e7⟩ := eightT (cells_up FE.out B1.out (by simp))
  have O2 := Lib.hid ((R1.out).alloc (.cells #[.string ⟨u.toArray⟩] 9))
  have M2 := Lib.hid (B1.out.alloc yy1 (.cells #[.string ⟨u.toArray⟩] 9))
  go_wp2_with (at_builtin; go_must (refine wpList_append_texts rfl _ _ 38 rfl (w.heap.size + 1) 9 i0 _ 16 Tryz.underlying38 hi hz0 hz1 hz2 rfl _ [o] rfl (by exact O2.out) _ 1 1 [u] rfl rfl (fun e => nomatch e) ?c1 (by simp only [List.length_cons, List.length_nil]; omega) (by decide) (Nat.le_trans yy1 (bl_newZ _ _).size) ?_))
  case c1 => exact new_cellN (by simp)
  intro v2 W2 ho2 hb2
  have R2 := Lib.hid ho2
  have B2 := Lib.hid (M2.out.trans hb2)
  have yy2 := Nat.le_trans hz1w B2.out.size
  clear ho2 hb2 O2 M2 e0 e1 e2 e3 e4 e5 e6 e7
  obtain ⟨e0, e1, e2, e3, e4, e5, e6, e7⟩ := eightT (cells_up FE.out B2.out (by simp))
  go_wp2_with fail
  refine (merge_any R2.out.texts (texts_nil _) (by simp) (by simp)).mono ?_
  rintro e w9 ⟨v9, rfl, h9, b9⟩
  have T9 := Lib.hid h9
  have N9 := Lib.hid (below2Z (HB.out.trans (B2.out.mono (Nat.le_succ _))) b9)
  clear h9 b9 e0 e1 e2 e3 e4 e5 e6 e7
  go_wp2_with fail
  go_ret
  exact ⟨_, rfl, T9.out, N9.out⟩

set_option maxHeartbeats 1600000 in
set_option maxRecDepth 100000 in
theorem touch_c3 (u o st : List UInt8) (id a b c : Int)  (w : World) :
    Calls Tryz.prog 22 #[.agg #[.int .i64 3, .string ⟨u.toArray⟩, .string ⟨o.toArray⟩, .int .i64 id, .int .i64 a, .int .i64 b, .int .i64 c, .string ⟨st.toArray⟩]] w fun e w' => ∃ v, e = .returned v ∧ Texts w' v (mrg ([o] ++ [u] ++ [])) ∧ Below w.heap.size w w' := by
  obtain ⟨i0, hi, hz0, hz1, hz2⟩ := info_parts Tryz.infoTxt
  have b1 := bl_newZ w (.cells #[.int .i64 3, .string ⟨u.toArray⟩, .string ⟨o.toArray⟩, .int .i64 id, .int .i64 a, .int .i64 b, .int .i64 c, .string ⟨st.toArray⟩] 29)
  have HB := Lib.hid b1
  have FE := Lib.hid (cellsAt_made (w := w) (cs := #[.int .i64 3, .string ⟨u.toArray⟩, .string ⟨o.toArray⟩, .int .i64 id, .int .i64 a, .int .i64 b, .int .i64 c, .string ⟨st.toArray⟩]) (vs := evVals ⟨3, u, o, id, ⟨a, b, c, st⟩⟩) rfl 29 rfl)
  have hz := b1.size
  have hz1w : w.heap.size + 1 ≤ (w.alloc (.cells #[.int .i64 3, .string ⟨u.toArray⟩, .string ⟨o.toArray⟩, .int .i64 id, .int .i64 a, .int .i64 b, .int .i64 c, .string ⟨st.toArray⟩] 29)).heap.size := by simp
  have yy0 := hz1w
  obtain ⟨e0, e1, e2, e3, e4, e5, e6, e7⟩ := eightT FE.out
  clear b1
  have B0 : Hid (Below (w.heap.size + 1) (w.alloc (.cells #[.int .i64 3, .string ⟨u.toArray⟩, .string ⟨o.toArray⟩, .int .i64 id, .int .i64 a, .int .i64 b, .int .i64 c, .string ⟨st.toArray⟩] 29)) (w.alloc (.cells #[.int .i64 3, .string ⟨u.toArray⟩, .string ⟨o.toArray⟩, .int .i64 id, .int .i64 a, .int .i64 b, .int .i64 c, .string ⟨st.toArray⟩] 29))) := Lib.hid (Below.refl _ _)
  go_enter Tryz.func22, Tryz.ntmps22
  have O1 : Hid (OwnT _ (w.heap.size + 1) 9 (.slice none 0 0) []) := Lib.hid ((World.ownsRow_nil (w.alloc (.cells #[.int .i64 3, .string ⟨u.toArray⟩, .string ⟨o.toArray⟩, .int .i64 id, .int .i64 a, .int .i64 b, .int .i64 c, .string ⟨st.toArray⟩] 29)) _ _ _).alloc (.cells #[.string ⟨o.toArray⟩] 9))
  have M1 := Lib.hid (B0.out.alloc yy0 (.cells #[.string ⟨o.toArray⟩] 9))
  go_wp2_with (at_builtin; go_must (refine wpList_append_texts rfl _ _ 38 rfl (w.heap.size + 1) 9 i0 _ 16 Tryz.underlying38 hi hz0 hz1 hz2 rfl _ [] rfl (by exact O1.out) _ 1 1 [o] rfl rfl (fun e => nomatch e) ?c1 (by simp only [List.length_cons, List.length_nil]; omega) (by decide) (Nat.le_trans yy0 (bl_newZ _ _).size) ?_))
  case c1 => exact new_cellN (by simp)
  intro v1 W1 ho1 hb1
  have R1 := Lib.hid ho1
  have B1 := Lib.hid (M1.out.trans hb1)
  have yy1 := Nat.le_trans hz1w B1.out.size
  clear ho1 hb1 O1 M1 e0 e1 e2 e3 e4 e5 e6 e7
  obtain ⟨e0, e1, e2, e3, e4, e5, e6, e7⟩ := eightT (cells_up FE.out B1.out (by simp))
  have O2 := Lib.hid ((R1.out).alloc (.cells #[.string ⟨u.toArray⟩] 9))
  have M2 := Lib.hid (B1.out.alloc yy1 (.cells #[.string ⟨u.toArray⟩] 9))
  go_wp2_with (at_builtin; go_must (refine wpList_append_texts rfl _ _ 38 rfl (w.heap.size + 1) 9 i0 _ 16 Tryz.underlying38 hi hz0 hz1 hz2 rfl _ [o] rfl (by exact O2.out) _ 1 1 [u] rfl rfl (fun e => nomatch e) ?c1 (by simp only [List.length_cons, List.length_nil]; omega) (by decide) (Nat.le_trans yy1 (bl_newZ _ _).size) ?_))
  case c1 => exact new_cellN (by simp)
  intro v2 W2 ho2 hb2
  have R2 := Lib.hid ho2
  have B2 := Lib.hid (M2.out.trans hb2)
  have yy2 := Nat.le_trans hz1w B2.out.size
  clear ho2 hb2 O2 M2 e0 e1 e2 e3 e4 e5 e6 e7
  obtain ⟨e0, e1, e2, e3, e4, e5, e6, e7⟩ := eightT (cells_up FE.out B2.out (by simp))
  go_wp2_with fail
  refine (merge_any R2.out.texts (texts_nil _) (by simp) (by simp)).mono ?_
  rintro e w9 ⟨v9, rfl, h9, b9⟩
  have T9 := Lib.hid h9
  have N9 := Lib.hid (below2Z (HB.out.trans (B2.out.mono (Nat.le_succ _))) b9)
  clear h9 b9 e0 e1 e2 e3 e4 e5 e6 e7
  go_wp2_with fail
  go_ret
  exact ⟨_, rfl, T9.out, N9.out⟩

set_option maxHeartbeats 1600000 in
set_option maxRecDepth 100000 in
theorem touch_c4 (u o st : List UInt8) (id a b c : Int)  (w : World) :
    Calls Tryz.prog 22 #[.agg #[.int .i64 4, .string ⟨u.toArray⟩, .string ⟨o.toArray⟩, .int .i64 id, .int .i64 a, .int .i64 b, .int .i64 c, .string ⟨st.toArray⟩]] w fun e w' => ∃ v, e = .returned v ∧ Texts w' v (mrg ([o] ++ [u] ++ [])) ∧ Below w.heap.size w w' := by
  obtain ⟨i0, hi, hz0, hz1, hz2⟩ := info_parts Tryz.infoTxt
  have b1 := bl_newZ w (.cells #[.int .i64 4, .string ⟨u.toArray⟩, .string ⟨o.toArray⟩, .int .i64 id, .int .i64 a, .int .i64 b, .int .i64 c, .string ⟨st.toArray⟩] 29)
  have HB := Lib.hid b1
  have FE := Lib.hid (cellsAt_made (w := w) (cs := #[.int .i64 4, .string ⟨u.toArray⟩, .string ⟨o.toArray⟩, .int .i64 id, .int .i64 a, .int .i64 b, .int .i64 c, .string ⟨st.toArray⟩]) (vs := evVals ⟨4, u, o, id, ⟨a, b, c, st⟩⟩) rfl 29 rfl)
  have hz := b1.size
  have hz1w : w.heap.size + 1 ≤ (w.alloc (.cells #[.int .i64 4, .string ⟨u.toArray⟩, .string ⟨o.toArray⟩, .int .i64 id, .int .i64 a, .int .i64 b, .int .i64 c, .string ⟨st.toArray⟩] 29)).heap.size := by simp
  have yy0 := hz1w
  obtain ⟨e0, e1, e2, e3, e4, e5, e6, e7⟩ := eightT FE.out
  clear b1
  have B0 : Hid (Below (w.heap.size + 1) (w.alloc (.cells #[.int .i64 4, .string ⟨u.toArray⟩, .string ⟨o.toArray⟩, .int .i64 id, .int .i64 a, .int .i64 b, .int .i64 c, .string ⟨st.toArray⟩] 29)) (w.alloc (.cells #[.int .i64 4, .string ⟨u.toArray⟩, .string ⟨o.toArray⟩, .int .i64 id, .int .i64 a, .int .i64 b, .int .i64 c, .string ⟨st.toArray⟩] 29))) := Lib.hid (Below.refl _ _)
  go_enter Tryz.func22, Tryz.ntmps22
  have O1 : Hid (OwnT _ (w.heap.size + 1) 9 (.slice none 0 0) []) := Lib.hid ((World.ownsRow_nil (w.alloc (.cells #[.int .i64 4, .string ⟨u.toArray⟩, .string ⟨o.toArray⟩, .int .i64 id, .int .i64 a, .int .i64 b, .int .i64 c, .string ⟨st.toArray⟩] 29)) _ _ _).alloc (.cells #[.string ⟨o.toArray⟩] 9))
  have M1 := Lib.hid (B0.out.alloc yy0 (.cells #[.string ⟨o.toArray⟩] 9))
  go_wp2_with (at_builtin; go_must (refine wpList_append_texts rfl _ _ 38 rfl (w.heap.size + 1) 9 i0 _ 16 Tryz.underlying38 hi hz0 hz1 hz2 rfl _ [] rfl (by exact O1.out) _ 1 1 [o] rfl rfl (fun e => nomatch e) ?c1 (by simp only [List.length_cons, List.length_nil]; omega) (by decide) (Nat.le_trans yy0 (bl_newZ _ _).size) ?_))
  case c1 => exact new_cellN (by simp)
  intro v1 W1 ho1 hb1
  have R1 := Lib.hid ho1
  have B1 := Lib.hid (M1.out.trans hb1)
  have yy1 := Nat.le_trans hz1w B1.out.size
  clear ho1 hb1 O1 M1 e0 e1 e2 e3 e4 e5 e6 e7
  obtain ⟨e0, e1, e2, e3, e4, e5, e6, e7⟩ := eightT (cells_up FE.out B1.out (by simp))
  have O2 := Lib.hid ((R1.out).alloc (.cells #[.string ⟨u.toArray⟩] 9))
  have M2 := Lib.hid (B1.out.alloc yy1 (.cells #[.string ⟨u.toArray⟩] 9))
  go_wp2_with (at_builtin; go_must (refine wpList_append_texts rfl _ _ 38 rfl (w.heap.size + 1) 9 i0 _ 16 Tryz.underlying38 hi hz0 hz1 hz2 rfl _ [o] rfl (by exact O2.out) _ 1 1 [u] rfl rfl (fun e => nomatch e) ?c1 (by simp only [List.length_cons, List.length_nil]; omega) (by decide) (Nat.le_trans yy1 (bl_newZ _ _).size) ?_))
  case c1 => exact new_cellN (by simp)
  intro v2 W2 ho2 hb2
  have R2 := Lib.hid ho2
  have B2 := Lib.hid (M2.out.trans hb2)
  have yy2 := Nat.le_trans hz1w B2.out.size
  clear ho2 hb2 O2 M2 e0 e1 e2 e3 e4 e5 e6 e7
  obtain ⟨e0, e1, e2, e3, e4, e5, e6, e7⟩ := eightT (cells_up FE.out B2.out (by simp))
  go_wp2_with fail
  refine (merge_any R2.out.texts (texts_nil _) (by simp) (by simp)).mono ?_
  rintro e w9 ⟨v9, rfl, h9, b9⟩
  have T9 := Lib.hid h9
  have N9 := Lib.hid (below2Z (HB.out.trans (B2.out.mono (Nat.le_succ _))) b9)
  clear h9 b9 e0 e1 e2 e3 e4 e5 e6 e7
  go_wp2_with fail
  go_ret
  exact ⟨_, rfl, T9.out, N9.out⟩

set_option maxHeartbeats 1600000 in
set_option maxRecDepth 100000 in
theorem touch_c5 (u o st : List UInt8) (id a b c : Int)  (w : World) :
    Calls Tryz.prog 22 #[.agg #[.int .i64 5, .string ⟨u.toArray⟩, .string ⟨o.toArray⟩, .int .i64 id, .int .i64 a, .int .i64 b, .int .i64 c, .string ⟨st.toArray⟩]] w fun e w' => ∃ v, e = .returned v ∧ Texts w' v (mrg ([o] ++ [u] ++ [])) ∧ Below w.heap.size w w' := by
  obtain ⟨i0, hi, hz0, hz1, hz2⟩ := info_parts Tryz.infoTxt
  have b1 := bl_newZ w (.cells #[.int .i64 5, .string ⟨u.toArray⟩, .string ⟨o.toArray⟩, .int .i64 id, .int .i64 a, .int .i64 b, .int .i64 c, .string ⟨st.toArray⟩] 29)
  have HB := Lib.hid b1
  have FE := Lib.hid (cellsAt_made (w := w) (cs := #[.int .i64 5, .string ⟨u.toArray⟩, .string ⟨o.toArray⟩, .int .i64 id, .int .i64 a, .int .i64 b, .int .i64 c, .string ⟨st.toArray⟩]) (vs := evVals ⟨5, u, o, id, ⟨a, b, c, st⟩⟩) rfl 29 rfl)
  have hz := b1.size
  have hz1w : w.heap.size + 1 ≤ (w.alloc (.cells #[.int .i64 5, .string ⟨u.toArray⟩, .string ⟨o.toArray⟩, .int .i64 id, .int .i64 a, .int .i64 b, .int .i64 c, .string ⟨st.toArray⟩] 29)).heap.size := by simp
  have yy0 := hz1w
  obtain ⟨e0, e1, e2, e3, e4, e5, e6, e7⟩ := eightT FE.out
  clear b1
  have B0 : Hid (Below (w.heap.size + 1) (w.alloc (.cells #[.int .i64 5, .string ⟨u.toArray⟩, .string ⟨o.toArray⟩, .int .i64 id, .int .i64 a, .int .i64 b, .int .i64 c, .string ⟨st.toArray⟩] 29)) (w.alloc (.cells #[.int .i64 5, .string ⟨u.toArray⟩, .string ⟨o.toArray⟩, .int .i64 id, .int .i64 a, .int .i64 b, .int .i64 c, .string ⟨st.toArray⟩] 29))) := Lib.hid (Below.refl _ _)
  go_enter Tryz.func22, Tryz.ntmps22
  have O1 : Hid (OwnT _ (w.heap.size + 1) 9 (.slice none 0 0) []) := Lib.hid ((World.ownsRow_nil (w.alloc (.cells #[.int .i64 5, .string ⟨u.toArray⟩, .string ⟨o.toArray⟩, .int .i64 id, .int .i64 a, .int .i64 b, .int .i64 c, .string ⟨st.toArray⟩] 29)) _ _ _).alloc (.cells #[.string ⟨o.toArray⟩] 9))
  have M1 := Lib.hid (B0.out.alloc yy0 (.cells #[.string ⟨o.toArray⟩] 9))
  go_wp2_with (at_builtin; go_must (refine wpList_append_texts rfl _ _ 38 rfl (w.heap.size + 1) 9 i0 _ 16 Tryz.underlying38 hi hz0 hz1 hz2 rfl _ [] rfl (by exact O1.out) _ 1 1 [o] rfl rfl (fun e => nomatch e) ?c1 (by simp only [List.length_cons, List.length_nil]; omega) (by decide) (Nat.le_trans yy0 (bl_newZ _ _).size) ?_))
  case c1 => exact new_cellN (by simp)
  intro v1 W1 ho1 hb1
  have R1 := Lib.hid ho1
  have B1 := Lib.hid (M1.out.trans hb1)
  have yy1 := Nat.le_trans hz1w B1.out.size
  clear ho1 hb1 O1 M1 e0 e1 e2 e3 e4 e5 e6 e7
  obtain ⟨e0, e1, e2, e3, e4, e5, e6, e7⟩ := eightT (cells_up FE.out B1.out (by simp))
  have O2 := Lib.hid ((R1.out).alloc (.cells #[.string ⟨u.toArray⟩] 9))
  have M2 := Lib.hid (B1.out.alloc yy1 (.cells #[.string ⟨u.toArray⟩] 9))
  go_wp2_with (at_builtin; go_must (refine wpList_append_texts rfl _ _ 38 rfl (w.heap.size + 1) 9 i0 _ 16 Tryz.underlying38 hi hz0 hz1 hz2 rfl _ [o] rfl (by exact O2.out) _ 1 1 [u] rfl rfl (fun e => nomatch e) ?c1 (by simp only [List.length_cons, List.length_nil]; omega) (by decide) (Nat.le_trans yy1 (bl_newZ _ _).size) ?_))
  case c1 => exact new_cellN (by simp)
  intro v2 W2 ho2 hb2
  have R2 := Lib.hid ho2
  have B2 := Lib.hid (M2.out.trans hb2)
  have yy2 := Nat.le_trans hz1w B2.out.size
  clear ho2 hb2 O2 M2 e0 e1 e2 e3 e4 e5 e6 e7
  obtain ⟨e0, e1, e2, e3, e4, e5, e6, e7⟩ := eightT (cells_up FE.out B2.out (by simp))
  go_wp2_with fail
  refine (merge_any R2.out.texts (texts_nil _) (by simp) (by simp)).mono ?_
  rintro e w9 ⟨v9, rfl, h9, b9⟩
  have T9 := Lib.hid h9
  have N9 := Lib.hid (below2Z (HB.out.trans (B2.out.mono (Nat.le_succ _))) b9)
  clear h9 b9 e0 e1 e2 e3 e4 e5 e6 e7
  go_wp2_with fail
  go_ret
  exact ⟨_, rfl, T9.out, N9.out⟩

set_option maxHeartbeats 1600000 in
set_option maxRecDepth 100000 in
theorem touch_c6 (u o st : List UInt8) (id a b c : Int)  (w : World) :
    Calls Tryz.prog 22 #[.agg #[.int .i64 6, .string ⟨u.toArray⟩, .string ⟨o.toArray⟩, .int .i64 id, .int .i64 a, .int .i64 b, .int .i64 c, .string ⟨st.toArray⟩]] w fun e w' => ∃ v, e = .returned v ∧ Texts w' v (mrg ([o] ++ [u] ++ [])) ∧ Below w.heap.size w w' := by
  obtain ⟨i0, hi, hz0, hz1, hz2⟩ := info_parts Tryz.infoTxt
  have b1 := bl_newZ w (.cells #[.int .i64 6, .string ⟨u.toArray⟩, .string ⟨o.toArray⟩, .int .i64 id, .int .i64 a, .int .i64 b, .int .i64 c, .string ⟨st.toArray⟩] 29)
  have HB := Lib.hid b1
  have FE := Lib.hid (cellsAt_made (w := w) (cs := #[.int .i64 6, .string ⟨u.toArray⟩, .string ⟨o.toArray⟩, .int .i64 id, .int .i64 a, .int .i64 b, .int .i64 c, .string ⟨st.toArray⟩]) (vs := evVals ⟨6, u, o, id, ⟨a, b, c, st⟩⟩) rfl 29 rfl)
  have hz := b1.size
  have hz1w : w.heap.size + 1 ≤ (w.alloc (.cells #[.int .i64 6, .string ⟨u.toArray⟩, .string ⟨o.toArray⟩, .int .i64 id, .int .i64 a, .int .i64 b, .int .i64 c, .string ⟨st.toArray⟩] 29)).heap.size := by simp
  have yy0 := hz1w
  obtain ⟨e0, e1, e2, e3, e4, e5, e6, e7⟩ := eightT FE.out
  clear b1
  have B0 : Hid (Below (w.heap.size + 1) (w.alloc (.cells #[.int .i64 6, .string ⟨u.toArray⟩, .string ⟨o.toArray⟩, .int .i64 id, .int .i64 a, .int .i64 b, .int .i64 c, .string ⟨st.toArray⟩] 29)) (w.alloc (.cells #[.int .i64 6, .string ⟨u.toArray⟩, .string ⟨o.toArray⟩, .int .i64 id, .int .i64 a, .int .i64 b, .int .i64 c, .string ⟨st.toArray⟩] 29))) := Lib.hid (Below.refl _ _)
  go_enter Tryz.func22, Tryz.ntmps22
  have O1 : Hid (OwnT _ (w.heap.size + 1) 9 (.slice none 0 0) []) := Lib.hid ((World.ownsRow_nil (w.alloc (.cells #[.int .i64 6, .string ⟨u.toArray⟩, .string ⟨o.toArray⟩, .int .i64 id, .int .i64 a, .int .i64 b, .int .i64 c, .string ⟨st.toArray⟩] 29)) _ _ _).alloc (.cells #[.string ⟨o.toArray⟩] 9))
  have M1 := Lib.hid (B0.out.alloc yy0 (.cells #[.string ⟨o.toArray⟩] 9))
  go_wp2_with (at_builtin; go_must (refine wpList_append_texts rfl _ _ 38 rfl (w.heap.size + 1) 9 i0 _ 16 Tryz.underlying38 hi hz0 hz1 hz2 rfl _ [] rfl (by exact O1.out) _ 1 1 [o] rfl rfl (fun e => nomatch e) ?c1 (by simp only [List.length_cons, List.length_nil]; omega) (by decide) (Nat.le_trans yy0 (bl_newZ _ _).size) ?_))
  case c1 => exact new_cellN (by simp)
  intro v1 W1 ho1 hb1
  have R1 := Lib.hid ho1
  have B1 := Lib.hid (M1.out.trans hb1)
  have yy1 := Nat.le_trans hz1w B1.out.size
  clear ho1 hb1 O1 M1 e0 e1 e2 e3 e4 e5 e6 e7
  obtain ⟨e0, e1, e2, e3, e4, e5, e6, e7⟩ := eightT (cells_up FE.out B1.out (by simp))
  have O2 := Lib.hid ((R1.out).alloc (.cells #[.string ⟨u.toArray⟩] 9))
  have M2 := Lib.hid (B1.out.alloc yy1 (.cells #[.string ⟨u.toArray⟩] 9))
  go_wp2_with (at_builtin; go_must (refine wpList_append_texts rfl _ _ 38 rfl (w.heap.size + 1) 9 i0 _ 16 Tryz.underlying38 hi hz0 hz1 hz2 rfl _ [o] rfl (by exact O2.out) _ 1 1 [u] rfl rfl (fun e => nomatch e) ?c1 (by simp only [List.length_cons, List.length_nil]; omega) (by decide) (Nat.le_trans yy1 (bl_newZ _ _).size) ?_))
  case c1 => exact new_cellN (by simp)
  intro v2 W2 ho2 hb2
  have R2 := Lib.hid ho2
  have B2 := Lib.hid (M2.out.trans hb2)
  have yy2 := Nat.le_trans hz1w B2.out.size
  clear ho2 hb2 O2 M2 e0 e1 e2 e3 e4 e5 e6 e7
  obtain ⟨e0, e1, e2, e3, e4, e5, e6, e7⟩ := eightT (cells_up FE.out B2.out (by simp))
  go_wp2_with fail
  refine (merge_any R2.out.texts (texts_nil _) (by simp) (by simp)).mono ?_
  rintro e w9 ⟨v9, rfl, h9, b9⟩
  have T9 := Lib.hid h9
  have N9 := Lib.hid (below2Z (HB.out.trans (B2.out.mono (Nat.le_succ _))) b9)
  clear h9 b9 e0 e1 e2 e3 e4 e5 e6 e7
  go_wp2_with fail
  go_ret
  exact ⟨_, rfl, T9.out, N9.out⟩

set_option maxHeartbeats 1600000 in
set_option maxRecDepth 100000 in
theorem touch_c7 (u o st : List UInt8) (id a b c : Int)  (w : World) :
    Calls Tryz.prog 22 #[.agg #[.int .i64 7, .string ⟨u.toArray⟩, .string ⟨o.toArray⟩, .int .i64 id, .int .i64 a, .int .i64 b, .int .i64 c, .string ⟨st.toArray⟩]] w fun e w' => ∃ v, e = .returned v ∧ Texts w' v (mrg ([u] ++ [])) ∧ Below w.heap.size w w' := by
  obtain ⟨i0, hi, hz0, hz1, hz2⟩ := info_parts Tryz.infoTxt
  have b1 := bl_newZ w (.cells #[.int .i64 7, .string ⟨u.toArray⟩, .string ⟨o.toArray⟩, .int .i64 id, .int .i64 a, .int .i64 b, .int .i64 c, .string ⟨st.toArray⟩] 29)
  have HB := Lib.hid b1
  have FE := Lib.hid (cellsAt_made (w := w) (cs := #[.int .i64 7, .string ⟨u.toArray⟩, .string ⟨o.toArray⟩, .int .i64 id, .int .i64 a, .int .i64 b, .int .i64 c, .string ⟨st.toArray⟩]) (vs := evVals ⟨7, u, o, id, ⟨a, b, c, st⟩⟩) rfl 29 rfl)
  have hz := b1.size
  have hz1w : w.heap.size + 1 ≤ (w.alloc (.cells #[.int .i64 7, .string ⟨u.toArray⟩, .string ⟨o.toArray⟩, .int .i64 id, .int .i64 a, .int .i64 b, .int .i64 c, .string ⟨st.toArray⟩] 29)).heap.size := by simp
  have yy0 := hz1w
  obtain ⟨e0, e1, e2, e3, e4, e5, e6, e7⟩ := eightT FE.out
  clear b1
  have B0 : Hid (Below (w.heap.size + 1) (w.alloc (.cells #[.int .i64 7, .string ⟨u.toArray⟩, .string ⟨o.toArray⟩, .int .i64 id, .int .i64 a, .int .i64 b, .int .i64 c, .string ⟨st.toArray⟩] 29)) (w.alloc (.cells #[.int .i64 7, .string ⟨u.toArray⟩, .string ⟨o.toArray⟩, .int .i64 id, .int .i64 a, .int .i64 b, .int .i64 c, .string ⟨st.toArray⟩] 29))) := Lib.hid (Below.refl _ _)
  go_enter Tryz.func22, Tryz.ntmps22
  have O1 : Hid (OwnT _ (w.heap.size + 1) 9 (.slice none 0 0) []) := Lib.hid ((World.ownsRow_nil (w.alloc (.cells #[.int .i64 7, .string ⟨u.toArray⟩, .string ⟨o.toArray⟩, .int .i64 id, .int .i64 a, .int .i64 b, .int .i64 c, .string ⟨st.toArray⟩] 29)) _ _ _).alloc (.cells #[.string ⟨u.toArray⟩] 9))
  have M1 := Lib.hid (B0.out.alloc yy0 (.cells #[.string ⟨u.toArray⟩] 9))
  go_wp2_with (at_builtin; go_must (refine wpList_append_texts rfl _ _ 38 rfl (w.heap.size + 1) 9 i0 _ 16 Tryz.underlying38 hi hz0 hz1 hz2 rfl _ [] rfl (by exact O1.out) _ 1 1 [u] rfl rfl (fun e => nomatch e) ?c1 (by simp only [List.length_cons, List.length_nil]; omega) (by decide) (Nat.le_trans yy0 (bl_newZ _ _).size) ?_))
  case c1 => exact new_cellN (by simp)
  intro v1 W1 ho1 hb1
  have R1 := Lib.hid ho1
  have B1 := Lib.hid (M1.out.trans hb1)
  have yy1 := Nat.le_trans hz1w B1.out.size
  clear ho1 hb1 O1 M1 e0 e1 e2 e3 e4 e5 e6 e7
  obtain ⟨e0, e1, e2, e3, e4, e5, e6, e7⟩ := eightT (cells_up FE.out B1.out (by simp))
  go_wp2_with fail
  refine (merge_any R1.out.texts (texts_nil _) (by simp) (by simp)).mono ?_
  rintro e w9 ⟨v9, rfl, h9, b9⟩
  have T9 := Lib.hid h9
  have N9 := Lib.hid (below2Z (HB.out.trans (B1.out.mono (Nat.le_succ _))) b9)
  clear h9 b9 e0 e1 e2 e3 e4 e5 e6 e7
  go_wp2_with fail
  go_ret
  exact ⟨_, rfl, T9.out, N9.out⟩

set_option maxHeartbeats 1600000 in
set_option maxRecDepth 100000 in
theorem touch_c8 (u o st : List UInt8) (id a b c : Int)  (w : World) :
    Calls Tryz.prog 22 #[.agg #[.int .i64 8, .string ⟨u.toArray⟩, .string ⟨o.toArray⟩, .int .i64 id, .int .i64 a, .int .i64 b, .int .i64 c, .string ⟨st.toArray⟩]] w fun e w' => ∃ v, e = .returned v ∧ Texts w' v (mrg ([u] ++ [])) ∧ Below w.heap.size w w' := by
  obtain ⟨i0, hi, hz0, hz1, hz2⟩ := info_parts Tryz.infoTxt
  have b1 := bl_newZ w (.cells #[.int .i64 8, .string ⟨u.toArray⟩, .string ⟨o.toArray⟩, .int .i64 id, .int .i64 a, .int .i64 b, .int .i64 c, .string ⟨st.toArray⟩] 29)
  have HB := Lib.hid b1
  have FE := Lib.hid (cellsAt_made (w := w) (cs := #[.int .i64 8, .string ⟨u.toArray⟩, .string ⟨o.toArray⟩, .int .i64 id, .int .i64 a, .int .i64 b, .int .i64 c, .string ⟨st.toArray⟩]) (vs := evVals ⟨8, u, o, id, ⟨a, b, c, st⟩⟩) rfl 29 rfl)
  have hz := b1.size
  have hz1w : w.heap.size + 1 ≤ (w.alloc (.cells #[.int .i64 8, .string ⟨u.toArray⟩, .string ⟨o.toArray⟩, .int .i64 id, .int .i64 a, .int .i64 b, .int .i64 c, .string ⟨st.toArray⟩] 29)).heap.size := by simp
  have yy0 := hz1w
  obtain ⟨e0, e1, e2, e3, e4, e5, e6, e7⟩ := eightT FE.out
  clear b1
  have B0 : Hid (Below (w.heap.size + 1) (w.alloc (.cells #[.int .i64 8, .string ⟨u.toArray⟩, .string ⟨o.toArray⟩, .int .i64 id, .int .i64 a, .int .i64 b, .int .i64 c, .string ⟨st.toArray⟩] 29)) (w.alloc (.cells #[.int .i64 8, .string ⟨u.toArray⟩, .string ⟨o.toArray⟩, .int .i64 id, .int .i64 a, .int .i64 b, .int .i64 c, .string ⟨st.toArray⟩] 29))) := Lib.hid (Below.refl _ _)
  go_enter Tryz.func22, Tryz.ntmps22
  have O1 : Hid (OwnT _ (w.heap.size + 1) 9 (.slice none 0 0) []) := Lib.hid ((World.ownsRow_nil (w.alloc (.cells #[.int .i64 8, .string ⟨u.toArray⟩, .string ⟨o.toArray⟩, .int .i64 id, .int .i64 a, .int .i64 b, .int .i64 c, .string ⟨st.toArray⟩] 29)) _ _ _).alloc (.cells #[.string ⟨u.toArray⟩] 9))
  have M1 := Lib.hid (B0.out.alloc yy0 (.cells #[.string ⟨u.toArray⟩] 9))
  go_wp2_with (at_builtin; go_must (refine wpList_append_texts rfl _ _ 38 rfl (w.heap.size + 1) 9 i0 _ 16 Tryz.underlying38 hi hz0 hz1 hz2 rfl _ [] rfl (by exact O1.out) _ 1 1 [u] rfl rfl (fun e => nomatch e) ?c1 (by simp only [List.length_cons, List.length_nil]; omega) (by decide) (Nat.le_trans yy0 (bl_newZ _ _).size) ?_))
  case c1 => exact new_cellN (by simp)
  intro v1 W1 ho1 hb1
  have R1 := Lib.hid ho1
  have B1 := Lib.hid (M1.out.trans hb1)
  have yy1 := Nat.le_trans hz1w B1.out.size
  clear ho1 hb1 O1 M1 e0 e1 e2 e3 e4 e5 e6 e7
  obtain ⟨e0, e1, e2, e3, e4, e5, e6, e7⟩ := eightT (cells_up FE.out B1.out (by simp))
  go_wp2_with fail
  refine (merge_any R1.out.texts (texts_nil _) (by simp) (by simp)).mono ?_
  rintro e w9 ⟨v9, rfl, h9, b9⟩
  have T9 := Lib.hid h9
  have N9 := Lib.hid (below2Z (HB.out.trans (B1.out.mono (Nat.le_succ _))) b9)
  clear h9 b9 e0 e1 e2 e3 e4 e5 e6 e7
  go_wp2_with fail
  go_ret
  exact ⟨_, rfl, T9.out, N9.out⟩

set_option maxHeartbeats 1600000 in
set_option maxRecDepth 100000 in
theorem touch_no (u o st : List UInt8) (id a b c : Int) (k : Int) (hb : k < 1 ∨ 8 < k) (w : World) :
    Calls Tryz.prog 22 #[.agg #[.int .i64 k, .string ⟨u.toArray⟩, .string ⟨o.toArray⟩, .int .i64 id, .int .i64 a, .int .i64 b, .int .i64 c, .string ⟨st.toArray⟩]] w fun e w' => ∃ v, e = .returned v ∧ Texts w' v (mrg ([] ++ [])) ∧ Below w.heap.size w w' := by
  have t1 : (k == 1) = false := by rw [beq_eq_false_iff_ne]; omega
  have t2 : (k == 2) = false := by rw [beq_eq_false_iff_ne]; omega
  have t3 : (k == 3) = false := by rw [beq_eq_false_iff_ne]; omega
  have t4 : (k == 4) = false := by rw [beq_eq_false_iff_ne]; omega
  have t5 : (k == 5) = false := by rw [beq_eq_false_iff_ne]; omega
  have t6 : (k == 6) = false := by rw [beq_eq_false_iff_ne]; omega
  have t7 : (k == 7) = false := by rw [beq_eq_false_iff_ne]; omega
  have t8 : (k == 8) = false := by rw [beq_eq_false_iff_ne]; omega
  obtain ⟨i0, hi, hz0, hz1, hz2⟩ := info_parts Tryz.infoTxt
  have b1 := bl_newZ w (.cells #[.int .i64 k, .string ⟨u.toArray⟩, .string ⟨o.toArray⟩, .int .i64 id, .int .i64 a, .int .i64 b, .int .i64 c, .string ⟨st.toArray⟩] 29)
  have HB := Lib.hid b1
  have FE := Lib.hid (cellsAt_made (w := w) (cs := #[.int .i64 k, .string ⟨u.toArray⟩, .string ⟨o.toArray⟩, .int .i64 id, .int .i64 a, .int .i64 b, .int .i64 c, .string ⟨st.toArray⟩]) (vs := evVals ⟨k, u, o, id, ⟨a, b, c, st⟩⟩) rfl 29 rfl)
  have hz := b1.size
  have hz1w : w.heap.size + 1 ≤ (w.alloc (.cells #[.int .i64 k, .string ⟨u.toArray⟩, .string ⟨o.toArray⟩, .int .i64 id, .int .i64 a, .int .i64 b, .int .i64 c, .string ⟨st.toArray⟩] 29)).heap.size := by simp
  have yy0 := hz1w
  obtain ⟨e0, e1, e2, e3, e4, e5, e6, e7⟩ := eightT FE.out
  clear b1
  have B0 : Hid (Below (w.heap.size + 1) (w.alloc (.cells #[.int .i64 k, .string ⟨u.toArray⟩, .string ⟨o.toArray⟩, .int .i64 id, .int .i64 a, .int .i64 b, .int .i64 c, .string ⟨st.toArray⟩] 29)) (w.alloc (.cells #[.int .i64 k, .string ⟨u.toArray⟩, .string ⟨o.toArray⟩, .int .i64 id, .int .i64 a, .int .i64 b, .int .i64 c, .string ⟨st.toArray⟩] 29))) := Lib.hid (Below.refl _ _)
  go_enter Tryz.func22, Tryz.ntmps22
  go_wp2_with fail
  refine (merge_any (texts_nil _) (texts_nil _) (by simp) (by simp)).mono ?_
  rintro e w9 ⟨v9, rfl, h9, b9⟩
  have T9 := Lib.hid h9
  have N9 := Lib.hid (below2Z HB.out b9)
  clear h9 b9 e0 e1 e2 e3 e4 e5 e6 e7
  go_wp2_with fail
  go_ret
  exact ⟨_, rfl, T9.out, N9.out⟩

set_option maxHeartbeats 1600000 in
set_option maxRecDepth 100000 in
theorem rtouch_b1 (u o st : List UInt8) (id a b c : Int) (k : Int) (hb : k < 1) (w : World) :
    Calls Tryz.prog 23 #[.agg #[.int .i64 k, .string ⟨u.toArray⟩, .string ⟨o.toArray⟩, .int .i64 id, .int .i64 a, .int .i64 b, .int .i64 c, .string ⟨st.toArray⟩]] w fun e w' => ∃ v, e = .returned v ∧ Texts w' v [] ∧ Below w.heap.size w w' := by
  have t1 : decide (k < 1) = true := by rw [decide_eq_true_eq]; exact hb
  have b1 := bl_newZ w (.cells #[.int .i64 k, .string ⟨u.toArray⟩, .string ⟨o.toArray⟩, .int .i64 id, .int .i64 a, .int .i64 b, .int .i64 c, .string ⟨st.toArray⟩] 29)
  have HB := Lib.hid b1
  have FE := Lib.hid (cellsAt_made (w := w) (cs := #[.int .i64 k, .string ⟨u.toArray⟩, .string ⟨o.toArray⟩, .int .i64 id, .int .i64 a, .int .i64 b, .int .i64 c, .string ⟨st.toArray⟩]) (vs := evVals ⟨k, u, o, id, ⟨a, b, c, st⟩⟩) rfl 29 rfl)
  have hz := b1.size
  have hz1w : w.heap.size + 1 ≤ (w.alloc (.cells #[.int .i64 k, .string ⟨u.toArray⟩, .string ⟨o.toArray⟩, .int .i64 id, .int .i64 a, .int .i64 b, .int .i64 c, .string ⟨st.toArray⟩] 29)).heap.size := by simp
  have yy0 := hz1w
  obtain ⟨e0, e1, e2, e3, e4, e5, e6, e7⟩ := eightT FE.out
  clear b1
  go_enter Tryz.func23, Tryz.ntmps23
  go_wp2_with fail
  go_ret
  exact ⟨_, rfl, texts_nil _, HB.out⟩

set_option maxHeartbeats 1600000 in
set_option maxRecDepth 100000 in
theorem rtouch_b2 (u o st : List UInt8) (id a b c : Int) (k : Int) (hb : 8 < k) (w : World) :
    Calls Tryz.prog 23 #[.agg #[.int .i64 k, .string ⟨u.toArray⟩, .string ⟨o.toArray⟩, .int .i64 id, .int .i64 a, .int .i64 b, .int .i64 c, .string ⟨st.toArray⟩]] w fun e w' => ∃ v, e = .returned v ∧ Texts w' v [] ∧ Below w.heap.size w w' := by
  have t1 : decide (k < 1) = false := by rw [decide_eq_false_iff_not]; omega
  have t2 : decide (8 < k) = true := by rw [decide_eq_true_eq]; exact hb
  have b1 := bl_newZ w (.cells #[.int .i64 k, .string ⟨u.toArray⟩, .string ⟨o.toArray⟩, .int .i64 id, .int .i64 a, .int .i64 b, .int .i64 c, .string ⟨st.toArray⟩] 29)
  have HB := Lib.hid b1
  have FE := Lib.hid (cellsAt_made (w := w) (cs := #[.int .i64 k, .string ⟨u.toArray⟩, .string ⟨o.toArray⟩, .int .i64 id, .int .i64 a, .int .i64 b, .int .i64 c, .string ⟨st.toArray⟩]) (vs := evVals ⟨k, u, o, id, ⟨a, b, c, st⟩⟩) rfl 29 rfl)
  have hz := b1.size
  have hz1w : w.heap.size + 1 ≤ (w.alloc (.cells #[.int .i64 k, .string ⟨u.toArray⟩, .string ⟨o.toArray⟩, .int .i64 id, .int .i64 a, .int .i64 b, .int .i64 c, .string ⟨st.toArray⟩] 29)).heap.size := by simp
  have yy0 := hz1w
  obtain ⟨e0, e1, e2, e3, e4, e5, e6, e7⟩ := eightT FE.out
  clear b1
  go_enter Tryz.func23, Tryz.ntmps23
  go_wp2_with fail
  go_ret
  exact ⟨_, rfl, texts_nil _, HB.out⟩

set_option maxHeartbeats 1600000 in
set_option maxRecDepth 100000 in
theorem rtouch_one (u o st : List UInt8) (id a b c : Int) (k : Int) (h7 : 6 < k) (h8 : k ≤ 8) (w : World) :
    Calls Tryz.prog 23 #[.agg #[.int .i64 k, .string ⟨u.toArray⟩, .string ⟨o.toArray⟩, .int .i64 id, .int .i64 a, .int .i64 b, .int .i64 c, .string ⟨st.toArray⟩]] w fun e w' => ∃ v, e = .returned v ∧ Texts w' v [u] ∧ Below w.heap.size w w' := by
  have t1 : decide (k < 1) = false := by rw [decide_eq_false_iff_not]; omega
  have t2 : decide (8 < k) = false := by rw [decide_eq_false_iff_not]; omega
  have t3 : decide (6 < k) = true := by rw [decide_eq_true_eq]; exact h7
  have b1 := bl_newZ w (.cells #[.int .i64 k, .string ⟨u.toArray⟩, .string ⟨o.toArray⟩, .int .i64 id, .int .i64 a, .int .i64 b, .int .i64 c, .string ⟨st.toArray⟩] 29)
  have HB := Lib.hid b1
  have FE := Lib.hid (cellsAt_made (w := w) (cs := #[.int .i64 k, .string ⟨u.toArray⟩, .string ⟨o.toArray⟩, .int .i64 id, .int .i64 a, .int .i64 b, .int .i64 c, .string ⟨st.toArray⟩]) (vs := evVals ⟨k, u, o, id, ⟨a, b, c, st⟩⟩) rfl 29 rfl)
  have hz := b1.size
  have hz1w : w.heap.size + 1 ≤ (w.alloc (.cells #[.int .i64 k, .string ⟨u.toArray⟩, .string ⟨o.toArray⟩, .int .i64 id, .int .i64 a, .int .i64 b, .int .i64 c, .string ⟨st.toArray⟩] 29)).heap.size := by simp
  have yy0 := hz1w
  obtain ⟨e0, e1, e2, e3, e4, e5, e6, e7⟩ := eightT FE.out
  clear b1
  go_enter Tryz.func23, Tryz.ntmps23
  go_wp2_with fail
  go_ret
  exact ⟨_, rfl, texts_one _ u (by simp), below2Z HB.out (bl_newZ _ _)⟩

set_option maxHeartbeats 1600000 in
set_option maxRecDepth 100000 in
theorem rtouch_two (u o st : List UInt8) (id a b c : Int) (k : Int) (h1 : 1 ≤ k) (h6 : k ≤ 6) (w : World) :
    Calls Tryz.prog 23 #[.agg #[.int .i64 k, .string ⟨u.toArray⟩, .string ⟨o.toArray⟩, .int .i64 id, .int .i64 a, .int .i64 b, .int .i64 c, .string ⟨st.toArray⟩]] w fun e w' => ∃ v, e = .returned v ∧ Texts w' v (mrg ([u] ++ [o])) ∧ Below w.heap.size w w' := by
  have t1 : decide (k < 1) = false := by rw [decide_eq_false_iff_not]; omega
  have t2 : decide (8 < k) = false := by rw [decide_eq_false_iff_not]; omega
  have t3 : decide (6 < k) = false := by rw [decide_eq_false_iff_not]; omega
  have TU := Lib.hid ((texts_one (w.alloc (.cells #[.int .i64 k, .string ⟨u.toArray⟩, .string ⟨o.toArray⟩, .int .i64 id, .int .i64 a, .int .i64 b, .int .i64 c, .string ⟨st.toArray⟩] 29)) u (B := w.heap.size + 1) (by simp)).later (bl_newZ _ (.cells #[.string ⟨o.toArray⟩] 9)))
  have TO := Lib.hid (texts_one ((w.alloc (.cells #[.int .i64 k, .string ⟨u.toArray⟩, .string ⟨o.toArray⟩, .int .i64 id, .int .i64 a, .int .i64 b, .int .i64 c, .string ⟨st.toArray⟩] 29)).alloc (.cells #[.string ⟨u.toArray⟩] 9)) o (B := w.heap.size + 2) (by simp))
  have b1 := bl_newZ w (.cells #[.int .i64 k, .string ⟨u.toArray⟩, .string ⟨o.toArray⟩, .int .i64 id, .int .i64 a, .int .i64 b, .int .i64 c, .string ⟨st.toArray⟩] 29)
  have HB := Lib.hid b1
  have FE := Lib.hid (cellsAt_made (w := w) (cs := #[.int .i64 k, .string ⟨u.toArray⟩, .string ⟨o.toArray⟩, .int .i64 id, .int .i64 a, .int .i64 b, .int .i64 c, .string ⟨st.toArray⟩]) (vs := evVals ⟨k, u, o, id, ⟨a, b, c, st⟩⟩) rfl 29 rfl)
  have hz := b1.size
  have hz1w : w.heap.size + 1 ≤ (w.alloc (.cells #[.int .i64 k, .string ⟨u.toArray⟩, .string ⟨o.toArray⟩, .int .i64 id, .int .i64 a, .int .i64 b, .int .i64 c, .string ⟨st.toArray⟩] 29)).heap.size := by simp
  have yy0 := hz1w
  obtain ⟨e0, e1, e2, e3, e4, e5, e6, e7⟩ := eightT FE.out
  clear b1
  go_enter Tryz.func23, Tryz.ntmps23
  go_wp2_with fail
  refine (irmerge_any TU.out TO.out (by simp) (by simp)).mono ?_
  rintro e w9 ⟨v9, rfl, h9, b9⟩
  have T9 := Lib.hid h9
  have N9 := Lib.hid (below2Z HB.out (below2Z (below2Z (bl_newZ _ _) (bl_newZ _ _)) b9))
  clear h9 b9 e0 e1 e2 e3 e4 e5 e6 e7
  go_wp2_with fail
  go_ret
  exact ⟨_, rfl, T9.out, N9.out⟩

theorem touch_any (e : Ev) (w : World) :
    Calls Tryz.prog 22 #[.agg #[.int .i64 e.k, .string ⟨e.u.toArray⟩, .string ⟨e.o.toArray⟩, .int .i64 e.id, .int .i64 e.v.sh, .int .i64 e.v.pr, .int .i64 e.v.si, .string ⟨e.v.st.toArray⟩]] w fun z w' => ∃ v, z = .returned v ∧ Texts w' v (stTouch e) ∧ Below w.heap.size w w' := by
  obtain ⟨k, u, o, id, ⟨a, b, c, st⟩⟩ := e
  by_cases hb : k < 1 ∨ 8 < k
  · rw [stTouch_no hb]
    exact touch_no u o st id a b c k hb w
  · by_cases h6 : k ≤ 6
    · rw [stTouch_two (by show 1 ≤ k; omega) h6]
      have hk : k = 1 ∨ k = 2 ∨ k = 3 ∨ k = 4 ∨ k = 5 ∨ k = 6 := by omega
      rcases hk with rfl | rfl | rfl | rfl | rfl | rfl
      · exact touch_c1 u o st id a b c w
      · exact touch_c2 u o st id a b c w
      · exact touch_c3 u o st id a b c w
      · exact touch_c4 u o st id a b c w
      · exact touch_c5 u o st id a b c w
      · exact touch_c6 u o st id a b c w
    · have hk : k = 7 ∨ k = 8 := by omega
      rw [stTouch_one hk]
      rcases hk with rfl | rfl
      · exact touch_c7 u o st id a b c w
      · exact touch_c8 u o st id a b c w

theorem rtouch_any (e : Ev) (w : World) :
    Calls Tryz.prog 23 #[.agg #[.int .i64 e.k, .string ⟨e.u.toArray⟩, .string ⟨e.o.toArray⟩, .int .i64 e.id, .int .i64 e.v.sh, .int .i64 e.v.pr, .int .i64 e.v.si, .string ⟨e.v.st.toArray⟩]] w fun z w' => ∃ v, z = .returned v ∧ Texts w' v (stTouch e) ∧ Below w.heap.size w w' := by
  obtain ⟨k, u, o, id, ⟨a, b, c, st⟩⟩ := e
  by_cases hb : k < 1
  · rw [stTouch_no (.inl hb)]
    exact rtouch_b1 u o st id a b c k hb w
  · by_cases hb2 : 8 < k
    · rw [stTouch_no (.inr hb2)]
      exact rtouch_b2 u o st id a b c k hb2 w
    · by_cases h6 : k ≤ 6
      · rw [stTouch_two (by show 1 ≤ k; omega) h6, ← mrg_turn]
        exact rtouch_two u o st id a b c k (by omega) h6 w
      · rw [stTouch_one (by show k = 7 ∨ k = 8; omega)]
        exact rtouch_one u o st id a b c k (by omega) (by omega) w

theorem stTouch_len (e : Ev) : (stTouch e).length ≤ 2 := by
  unfold stTouch
  split
  · exact mrg_len _
  · split <;> simp

end Go.Proofs.YtdilcckoapaimaaGreat

end

section

/-
  THE CONTRACT OF live OF LAYER 3's STATEMENTS: it returns true.
-/
namespace Go.Proofs.YtdilcckoapaimaaGreat
open Go.RowKit

/-- A row of texts that is built with what it holds. -/
theorem texts_made (w : World) (T : TypeId) (B : Nat) (hB : B = w.heap.size) (ls : List (List UInt8)) (hl : ls.length ≤ 100) (A : Array Value) (hA : A = (ls.map encS).toArray) (n : Nat) (hn : n = ls.length) :
    Texts (w.alloc (.cells A T)) (.slice (some ⟨B, 0, none⟩) n n) ls := by
  subst hB hA hn
  refine ⟨_, _, rfl, Nat.le_refl _, by unfold maxLen; omega, (fun e => by cases e), .inr ⟨_, _, rfl, by simp, fun i hi => ?_⟩⟩
  rw [World.cell?_alloc_at _ _ _ _ rfl, Nat.zero_add]
  simp [List.getD, List.getElem?_eq_getElem hi]

theorem i1 : Hid (idFold [65, 110, 110, 45, 50] = ([97, 110, 110, 45, 50], true)) := by show _ = _; decide +kernel
theorem i2 : Hid (idFold [50, 97, 110, 110] = ([], false)) := by show _ = _; decide +kernel
theorem i3 : Hid (idPut [98, 111, 98] = ([3, 98, 111, 98], true)) := by show _ = _; decide +kernel
theorem i4 : Hid (idPut [66, 111, 98] = ([], false)) := by show _ = _; decide +kernel
theorem i5 : Hid (idTake [120, 3, 98, 111, 98] 1 = ([98, 111, 98], 5, 0)) := by show _ = _; kernel_rfl
end Go.Proofs.YtdilcckoapaimaaGreat

end

section

/-
  LAYER 14: the document's live answers.
-/
namespace Go.Proofs.YtdilcckoapaimaaGreat
open Go.RowKit

def lvE : List Ev := [⟨7, [97, 110, 110], [], 1, ⟨4, 0, 0, []⟩⟩, ⟨1, [98, 111, 98], [97, 110, 110], 0, ⟨0, 0, 0, []⟩⟩, ⟨2, [97, 110, 110], [98, 111, 98], 0, ⟨0, 0, 0, []⟩⟩, ⟨8, [97, 110, 110], [], 2, ⟨0, 0, 0, []⟩⟩, ⟨9, [], [], 0, ⟨0, 0, 0, []⟩⟩, ⟨1, [98, 111, 98], [97, 110, 110], 0, ⟨0, 0, 0, []⟩⟩]
def lvA : Ses := ⟨[97, 110, 110], 1, ⟨4, 0, 0, []⟩⟩
def lvS0 : Sta := ⟨[], []⟩
def lvS1 : Sta := ⟨lvM2, [lvA]⟩
def lvS2 : Sta := ⟨lvM2, []⟩
def lvS3 : Sta := ⟨lvM2.take 1, []⟩

theorem lvAll : (stAll lvS0 lvE).1 = lvS1 := by kernel_rfl
theorem lvNums : numsOf lvS0 lvE = [0, 0, 0, 6, 1, 7] := by kernel_rfl
theorem lvAp : stApply lvS1 ⟨8, [97, 110, 110], [], 1, ⟨0, 0, 0, []⟩⟩ = (lvS2, 0) := by kernel_rfl
theorem lvMay1 : stMay lvS1 = true := by kernel_rfl
theorem lvMay3 : stMay lvS3 = false := by kernel_rfl
theorem lvSm : staSame lvS1 lvS2 = false := by kernel_rfl
theorem lvT1 : stTouch ⟨5, [98, 111, 98], [97, 108], 0, ⟨0, 0, 0, []⟩⟩ = [[97, 108], [98, 111, 98]] := by kernel_rfl
theorem lvT2 : stTouch ⟨8, [98, 111, 98], [97, 108], 0, ⟨0, 0, 0, []⟩⟩ = [[98, 111, 98]] := by kernel_rfl
theorem lvOK0 : StOK lvS0 := ⟨fun e h => by simp [lvS0] at h, fun e h => by simp [lvS0] at h⟩
theorem lvOK3 : StOK lvS3 := ⟨lvs3, fun e h => by simp [lvS3] at h⟩

theorem lvSh : ∀ e ∈ lvE, evShort e := by
  intro e h
  simp only [lvE, List.mem_cons, List.not_mem_nil, or_false] at h
  rcases h with rfl | rfl | rfl | rfl | rfl | rfl <;> (refine ⟨?_, ?_, ?_⟩ <;> decide)

/-- What the last statement reads. -/
def lvQ (X : World) (nb no S T : Nat) (x1 y1 x2 y2 : Value) : Prop :=
  X.cell? ⟨nb, no, none⟩ = some (.int .i64 0) ∧ X.cell? ⟨nb, no + 1, none⟩ = some (.int .i64 0) ∧ X.cell? ⟨nb, no + 2, none⟩ = some (.int .i64 0) ∧ X.cell? ⟨nb, no + 3, none⟩ = some (.int .i64 6) ∧ X.cell? ⟨nb, no + 4, none⟩ = some (.int .i64 1) ∧ X.cell? ⟨nb, no + 5, none⟩ = some (.int .i64 7) ∧
  X.cell? ⟨S, 0, none⟩ = some x1 ∧ X.cell? ⟨S, 1, none⟩ = some y1 ∧ X.cell? ⟨T, 0, none⟩ = some x2 ∧ X.cell? ⟨T, 1, none⟩ = some y2

theorem lvQ_up {W X : World} {nb no S T : Nat} {x1 y1 x2 y2 : Value} (hb : Below W.heap.size W X) (h : lvQ W nb no S T x1 y1 x2 y2) : lvQ X nb no S T x1 y1 x2 y2 := by
  obtain ⟨h0, h1, h2, h3, h4, h5, h6, h7, h8, h9⟩ := h
  exact ⟨cellLaterZ h0 hb, cellLaterZ h1 hb, cellLaterZ h2 hb, cellLaterZ h3 hb, cellLaterZ h4 hb, cellLaterZ h5 hb, cellLaterZ h6 hb, cellLaterZ h7 hb, cellLaterZ h8 hb, cellLaterZ h9 hb⟩

set_option maxHeartbeats 12800000 in
set_option maxRecDepth 100000 in
theorem live14 (w : World) : Calls Tryz.prog 14 #[] w fun e w' => e = .returned (.bool true) ∧ Below w.heap.size w w' := by
  have b1 := bl_newZ w (.cells #[.int .i64 4, .int .i64 0, .int .i64 0, .string ⟨#[]⟩] 27)
  have b2 := bl_newZ (w.alloc (.cells #[.int .i64 4, .int .i64 0, .int .i64 0, .string ⟨#[]⟩] 27)) (.cells #[.int .i64 7, .string ⟨#[97, 110, 110]⟩, .string ⟨#[]⟩, .int .i64 1, .int .i64 4, .int .i64 0, .int .i64 0, .string ⟨#[]⟩, .int .i64 1, .string ⟨#[98, 111, 98]⟩, .string ⟨#[97, 110, 110]⟩, .int .i64 0, .int .i64 0, .int .i64 0, .int .i64 0, .string ⟨#[]⟩, .int .i64 2, .string ⟨#[97, 110, 110]⟩, .string ⟨#[98, 111, 98]⟩, .int .i64 0, .int .i64 0, .int .i64 0, .int .i64 0, .string ⟨#[]⟩, .int .i64 8, .string ⟨#[97, 110, 110]⟩, .string ⟨#[]⟩, .int .i64 2, .int .i64 0, .int .i64 0, .int .i64 0, .string ⟨#[]⟩, .int .i64 9, .string ⟨#[]⟩, .string ⟨#[]⟩, .int .i64 0, .int .i64 0, .int .i64 0, .int .i64 0, .string ⟨#[]⟩, .int .i64 1, .string ⟨#[98, 111, 98]⟩, .string ⟨#[97, 110, 110]⟩, .int .i64 0, .int .i64 0, .int .i64 0, .int .i64 0, .string ⟨#[]⟩] 29)
  have HB := Lib.hid (below2Z b1 b2)
  have HA := Lib.hid (stall_any (w := (w.alloc (.cells #[.int .i64 4, .int .i64 0, .int .i64 0, .string ⟨#[]⟩] 27)).alloc (.cells #[.int .i64 7, .string ⟨#[97, 110, 110]⟩, .string ⟨#[]⟩, .int .i64 1, .int .i64 4, .int .i64 0, .int .i64 0, .string ⟨#[]⟩, .int .i64 1, .string ⟨#[98, 111, 98]⟩, .string ⟨#[97, 110, 110]⟩, .int .i64 0, .int .i64 0, .int .i64 0, .int .i64 0, .string ⟨#[]⟩, .int .i64 2, .string ⟨#[97, 110, 110]⟩, .string ⟨#[98, 111, 98]⟩, .int .i64 0, .int .i64 0, .int .i64 0, .int .i64 0, .string ⟨#[]⟩, .int .i64 8, .string ⟨#[97, 110, 110]⟩, .string ⟨#[]⟩, .int .i64 2, .int .i64 0, .int .i64 0, .int .i64 0, .string ⟨#[]⟩, .int .i64 9, .string ⟨#[]⟩, .string ⟨#[]⟩, .int .i64 0, .int .i64 0, .int .i64 0, .int .i64 0, .string ⟨#[]⟩, .int .i64 1, .string ⟨#[98, 111, 98]⟩, .string ⟨#[97, 110, 110]⟩, .int .i64 0, .int .i64 0, .int .i64 0, .int .i64 0, .string ⟨#[]⟩] 29)) (t := lvS0) ⟨ents_nil _, rdS_nil _⟩ lvOK0 (by decide) (l := lvE) (rdS_made evOK (l := lvE) (B := w.heap.size + 1) (cs := #[.int .i64 7, .string ⟨#[97, 110, 110]⟩, .string ⟨#[]⟩, .int .i64 1, .int .i64 4, .int .i64 0, .int .i64 0, .string ⟨#[]⟩, .int .i64 1, .string ⟨#[98, 111, 98]⟩, .string ⟨#[97, 110, 110]⟩, .int .i64 0, .int .i64 0, .int .i64 0, .int .i64 0, .string ⟨#[]⟩, .int .i64 2, .string ⟨#[97, 110, 110]⟩, .string ⟨#[98, 111, 98]⟩, .int .i64 0, .int .i64 0, .int .i64 0, .int .i64 0, .string ⟨#[]⟩, .int .i64 8, .string ⟨#[97, 110, 110]⟩, .string ⟨#[]⟩, .int .i64 2, .int .i64 0, .int .i64 0, .int .i64 0, .string ⟨#[]⟩, .int .i64 9, .string ⟨#[]⟩, .string ⟨#[]⟩, .int .i64 0, .int .i64 0, .int .i64 0, .int .i64 0, .string ⟨#[]⟩, .int .i64 1, .string ⟨#[98, 111, 98]⟩, .string ⟨#[97, 110, 110]⟩, .int .i64 0, .int .i64 0, .int .i64 0, .int .i64 0, .string ⟨#[]⟩]) rfl (by decide) (by simp)) (by decide) lvSh)
  have hlE : lvE.length = 6 := rfl
  rw [lvAll, lvNums, hlE] at HA
  clear b1 b2 hlE
  go_enter Tryz.func14, Tryz.ntmps14
  go_wp2_with fail
  refine HA.out.mono ?_
  rintro e w3 ⟨x1, y1, u, rfl, h3, hn3, b3⟩
  replace HB := Lib.hid (below2Z HB.out b3)
  obtain ⟨au, cu, e3, -⟩ := RdS.open' hn3
  obtain ⟨ax, cx, ex, -⟩ := h3.1.open'
  rw [show lvS1.e.length = 2 from rfl] at ex
  subst ex
  obtain ⟨ay, cy, ey, -⟩ := RdS.open' h3.2
  rw [show lvS1.s.length = 1 from rfl] at ey
  subst ey
  subst e3
  have b4 := bl_newZ w3 (.cells #[.slice ax 2 cx, .slice ay 1 cy] 25)
  replace HB := Lib.hid (below2Z HB.out b4)
  have H3 := Lib.hid (h3.later b4)
  have HN := Lib.hid (RdS.later hn3 b4)
  have FS := Lib.hid (heap_newT w3 (.cells #[.slice ax 2 cx, .slice ay 1 cy] 25))
  clear b3 b4 h3 hn3 HA
  go_wp2_with fail
  generalize hW : w3.alloc (.cells #[.slice ax 2 cx, .slice ay 1 cy] 25) = w4 at HB H3 HN FS ⊢
  generalize hS : w3.heap.size = S at FS ⊢
  clear hW hS
  refine (stdo_any H3.out (stOK_may lvMay1).1 (by decide) (stOK_may lvMay1).2 ⟨8, [97, 110, 110], [], 1, ⟨0, 0, 0, []⟩⟩ (by decide) (by decide) (by decide) lvAp).mono ?_
  rintro e w5 ⟨x2, y2, rfl, h5, b5⟩
  obtain ⟨ax2, cx2, ex2, -⟩ := h5.1.open'
  rw [show lvS2.e.length = 2 from rfl] at ex2
  subst ex2
  obtain ⟨ay2, cy2, ey2, -⟩ := RdS.open' h5.2
  rw [show lvS2.s.length = 0 from rfl] at ey2
  subst ey2
  have b6 := bl_newZ w5 (.cells #[.slice ax2 2 cx2, .slice ay2 0 cy2] 25)
  replace HB := Lib.hid (below2Z HB.out (below2Z b5 b6))
  replace H3 := Lib.hid (H3.out.later (below2Z b5 b6))
  replace HN := Lib.hid (RdS.later HN.out (below2Z b5 b6))
  replace FS := Lib.hid (upT FS.out (below2Z b5 b6))
  have H5 := Lib.hid (h5.later b6)
  have FT := Lib.hid (heap_newT w5 (.cells #[.slice ax2 2 cx2, .slice ay2 0 cy2] 25))
  clear b5 b6 h5
  obtain ⟨nb, no, e5, n0⟩ := Nums.at HN.out (Below.refl _ _) 0 (by decide)
  subst e5
  have n1 : ∀ k, (hk : k < 6) → (w5.alloc (.cells #[.slice ax2 2 cx2, .slice ay2 0 cy2] 25)).cell? ⟨nb, no + k, none⟩ = some (.int .i64 (([0, 0, 0, 6, 1, 7] : List Int).getD k 0)) := by
    intro k hk
    obtain ⟨nb', no', e, h⟩ := Nums.at HN.out (Below.refl _ _) k hk
    injection e with e
    injection e with e1 e2 _
    subst e1 e2
    exact h
  obtain ⟨bk, off, ea, -⟩ := Ents.row H3.out.1 (Below.refl _ _) 0 (by decide)
  subst ea
  have hcx : (2 : Nat) ≤ cx ∧ cx ≤ 9223372036854775807 := by
    obtain ⟨_, _, e, h1, h2, _⟩ := H3.out.1
    simp only [Value.slice.injEq] at e
    obtain ⟨-, -, rfl⟩ := e
    unfold maxLen at h2
    exact ⟨h1, h2⟩
  obtain ⟨hcx1, hcx2⟩ := hcx
  have hQ : lvQ (w5.alloc (.cells #[.slice ax2 2 cx2, .slice ay2 0 cy2] 25)) nb no S w5.heap.size (.slice (some ⟨bk, off, none⟩) 2 cx) (.slice ay 1 cy) (.slice ax2 2 cx2) (.slice ay2 0 cy2) := by
    obtain ⟨s0, s1, -, -⟩ := two_T FS.out
    obtain ⟨t0, t1, -, -⟩ := two_T FT.out
    exact ⟨n1 0 (by decide), n1 1 (by decide), n1 2 (by decide), n1 3 (by decide), n1 4 (by decide), n1 5 (by decide), s0, s1, t0, t1⟩
  have HQ := Lib.hid hQ
  clear hQ n0 n1 FS FT HN
  go_upto_region 6 with fail
  generalize hW : w5.alloc (.cells #[.slice ax2 2 cx2, .slice ay2 0 cy2] 25) = W at HB H3 H5 HQ ⊢
  generalize hT : w5.heap.size = T at HQ ⊢
  clear hW hT
  obtain ⟨q0, q1, q2, q3, q4, q5, q6, q7, q8, q9⟩ := HQ.out
  go_wp2_with fail
  refine (stmay_any H3.out (stOK_may lvMay1).1 (stOK_may lvMay1).2 (Lib.hid lvMay1)).mono ?_
  rintro e p1 ⟨rfl, b1⟩
  replace HB := Lib.hid (below2Z HB.out b1)
  replace H3 := Lib.hid (H3.out.later b1)
  replace H5 := Lib.hid (H5.out.later b1)
  replace HQ := Lib.hid (lvQ_up b1 HQ.out)
  clear q0 q1 q2 q3 q4 q5 q6 q7 q8 q9 b1
  obtain ⟨q0, q1, q2, q3, q4, q5, q6, q7, q8, q9⟩ := HQ.out
  go_wp2_with fail
  refine (stmay_any (t := lvS3) ⟨Ents.cut H3.out.1 (k := 1) (by decide), rdS_nil _⟩ lvOK3.1 lvOK3.2 (Lib.hid lvMay3)).mono ?_
  rintro e p2 ⟨rfl, b2⟩
  replace HB := Lib.hid (below2Z HB.out b2)
  replace H3 := Lib.hid (H3.out.later b2)
  replace H5 := Lib.hid (H5.out.later b2)
  replace HQ := Lib.hid (lvQ_up b2 HQ.out)
  clear q0 q1 q2 q3 q4 q5 q6 q7 q8 q9 b2
  obtain ⟨q0, q1, q2, q3, q4, q5, q6, q7, q8, q9⟩ := HQ.out
  go_wp2_with fail
  refine (stsame_any H3.out H3.out (Lib.hid (staSame_self _))).mono ?_
  rintro e p3 ⟨rfl, b3⟩
  replace HB := Lib.hid (below2Z HB.out b3)
  replace H3 := Lib.hid (H3.out.later b3)
  replace H5 := Lib.hid (H5.out.later b3)
  replace HQ := Lib.hid (lvQ_up b3 HQ.out)
  clear q0 q1 q2 q3 q4 q5 q6 q7 q8 q9 b3
  obtain ⟨q0, q1, q2, q3, q4, q5, q6, q7, q8, q9⟩ := HQ.out
  go_wp2_with fail
  refine (stsame_any H3.out H5.out (Lib.hid lvSm)).mono ?_
  rintro e p4 ⟨rfl, b4⟩
  replace HB := Lib.hid (below2Z HB.out b4)
  replace H3 := Lib.hid (H3.out.later b4)
  replace H5 := Lib.hid (H5.out.later b4)
  replace HQ := Lib.hid (lvQ_up b4 HQ.out)
  clear q0 q1 q2 q3 q4 q5 q6 q7 q8 q9 b4
  obtain ⟨q0, q1, q2, q3, q4, q5, q6, q7, q8, q9⟩ := HQ.out
  go_wp2_with fail
  refine (touch_any ⟨5, [98, 111, 98], [97, 108], 0, ⟨0, 0, 0, []⟩⟩ _).mono ?_
  rintro e p5 ⟨z5, rfl, hz5, b5⟩
  replace HB := Lib.hid (below2Z HB.out b5)
  replace H3 := Lib.hid (H3.out.later b5)
  replace H5 := Lib.hid (H5.out.later b5)
  replace HQ := Lib.hid (lvQ_up b5 HQ.out)
  rw [lvT1] at hz5
  have T5 := Lib.hid hz5
  obtain ⟨za5, zk5, ez5, -⟩ := hz5
  subst ez5
  clear q0 q1 q2 q3 q4 q5 q6 q7 q8 q9 b5
  obtain ⟨q0, q1, q2, q3, q4, q5, q6, q7, q8, q9⟩ := HQ.out
  have bb5 := bl_newZ p5 (.cells #[.string ⟨#[97, 108]⟩, .string ⟨#[98, 111, 98]⟩] 9)
  replace HB := Lib.hid (below2Z HB.out bb5)
  replace H3 := Lib.hid (H3.out.later bb5)
  replace H5 := Lib.hid (H5.out.later bb5)
  replace HQ := Lib.hid (lvQ_up bb5 HQ.out)
  replace T5 := Lib.hid (T5.out.later bb5)
  have U5 := Lib.hid (texts_made p5 9 p5.heap.size rfl [[97, 108], [98, 111, 98]] (by simp) #[.string ⟨#[97, 108]⟩, .string ⟨#[98, 111, 98]⟩] rfl 2 rfl)
  clear bb5
  go_wp2_with fail
  refine (same_yes (ls := [[97, 108], [98, 111, 98]]) T5.out U5.out (by simp)).mono ?_
  rintro e p50 ⟨rfl, b50⟩
  replace HB := Lib.hid (below2Z HB.out b50)
  replace H3 := Lib.hid (H3.out.later b50)
  replace H5 := Lib.hid (H5.out.later b50)
  replace HQ := Lib.hid (lvQ_up b50 HQ.out)
  clear q0 q1 q2 q3 q4 q5 q6 q7 q8 q9 b50
  obtain ⟨q0, q1, q2, q3, q4, q5, q6, q7, q8, q9⟩ := HQ.out
  go_wp2_with fail
  refine (touch_any ⟨8, [98, 111, 98], [97, 108], 0, ⟨0, 0, 0, []⟩⟩ _).mono ?_
  rintro e p6 ⟨z6, rfl, hz6, b6⟩
  replace HB := Lib.hid (below2Z HB.out b6)
  replace H3 := Lib.hid (H3.out.later b6)
  replace H5 := Lib.hid (H5.out.later b6)
  replace HQ := Lib.hid (lvQ_up b6 HQ.out)
  rw [lvT2] at hz6
  have T6 := Lib.hid hz6
  obtain ⟨za6, zk6, ez6, -⟩ := hz6
  subst ez6
  clear q0 q1 q2 q3 q4 q5 q6 q7 q8 q9 b6
  obtain ⟨q0, q1, q2, q3, q4, q5, q6, q7, q8, q9⟩ := HQ.out
  have bb6 := bl_newZ p6 (.cells #[.string ⟨#[98, 111, 98]⟩] 9)
  replace HB := Lib.hid (below2Z HB.out bb6)
  replace H3 := Lib.hid (H3.out.later bb6)
  replace H5 := Lib.hid (H5.out.later bb6)
  replace HQ := Lib.hid (lvQ_up bb6 HQ.out)
  replace T6 := Lib.hid (T6.out.later bb6)
  have U6 := Lib.hid (texts_made p6 9 p6.heap.size rfl [[98, 111, 98]] (by simp) #[.string ⟨#[98, 111, 98]⟩] rfl 1 rfl)
  clear bb6
  go_wp2_with fail
  refine (same_yes (ls := [[98, 111, 98]]) T6.out U6.out (by simp)).mono ?_
  rintro e p60 ⟨rfl, b60⟩
  replace HB := Lib.hid (below2Z HB.out b60)
  replace H3 := Lib.hid (H3.out.later b60)
  replace H5 := Lib.hid (H5.out.later b60)
  replace HQ := Lib.hid (lvQ_up b60 HQ.out)
  clear q0 q1 q2 q3 q4 q5 q6 q7 q8 q9 b60
  obtain ⟨q0, q1, q2, q3, q4, q5, q6, q7, q8, q9⟩ := HQ.out
  clear q0 q1 q2 q3 q4 q5 q6 q7 q8 q9
  go_wp2_with fail
  go_ret
  exact ⟨rfl, HB.out⟩

end Go.Proofs.YtdilcckoapaimaaGreat

end

section

/-
  LAYER 14, PLAIN: what an event turns, and what it leaves.
-/
namespace Go.Proofs.YtdilcckoapaimaaGreat

theorem suDo_moves (k : Int) (h : k = 1 ∨ k = 2 ∨ k = 3 ∨ k = 4 ∨ k = 5 ∨ k = 6) (a b : It) : suDo a b k ≠ (a, b, 0) := by
  obtain ⟨a1, a2, a3, a4, a5⟩ := a
  obtain ⟨b1, b2, b3, b4, b5⟩ := b
  rcases h with rfl | rfl | rfl | rfl | rfl | rfl <;> (revert a1 a2 a3 a4 a5 b1 b2 b3 b4 b5; decide +kernel)

theorem roDo_at {l m : List Ent} {k : Int} {u o : List UInt8} (h : roDo l k u o = (m, 0)) : ∃ a b, suAct (roIt l u o) (roIt l o u) k = (a, b, 0) ∧ roIt m u o = a ∧ roIt m o u = b := by
  have hm := (roDo_may h).1
  obtain ⟨⟨hr, hl⟩, hu, ho, huo, hk1, hk6, a, b, hx, hfull, rfl⟩ := roDo_ok h
  have hmem := roSet_mem hr huo a b (!(suEmpty a && suEmpty b))
  refine ⟨a, b, hx, ?_⟩
  cases hk : (suEmpty a && suEmpty b) with
  | false =>
    rw [hk] at hm hmem
    exact ⟨roIt_mem hm ((hmem ⟨u, o, a⟩).2 (.inl ⟨rfl, .inl rfl⟩)), roIt_mem hm ((hmem ⟨o, u, b⟩).2 (.inl ⟨rfl, .inr rfl⟩))⟩
  | true =>
    rw [hk] at hmem
    rw [Bool.and_eq_true] at hk
    obtain ⟨ka, kb⟩ := hk
    rw [suEmpty_iff] at ka kb
    subst ka kb
    refine ⟨roIt_none fun e he h' => ?_, roIt_none fun e he h' => ?_⟩
    · rcases (hmem e).1 he with ⟨q, _⟩ | ⟨_, h2, _⟩
      · cases q
      · exact h2 h'
    · rcases (hmem e).1 he with ⟨q, _⟩ | ⟨_, _, h3⟩
      · cases q
      · exact h3 h'

theorem roDo_moves {l m : List Ent} {k : Int} {u o : List UInt8} (h : roDo l k u o = (m, 0)) : m ≠ l := by
  rintro rfl
  obtain ⟨a, b, hx, h1, h2⟩ := roDo_at h
  obtain ⟨_, h3, h4, h5⟩ := suAct_ok hx
  rw [h1, h2] at h5
  exact suDo_moves k (k_cases h3 h4) a b h5

theorem seDrop_moves {l m : List Ses} {u : List UInt8} {id : Int} (h : seDrop l u id = (m, 0)) : m ≠ l := by
  rintro rfl
  obtain ⟨_, hd, hf⟩ := seDrop_ok h
  rw [findO_isSome, List.any_eq_true] at hf
  obtain ⟨x, hx, he⟩ := hf
  have h2 := hx
  rw [hd, mem_dropO] at h2
  rw [he] at h2
  cases h2.2

theorem all_getD {α : Type} {z : α} {f : α → α → Bool} (hf : ∀ a b, f a b = true → a = b) {a b : List α} (hl : a.length = b.length) (h : ((List.range a.length).all fun i => f (a.getD i z) (b.getD i z)) = true) : a = b := by
  refine List.ext_getElem hl fun i h1 h2 => ?_
  have := hf _ _ (List.all_eq_true.1 h i (List.mem_range.2 h1))
  simpa [List.getD, List.getElem?_eq_getElem h1, List.getElem?_eq_getElem h2] using this

theorem entsSame_eq {a b : List Ent} (h : entsSame a b = true) : a = b := by
  unfold entsSame at h
  rw [Bool.and_eq_true, beq_iff_eq] at h
  exact all_getD (fun _ _ h => entSame_iff.1 h) h.1 h.2

theorem sessSame_eq {a b : List Ses} (h : sessSame a b = true) : a = b := by
  unfold sessSame at h
  rw [Bool.and_eq_true, decide_eq_true_eq] at h
  exact all_getD (fun _ _ h => sesSame_iff.1 h) h.1 h.2

theorem staSame_eq {t s : Sta} (h : staSame t s = true) : t = s := by
  unfold staSame at h
  rw [Bool.and_eq_true] at h
  obtain ⟨e, l⟩ := t
  obtain ⟨e', l'⟩ := s
  exact Sta.mk.injEq _ _ _ _ ▸ ⟨entsSame_eq h.1, sessSame_eq h.2⟩

/-- What is not refused turns the state, but for a session that is shown again. -/
theorem st_moves {t t' : Sta} {e : Ev} (h : stApply t e = (t', 0)) (h7 : e.k ≠ 7) : staSame t t' = false := by
  rw [Bool.eq_false_iff]
  intro hs
  have := staSame_eq hs
  subst this
  obtain ⟨_, ⟨_, _, hd, _⟩ | ⟨h, _⟩ | ⟨_, hd, _⟩⟩ := stApply_ok h
  · exact roDo_moves hd rfl
  · exact h7 h
  · exact seDrop_moves hd rfl

/-- What is not touched stays. -/
theorem st_leaves {t t' : Sta} {e : Ev} (h : stApply t e = (t', 0)) {p : List UInt8} (hp : p ∉ stTouch e) : seOf t'.s p = seOf t.s p ∧ ∀ q, roGet t'.e p q = roGet t.e p q := by
  obtain ⟨_, ⟨h1, h6, hd, hs⟩ | ⟨h7, hd, he⟩ | ⟨h8, hd, he⟩⟩ := stApply_ok h
  · rw [stTouch_two h1 h6, mrg_mem] at hp
    simp only [List.mem_cons, List.not_mem_nil, or_false, not_or] at hp
    exact ⟨by rw [hs], fun q => (roDo_get hd (fun h => hp.2 h.1) (fun h => hp.1 h.1)).1⟩
  · rw [stTouch_one (.inl h7)] at hp
    simp only [List.mem_cons, List.not_mem_nil, or_false] at hp
    obtain ⟨m1, _, hm, _⟩ := sePut_ok hd
    exact ⟨by rw [hm]; exact of_put (s := ⟨e.u, e.id, e.v⟩) (seMay_rise m1).2.1 hp, fun q => by rw [he]⟩
  · rw [stTouch_one (.inr h8)] at hp
    simp only [List.mem_cons, List.not_mem_nil, or_false] at hp
    obtain ⟨_, hm, _⟩ := seDrop_ok hd
    exact ⟨by rw [hm]; exact of_drop (s := keyS e.u e.id) hp, fun q => by rw [he]⟩

theorem st_len {t t' : Sta} {e : Ev} (h : stApply t e = (t', 0)) : t'.s.length ≤ 32 := by
  have := stApply_may h
  unfold stMay at this
  rw [Bool.and_eq_true] at this
  exact (seMay_rise this.2).1

end Go.Proofs.YtdilcckoapaimaaGreat

end
