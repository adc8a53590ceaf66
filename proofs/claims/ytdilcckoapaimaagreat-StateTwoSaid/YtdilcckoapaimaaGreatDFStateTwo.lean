/-
  THE PROOF OF StateTwo: for every input the law returns true, and each argument reads behind the call as it read before. No condition.
-/
import Derived.Test.YtdilcckoapaimaaGreatD10
import Derived.Test.YtdilcckoapaimaaGreatD12
import Derived.Test.YtdilcckoapaimaaGreatD07
import Derived.BigRegion
import Derived.Deep.RegionHeld
import Derived.Deep.DeepCutAuto
import Derived.Deep.CutBlock
import Derived.Test.YtdilcckoapaimaaGreatD06
import Derived.Test.YtdilcckoapaimaaGreatRows
import Derived.ProofKit
import Derived.OpenShut
import Derived.ShutString
import Derived.ChangeOld
import Derived.SliceStrings
import Derived.Lib.SmallJoins

section

/-
  THE WALK OF StateTwo.
-/
namespace Go.Proofs.YtdilcckoapaimaaGreat
open Go.RowKit

theorem twoW {X : World} {B : Nat} {p q : Value} (h : CellsAt X B 0 [p, q]) : X.cell? ⟨B, 0, none⟩ = some p ∧ X.cell? ⟨B, 1, none⟩ = some q := by
  have h0 := h 0 _ rfl
  have h1 := h 1 _ rfl
  simp only [Nat.zero_add] at h0 h1
  exact ⟨h0, h1⟩

theorem fewSta_getW {t : Sta} (h : fewSta t = true) : ShortE t.e ∧ t.e.length ≤ 80 ∧ ShortS t.s ∧ t.s.length ≤ 50 := by
  unfold fewSta at h
  rw [Bool.and_eq_true] at h
  refine ⟨fewR_short h.1, (fewR_get h.1).1, fun s hs => ?_, (few_get h.2).1⟩
  have := (few_get h.2).2 s hs
  omega

theorem seqW {a b : List UInt8} (h : a = b) : (a == b) = true := by rw [beq_iff_eq]; exact h
theorem sneW {a b : List UInt8} (h : ¬ a = b) : (a == b) = false := by rw [beq_eq_false_iff_ne]; exact h

/-- A name of a list of names, where it lies. -/
theorem text_atW {w X : World} {a : Option Addr} {n c : Nat} {ls : List (List UInt8)} (h : Texts w (.slice a n c) ls) (hb : Below w.heap.size w X) {k : Nat} (hk : k < ls.length) : ∃ b off, a = some ⟨b, off, none⟩ ∧ X.cell? ⟨b, off + k, none⟩ = some (.string ⟨(ls.getD k []).toArray⟩) := by
  obtain ⟨a', cap', e, _, _, _, h⟩ := h.later hb
  simp only [Value.slice.injEq] at e
  rcases h with h | ⟨b, off, e', _, hc⟩
  · rw [h] at hk; simp at hk
  · exact ⟨b, off, e.1.trans e', hc k hk⟩

theorem getD_all {ls : List (List UInt8)} {P : List UInt8 → Prop} (h : ∀ i, i < ls.length → P (ls.getD i [])) : ∀ p ∈ ls, P p := by
  intro p hp
  obtain ⟨i, hi, e⟩ := List.getElem_of_mem hp
  have := h i hi
  rw [List.getD_eq_getElem?_getD, List.getElem?_eq_getElem hi] at this
  exact e ▸ this

set_option maxHeartbeats 6400000 in
set_option maxRecDepth 100000 in
theorem stw_1 {w : World} {x y : Value} {s : Sta} (h : StAt w x y s) (k : Int) (u o st : List UInt8) (id a b c : Int) (k2 : Int) (u2 o2 st2 : List UInt8) (id2 a2 b2 c2 : Int) (hs : fewSta s = false) :
    Calls Tryz.prog 6 #[.agg #[x, y], .agg #[.int .i64 k, .string ⟨u.toArray⟩, .string ⟨o.toArray⟩, .int .i64 id, .int .i64 a, .int .i64 b, .int .i64 c, .string ⟨st.toArray⟩], .agg #[.int .i64 k2, .string ⟨u2.toArray⟩, .string ⟨o2.toArray⟩, .int .i64 id2, .int .i64 a2, .int .i64 b2, .int .i64 c2, .string ⟨st2.toArray⟩]] w fun e w' => e = .returned (.bool true) ∧ Below w.heap.size w w' := by
  obtain ⟨ax, cx, rfl, -⟩ := h.1.open'
  obtain ⟨ay, cy, rfl, -⟩ := RdS.open' h.2
  have b0 := bl_newZ w (.cells #[.slice ax s.e.length cx, .slice ay s.s.length cy] 25)
  have b00 := bl_newZ (w.alloc (.cells #[.slice ax s.e.length cx, .slice ay s.s.length cy] 25)) (.cells #[.int .i64 k, .string ⟨u.toArray⟩, .string ⟨o.toArray⟩, .int .i64 id, .int .i64 a, .int .i64 b, .int .i64 c, .string ⟨st.toArray⟩] 29)
  have b000 := bl_newZ ((w.alloc (.cells #[.slice ax s.e.length cx, .slice ay s.s.length cy] 25)).alloc (.cells #[.int .i64 k, .string ⟨u.toArray⟩, .string ⟨o.toArray⟩, .int .i64 id, .int .i64 a, .int .i64 b, .int .i64 c, .string ⟨st.toArray⟩] 29)) (.cells #[.int .i64 k2, .string ⟨u2.toArray⟩, .string ⟨o2.toArray⟩, .int .i64 id2, .int .i64 a2, .int .i64 b2, .int .i64 c2, .string ⟨st2.toArray⟩] 29)
  have HB := Lib.hid (below2Z (below2Z b0 b00) b000)
  have C1 := Lib.hid (((cellsAt_made (w := w) (cs := #[.slice ax s.e.length cx, .slice ay s.s.length cy]) (vs := [.slice ax s.e.length cx, .slice ay s.s.length cy]) rfl 25 rfl).later b00).later b000)
  have C2 := Lib.hid ((cellsAt_made (w := w.alloc (.cells #[.slice ax s.e.length cx, .slice ay s.s.length cy] 25)) (cs := #[.int .i64 k, .string ⟨u.toArray⟩, .string ⟨o.toArray⟩, .int .i64 id, .int .i64 a, .int .i64 b, .int .i64 c, .string ⟨st.toArray⟩]) (vs := evVals ⟨k, u, o, id, ⟨a, b, c, st⟩⟩) rfl 29 (B := w.heap.size + 1) (by simp)).later b000)
  have C3 := Lib.hid (cellsAt_made (w := (w.alloc (.cells #[.slice ax s.e.length cx, .slice ay s.s.length cy] 25)).alloc (.cells #[.int .i64 k, .string ⟨u.toArray⟩, .string ⟨o.toArray⟩, .int .i64 id, .int .i64 a, .int .i64 b, .int .i64 c, .string ⟨st.toArray⟩] 29)) (cs := #[.int .i64 k2, .string ⟨u2.toArray⟩, .string ⟨o2.toArray⟩, .int .i64 id2, .int .i64 a2, .int .i64 b2, .int .i64 c2, .string ⟨st2.toArray⟩]) (vs := evVals ⟨k2, u2, o2, id2, ⟨a2, b2, c2, st2⟩⟩) rfl 29 (B := w.heap.size + 1 + 1) (by simp))
  have V := Lib.hid (h.later HB.out)
  clear b0 b00 b000 h
  have H1 := Lib.hid hs
  obtain ⟨c0, c1⟩ := twoW C1.out
  obtain ⟨f0, f1, f2, f3, f4, f5, f6, f7⟩ := eightT C2.out
  obtain ⟨g0, g1, g2, g3, g4, g5, g6, g7⟩ := eightT C3.out
  go_enter Tryz.func6, Tryz.ntmps6
  go_wp2_with fail
  clear c0 c1 f0 f1 f2 f3 f4 f5 f6 f7 g0 g1 g2 g3 g4 g5 g6 g7
  refine (fewst_any V.out H1).mono ?_
  rintro e w1 ⟨rfl, b1⟩
  replace HB := Lib.hid (below2Z HB.out b1)
  clear b1
  go_wp2_with fail
  refine (live14 _).mono ?_
  rintro e w2 ⟨rfl, b2⟩
  replace HB := Lib.hid (below2Z HB.out b2)
  clear b2
  go_wp2_with fail
  go_ret
  exact ⟨rfl, HB.out⟩

set_option maxHeartbeats 6400000 in
set_option maxRecDepth 100000 in
theorem stw_2 {w : World} {x y : Value} {s : Sta} (h : StAt w x y s) (k : Int) (u o st : List UInt8) (id a b c : Int) (k2 : Int) (u2 o2 st2 : List UInt8) (id2 a2 b2 c2 : Int) (hs : fewSta s = true) (hm : stMay s = false) :
    Calls Tryz.prog 6 #[.agg #[x, y], .agg #[.int .i64 k, .string ⟨u.toArray⟩, .string ⟨o.toArray⟩, .int .i64 id, .int .i64 a, .int .i64 b, .int .i64 c, .string ⟨st.toArray⟩], .agg #[.int .i64 k2, .string ⟨u2.toArray⟩, .string ⟨o2.toArray⟩, .int .i64 id2, .int .i64 a2, .int .i64 b2, .int .i64 c2, .string ⟨st2.toArray⟩]] w fun e w' => e = .returned (.bool true) ∧ Below w.heap.size w w' := by
  obtain ⟨ax, cx, rfl, -⟩ := h.1.open'
  obtain ⟨ay, cy, rfl, -⟩ := RdS.open' h.2
  have b0 := bl_newZ w (.cells #[.slice ax s.e.length cx, .slice ay s.s.length cy] 25)
  have b00 := bl_newZ (w.alloc (.cells #[.slice ax s.e.length cx, .slice ay s.s.length cy] 25)) (.cells #[.int .i64 k, .string ⟨u.toArray⟩, .string ⟨o.toArray⟩, .int .i64 id, .int .i64 a, .int .i64 b, .int .i64 c, .string ⟨st.toArray⟩] 29)
  have b000 := bl_newZ ((w.alloc (.cells #[.slice ax s.e.length cx, .slice ay s.s.length cy] 25)).alloc (.cells #[.int .i64 k, .string ⟨u.toArray⟩, .string ⟨o.toArray⟩, .int .i64 id, .int .i64 a, .int .i64 b, .int .i64 c, .string ⟨st.toArray⟩] 29)) (.cells #[.int .i64 k2, .string ⟨u2.toArray⟩, .string ⟨o2.toArray⟩, .int .i64 id2, .int .i64 a2, .int .i64 b2, .int .i64 c2, .string ⟨st2.toArray⟩] 29)
  have HB := Lib.hid (below2Z (below2Z b0 b00) b000)
  have C1 := Lib.hid (((cellsAt_made (w := w) (cs := #[.slice ax s.e.length cx, .slice ay s.s.length cy]) (vs := [.slice ax s.e.length cx, .slice ay s.s.length cy]) rfl 25 rfl).later b00).later b000)
  have C2 := Lib.hid ((cellsAt_made (w := w.alloc (.cells #[.slice ax s.e.length cx, .slice ay s.s.length cy] 25)) (cs := #[.int .i64 k, .string ⟨u.toArray⟩, .string ⟨o.toArray⟩, .int .i64 id, .int .i64 a, .int .i64 b, .int .i64 c, .string ⟨st.toArray⟩]) (vs := evVals ⟨k, u, o, id, ⟨a, b, c, st⟩⟩) rfl 29 (B := w.heap.size + 1) (by simp)).later b000)
  have C3 := Lib.hid (cellsAt_made (w := (w.alloc (.cells #[.slice ax s.e.length cx, .slice ay s.s.length cy] 25)).alloc (.cells #[.int .i64 k, .string ⟨u.toArray⟩, .string ⟨o.toArray⟩, .int .i64 id, .int .i64 a, .int .i64 b, .int .i64 c, .string ⟨st.toArray⟩] 29)) (cs := #[.int .i64 k2, .string ⟨u2.toArray⟩, .string ⟨o2.toArray⟩, .int .i64 id2, .int .i64 a2, .int .i64 b2, .int .i64 c2, .string ⟨st2.toArray⟩]) (vs := evVals ⟨k2, u2, o2, id2, ⟨a2, b2, c2, st2⟩⟩) rfl 29 (B := w.heap.size + 1 + 1) (by simp))
  have V := Lib.hid (h.later HB.out)
  clear b0 b00 b000 h
  have H1 := Lib.hid hs
  have HS := Lib.hid (fewSta_getW hs)
  have HM := Lib.hid hm
  obtain ⟨c0, c1⟩ := twoW C1.out
  obtain ⟨f0, f1, f2, f3, f4, f5, f6, f7⟩ := eightT C2.out
  obtain ⟨g0, g1, g2, g3, g4, g5, g6, g7⟩ := eightT C3.out
  go_enter Tryz.func6, Tryz.ntmps6
  go_wp2_with fail
  clear c0 c1 f0 f1 f2 f3 f4 f5 f6 f7 g0 g1 g2 g3 g4 g5 g6 g7
  refine (fewst_any V.out H1).mono ?_
  rintro e w1 ⟨rfl, b1⟩
  replace V := Lib.hid (V.out.later b1)
  replace C1 := Lib.hid (C1.out.later b1)
  replace C2 := Lib.hid (C2.out.later b1)
  replace C3 := Lib.hid (C3.out.later b1)
  replace HB := Lib.hid (below2Z HB.out b1)
  clear b1
  obtain ⟨c0, c1⟩ := twoW C1.out
  obtain ⟨f0, f1, f2, f3, f4, f5, f6, f7⟩ := eightT C2.out
  obtain ⟨g0, g1, g2, g3, g4, g5, g6, g7⟩ := eightT C3.out
  go_wp2_with fail
  clear c0 c1 f0 f1 f2 f3 f4 f5 f6 f7 g0 g1 g2 g3 g4 g5 g6 g7
  refine (rstmay_any V.out HS.out.1 (Nat.le_trans HS.out.2.1 (by decide)) HS.out.2.2.1 HM).mono ?_
  rintro e w2 ⟨rfl, b2⟩
  replace HB := Lib.hid (below2Z HB.out b2)
  clear b2
  go_wp2_with fail
  refine (live14 _).mono ?_
  rintro e w3 ⟨rfl, b3⟩
  replace HB := Lib.hid (below2Z HB.out b3)
  clear b3
  go_wp2_with fail
  go_ret
  exact ⟨rfl, HB.out⟩

set_option maxHeartbeats 6400000 in
set_option maxRecDepth 100000 in
theorem stw_3 {w : World} {x y : Value} {s : Sta} (h : StAt w x y s) (k : Int) (u o st : List UInt8) (id a b c : Int) (k2 : Int) (u2 o2 st2 : List UInt8) (id2 a2 b2 c2 : Int) (hs : fewSta s = true) (hm : stMay s = true) (h3 : ¬ s.s.length ≤ 30) :
    Calls Tryz.prog 6 #[.agg #[x, y], .agg #[.int .i64 k, .string ⟨u.toArray⟩, .string ⟨o.toArray⟩, .int .i64 id, .int .i64 a, .int .i64 b, .int .i64 c, .string ⟨st.toArray⟩], .agg #[.int .i64 k2, .string ⟨u2.toArray⟩, .string ⟨o2.toArray⟩, .int .i64 id2, .int .i64 a2, .int .i64 b2, .int .i64 c2, .string ⟨st2.toArray⟩]] w fun e w' => e = .returned (.bool true) ∧ Below w.heap.size w w' := by
  obtain ⟨ax, cx, rfl, -⟩ := h.1.open'
  obtain ⟨ay, cy, rfl, -⟩ := RdS.open' h.2
  have b0 := bl_newZ w (.cells #[.slice ax s.e.length cx, .slice ay s.s.length cy] 25)
  have b00 := bl_newZ (w.alloc (.cells #[.slice ax s.e.length cx, .slice ay s.s.length cy] 25)) (.cells #[.int .i64 k, .string ⟨u.toArray⟩, .string ⟨o.toArray⟩, .int .i64 id, .int .i64 a, .int .i64 b, .int .i64 c, .string ⟨st.toArray⟩] 29)
  have b000 := bl_newZ ((w.alloc (.cells #[.slice ax s.e.length cx, .slice ay s.s.length cy] 25)).alloc (.cells #[.int .i64 k, .string ⟨u.toArray⟩, .string ⟨o.toArray⟩, .int .i64 id, .int .i64 a, .int .i64 b, .int .i64 c, .string ⟨st.toArray⟩] 29)) (.cells #[.int .i64 k2, .string ⟨u2.toArray⟩, .string ⟨o2.toArray⟩, .int .i64 id2, .int .i64 a2, .int .i64 b2, .int .i64 c2, .string ⟨st2.toArray⟩] 29)
  have HB := Lib.hid (below2Z (below2Z b0 b00) b000)
  have C1 := Lib.hid (((cellsAt_made (w := w) (cs := #[.slice ax s.e.length cx, .slice ay s.s.length cy]) (vs := [.slice ax s.e.length cx, .slice ay s.s.length cy]) rfl 25 rfl).later b00).later b000)
  have C2 := Lib.hid ((cellsAt_made (w := w.alloc (.cells #[.slice ax s.e.length cx, .slice ay s.s.length cy] 25)) (cs := #[.int .i64 k, .string ⟨u.toArray⟩, .string ⟨o.toArray⟩, .int .i64 id, .int .i64 a, .int .i64 b, .int .i64 c, .string ⟨st.toArray⟩]) (vs := evVals ⟨k, u, o, id, ⟨a, b, c, st⟩⟩) rfl 29 (B := w.heap.size + 1) (by simp)).later b000)
  have C3 := Lib.hid (cellsAt_made (w := (w.alloc (.cells #[.slice ax s.e.length cx, .slice ay s.s.length cy] 25)).alloc (.cells #[.int .i64 k, .string ⟨u.toArray⟩, .string ⟨o.toArray⟩, .int .i64 id, .int .i64 a, .int .i64 b, .int .i64 c, .string ⟨st.toArray⟩] 29)) (cs := #[.int .i64 k2, .string ⟨u2.toArray⟩, .string ⟨o2.toArray⟩, .int .i64 id2, .int .i64 a2, .int .i64 b2, .int .i64 c2, .string ⟨st2.toArray⟩]) (vs := evVals ⟨k2, u2, o2, id2, ⟨a2, b2, c2, st2⟩⟩) rfl 29 (B := w.heap.size + 1 + 1) (by simp))
  have V := Lib.hid (h.later HB.out)
  clear b0 b00 b000 h
  have H1 := Lib.hid hs
  have HS := Lib.hid (fewSta_getW hs)
  have HM := Lib.hid hm
  have t30 : decide ((30 : Int) < (s.s.length : Int)) = true := by rw [decide_eq_true_eq]; omega
  obtain ⟨c0, c1⟩ := twoW C1.out
  obtain ⟨f0, f1, f2, f3, f4, f5, f6, f7⟩ := eightT C2.out
  obtain ⟨g0, g1, g2, g3, g4, g5, g6, g7⟩ := eightT C3.out
  go_enter Tryz.func6, Tryz.ntmps6
  go_wp2_with fail
  clear c0 c1 f0 f1 f2 f3 f4 f5 f6 f7 g0 g1 g2 g3 g4 g5 g6 g7
  refine (fewst_any V.out H1).mono ?_
  rintro e w1 ⟨rfl, b1⟩
  replace V := Lib.hid (V.out.later b1)
  replace C1 := Lib.hid (C1.out.later b1)
  replace C2 := Lib.hid (C2.out.later b1)
  replace C3 := Lib.hid (C3.out.later b1)
  replace HB := Lib.hid (below2Z HB.out b1)
  clear b1
  obtain ⟨c0, c1⟩ := twoW C1.out
  obtain ⟨f0, f1, f2, f3, f4, f5, f6, f7⟩ := eightT C2.out
  obtain ⟨g0, g1, g2, g3, g4, g5, g6, g7⟩ := eightT C3.out
  go_wp2_with fail
  clear c0 c1 f0 f1 f2 f3 f4 f5 f6 f7 g0 g1 g2 g3 g4 g5 g6 g7
  refine (rstmay_any V.out HS.out.1 (Nat.le_trans HS.out.2.1 (by decide)) HS.out.2.2.1 HM).mono ?_
  rintro e w2 ⟨rfl, b2⟩
  replace V := Lib.hid (V.out.later b2)
  replace C1 := Lib.hid (C1.out.later b2)
  replace C2 := Lib.hid (C2.out.later b2)
  replace C3 := Lib.hid (C3.out.later b2)
  replace HB := Lib.hid (below2Z HB.out b2)
  clear b2
  obtain ⟨c0, c1⟩ := twoW C1.out
  obtain ⟨f0, f1, f2, f3, f4, f5, f6, f7⟩ := eightT C2.out
  obtain ⟨g0, g1, g2, g3, g4, g5, g6, g7⟩ := eightT C3.out
  go_wp2_with fail
  refine (live14 _).mono ?_
  rintro e w3 ⟨rfl, b3⟩
  replace HB := Lib.hid (below2Z HB.out b3)
  clear b3
  go_wp2_with fail
  go_ret
  exact ⟨rfl, HB.out⟩

set_option maxHeartbeats 6400000 in
set_option maxRecDepth 100000 in
theorem stw_4 {w : World} {x y : Value} {s : Sta} (h : StAt w x y s) (k : Int) (u o st : List UInt8) (id a b c : Int) (k2 : Int) (u2 o2 st2 : List UInt8) (id2 a2 b2 c2 : Int) (hs : fewSta s = true) (hm : stMay s = true) (h3 : s.s.length ≤ 30) (h4 : shortEv ⟨k, u, o, id, ⟨a, b, c, st⟩⟩ = false) :
    Calls Tryz.prog 6 #[.agg #[x, y], .agg #[.int .i64 k, .string ⟨u.toArray⟩, .string ⟨o.toArray⟩, .int .i64 id, .int .i64 a, .int .i64 b, .int .i64 c, .string ⟨st.toArray⟩], .agg #[.int .i64 k2, .string ⟨u2.toArray⟩, .string ⟨o2.toArray⟩, .int .i64 id2, .int .i64 a2, .int .i64 b2, .int .i64 c2, .string ⟨st2.toArray⟩]] w fun e w' => e = .returned (.bool true) ∧ Below w.heap.size w w' := by
  obtain ⟨ax, cx, rfl, -⟩ := h.1.open'
  obtain ⟨ay, cy, rfl, -⟩ := RdS.open' h.2
  have b0 := bl_newZ w (.cells #[.slice ax s.e.length cx, .slice ay s.s.length cy] 25)
  have b00 := bl_newZ (w.alloc (.cells #[.slice ax s.e.length cx, .slice ay s.s.length cy] 25)) (.cells #[.int .i64 k, .string ⟨u.toArray⟩, .string ⟨o.toArray⟩, .int .i64 id, .int .i64 a, .int .i64 b, .int .i64 c, .string ⟨st.toArray⟩] 29)
  have b000 := bl_newZ ((w.alloc (.cells #[.slice ax s.e.length cx, .slice ay s.s.length cy] 25)).alloc (.cells #[.int .i64 k, .string ⟨u.toArray⟩, .string ⟨o.toArray⟩, .int .i64 id, .int .i64 a, .int .i64 b, .int .i64 c, .string ⟨st.toArray⟩] 29)) (.cells #[.int .i64 k2, .string ⟨u2.toArray⟩, .string ⟨o2.toArray⟩, .int .i64 id2, .int .i64 a2, .int .i64 b2, .int .i64 c2, .string ⟨st2.toArray⟩] 29)
  have HB := Lib.hid (below2Z (below2Z b0 b00) b000)
  have C1 := Lib.hid (((cellsAt_made (w := w) (cs := #[.slice ax s.e.length cx, .slice ay s.s.length cy]) (vs := [.slice ax s.e.length cx, .slice ay s.s.length cy]) rfl 25 rfl).later b00).later b000)
  have C2 := Lib.hid ((cellsAt_made (w := w.alloc (.cells #[.slice ax s.e.length cx, .slice ay s.s.length cy] 25)) (cs := #[.int .i64 k, .string ⟨u.toArray⟩, .string ⟨o.toArray⟩, .int .i64 id, .int .i64 a, .int .i64 b, .int .i64 c, .string ⟨st.toArray⟩]) (vs := evVals ⟨k, u, o, id, ⟨a, b, c, st⟩⟩) rfl 29 (B := w.heap.size + 1) (by simp)).later b000)
  have C3 := Lib.hid (cellsAt_made (w := (w.alloc (.cells #[.slice ax s.e.length cx, .slice ay s.s.length cy] 25)).alloc (.cells #[.int .i64 k, .string ⟨u.toArray⟩, .string ⟨o.toArray⟩, .int .i64 id, .int .i64 a, .int .i64 b, .int .i64 c, .string ⟨st.toArray⟩] 29)) (cs := #[.int .i64 k2, .string ⟨u2.toArray⟩, .string ⟨o2.toArray⟩, .int .i64 id2, .int .i64 a2, .int .i64 b2, .int .i64 c2, .string ⟨st2.toArray⟩]) (vs := evVals ⟨k2, u2, o2, id2, ⟨a2, b2, c2, st2⟩⟩) rfl 29 (B := w.heap.size + 1 + 1) (by simp))
  have V := Lib.hid (h.later HB.out)
  clear b0 b00 b000 h
  have H1 := Lib.hid hs
  have HS := Lib.hid (fewSta_getW hs)
  have HM := Lib.hid hm
  have t30 : decide ((30 : Int) < (s.s.length : Int)) = false := by rw [decide_eq_false_iff_not]; omega
  have H4 := Lib.hid h4
  obtain ⟨c0, c1⟩ := twoW C1.out
  obtain ⟨f0, f1, f2, f3, f4, f5, f6, f7⟩ := eightT C2.out
  obtain ⟨g0, g1, g2, g3, g4, g5, g6, g7⟩ := eightT C3.out
  go_enter Tryz.func6, Tryz.ntmps6
  go_wp2_with fail
  clear c0 c1 f0 f1 f2 f3 f4 f5 f6 f7 g0 g1 g2 g3 g4 g5 g6 g7
  refine (fewst_any V.out H1).mono ?_
  rintro e w1 ⟨rfl, b1⟩
  replace V := Lib.hid (V.out.later b1)
  replace C1 := Lib.hid (C1.out.later b1)
  replace C2 := Lib.hid (C2.out.later b1)
  replace C3 := Lib.hid (C3.out.later b1)
  replace HB := Lib.hid (below2Z HB.out b1)
  clear b1
  obtain ⟨c0, c1⟩ := twoW C1.out
  obtain ⟨f0, f1, f2, f3, f4, f5, f6, f7⟩ := eightT C2.out
  obtain ⟨g0, g1, g2, g3, g4, g5, g6, g7⟩ := eightT C3.out
  go_wp2_with fail
  clear c0 c1 f0 f1 f2 f3 f4 f5 f6 f7 g0 g1 g2 g3 g4 g5 g6 g7
  refine (rstmay_any V.out HS.out.1 (Nat.le_trans HS.out.2.1 (by decide)) HS.out.2.2.1 HM).mono ?_
  rintro e w2 ⟨rfl, b2⟩
  replace V := Lib.hid (V.out.later b2)
  replace C1 := Lib.hid (C1.out.later b2)
  replace C2 := Lib.hid (C2.out.later b2)
  replace C3 := Lib.hid (C3.out.later b2)
  replace HB := Lib.hid (below2Z HB.out b2)
  clear b2
  obtain ⟨c0, c1⟩ := twoW C1.out
  obtain ⟨f0, f1, f2, f3, f4, f5, f6, f7⟩ := eightT C2.out
  obtain ⟨g0, g1, g2, g3, g4, g5, g6, g7⟩ := eightT C3.out
  go_wp2_with fail
  clear c0 c1 f0 f1 f2 f3 f4 f5 f6 f7 g0 g1 g2 g3 g4 g5 g6 g7
  refine (short14_any k u o st id a b c H4 _).mono ?_
  rintro e w3 ⟨rfl, b3⟩
  replace HB := Lib.hid (below2Z HB.out b3)
  clear b3
  go_wp2_with fail
  refine (live14 _).mono ?_
  rintro e w4 ⟨rfl, b4⟩
  replace HB := Lib.hid (below2Z HB.out b4)
  clear b4
  go_wp2_with fail
  go_ret
  exact ⟨rfl, HB.out⟩

set_option maxHeartbeats 6400000 in
set_option maxRecDepth 100000 in
theorem stw_5 {w : World} {x y : Value} {s : Sta} (h : StAt w x y s) (k : Int) (u o st : List UInt8) (id a b c : Int) (k2 : Int) (u2 o2 st2 : List UInt8) (id2 a2 b2 c2 : Int) (hs : fewSta s = true) (hm : stMay s = true) (h3 : s.s.length ≤ 30) (h4 : shortEv ⟨k, u, o, id, ⟨a, b, c, st⟩⟩ = true) (h5 : shortEv ⟨k2, u2, o2, id2, ⟨a2, b2, c2, st2⟩⟩ = false) :
    Calls Tryz.prog 6 #[.agg #[x, y], .agg #[.int .i64 k, .string ⟨u.toArray⟩, .string ⟨o.toArray⟩, .int .i64 id, .int .i64 a, .int .i64 b, .int .i64 c, .string ⟨st.toArray⟩], .agg #[.int .i64 k2, .string ⟨u2.toArray⟩, .string ⟨o2.toArray⟩, .int .i64 id2, .int .i64 a2, .int .i64 b2, .int .i64 c2, .string ⟨st2.toArray⟩]] w fun e w' => e = .returned (.bool true) ∧ Below w.heap.size w w' := by
  obtain ⟨ax, cx, rfl, -⟩ := h.1.open'
  obtain ⟨ay, cy, rfl, -⟩ := RdS.open' h.2
  have b0 := bl_newZ w (.cells #[.slice ax s.e.length cx, .slice ay s.s.length cy] 25)
  have b00 := bl_newZ (w.alloc (.cells #[.slice ax s.e.length cx, .slice ay s.s.length cy] 25)) (.cells #[.int .i64 k, .string ⟨u.toArray⟩, .string ⟨o.toArray⟩, .int .i64 id, .int .i64 a, .int .i64 b, .int .i64 c, .string ⟨st.toArray⟩] 29)
  have b000 := bl_newZ ((w.alloc (.cells #[.slice ax s.e.length cx, .slice ay s.s.length cy] 25)).alloc (.cells #[.int .i64 k, .string ⟨u.toArray⟩, .string ⟨o.toArray⟩, .int .i64 id, .int .i64 a, .int .i64 b, .int .i64 c, .string ⟨st.toArray⟩] 29)) (.cells #[.int .i64 k2, .string ⟨u2.toArray⟩, .string ⟨o2.toArray⟩, .int .i64 id2, .int .i64 a2, .int .i64 b2, .int .i64 c2, .string ⟨st2.toArray⟩] 29)
  have HB := Lib.hid (below2Z (below2Z b0 b00) b000)
  have C1 := Lib.hid (((cellsAt_made (w := w) (cs := #[.slice ax s.e.length cx, .slice ay s.s.length cy]) (vs := [.slice ax s.e.length cx, .slice ay s.s.length cy]) rfl 25 rfl).later b00).later b000)
  have C2 := Lib.hid ((cellsAt_made (w := w.alloc (.cells #[.slice ax s.e.length cx, .slice ay s.s.length cy] 25)) (cs := #[.int .i64 k, .string ⟨u.toArray⟩, .string ⟨o.toArray⟩, .int .i64 id, .int .i64 a, .int .i64 b, .int .i64 c, .string ⟨st.toArray⟩]) (vs := evVals ⟨k, u, o, id, ⟨a, b, c, st⟩⟩) rfl 29 (B := w.heap.size + 1) (by simp)).later b000)
  have C3 := Lib.hid (cellsAt_made (w := (w.alloc (.cells #[.slice ax s.e.length cx, .slice ay s.s.length cy] 25)).alloc (.cells #[.int .i64 k, .string ⟨u.toArray⟩, .string ⟨o.toArray⟩, .int .i64 id, .int .i64 a, .int .i64 b, .int .i64 c, .string ⟨st.toArray⟩] 29)) (cs := #[.int .i64 k2, .string ⟨u2.toArray⟩, .string ⟨o2.toArray⟩, .int .i64 id2, .int .i64 a2, .int .i64 b2, .int .i64 c2, .string ⟨st2.toArray⟩]) (vs := evVals ⟨k2, u2, o2, id2, ⟨a2, b2, c2, st2⟩⟩) rfl 29 (B := w.heap.size + 1 + 1) (by simp))
  have V := Lib.hid (h.later HB.out)
  clear b0 b00 b000 h
  have H1 := Lib.hid hs
  have HS := Lib.hid (fewSta_getW hs)
  have HM := Lib.hid hm
  have t30 : decide ((30 : Int) < (s.s.length : Int)) = false := by rw [decide_eq_false_iff_not]; omega
  have H4 := Lib.hid h4
  have H5 := Lib.hid h5
  obtain ⟨c0, c1⟩ := twoW C1.out
  obtain ⟨f0, f1, f2, f3, f4, f5, f6, f7⟩ := eightT C2.out
  obtain ⟨g0, g1, g2, g3, g4, g5, g6, g7⟩ := eightT C3.out
  go_enter Tryz.func6, Tryz.ntmps6
  go_wp2_with fail
  clear c0 c1 f0 f1 f2 f3 f4 f5 f6 f7 g0 g1 g2 g3 g4 g5 g6 g7
  refine (fewst_any V.out H1).mono ?_
  rintro e w1 ⟨rfl, b1⟩
  replace V := Lib.hid (V.out.later b1)
  replace C1 := Lib.hid (C1.out.later b1)
  replace C2 := Lib.hid (C2.out.later b1)
  replace C3 := Lib.hid (C3.out.later b1)
  replace HB := Lib.hid (below2Z HB.out b1)
  clear b1
  obtain ⟨c0, c1⟩ := twoW C1.out
  obtain ⟨f0, f1, f2, f3, f4, f5, f6, f7⟩ := eightT C2.out
  obtain ⟨g0, g1, g2, g3, g4, g5, g6, g7⟩ := eightT C3.out
  go_wp2_with fail
  clear c0 c1 f0 f1 f2 f3 f4 f5 f6 f7 g0 g1 g2 g3 g4 g5 g6 g7
  refine (rstmay_any V.out HS.out.1 (Nat.le_trans HS.out.2.1 (by decide)) HS.out.2.2.1 HM).mono ?_
  rintro e w2 ⟨rfl, b2⟩
  replace V := Lib.hid (V.out.later b2)
  replace C1 := Lib.hid (C1.out.later b2)
  replace C2 := Lib.hid (C2.out.later b2)
  replace C3 := Lib.hid (C3.out.later b2)
  replace HB := Lib.hid (below2Z HB.out b2)
  clear b2
  obtain ⟨c0, c1⟩ := twoW C1.out
  obtain ⟨f0, f1, f2, f3, f4, f5, f6, f7⟩ := eightT C2.out
  obtain ⟨g0, g1, g2, g3, g4, g5, g6, g7⟩ := eightT C3.out
  go_wp2_with fail
  clear c0 c1 f0 f1 f2 f3 f4 f5 f6 f7 g0 g1 g2 g3 g4 g5 g6 g7
  refine (short14_any k u o st id a b c H4 _).mono ?_
  rintro e w3 ⟨rfl, b3⟩
  replace V := Lib.hid (V.out.later b3)
  replace C1 := Lib.hid (C1.out.later b3)
  replace C2 := Lib.hid (C2.out.later b3)
  replace C3 := Lib.hid (C3.out.later b3)
  replace HB := Lib.hid (below2Z HB.out b3)
  clear b3
  obtain ⟨c0, c1⟩ := twoW C1.out
  obtain ⟨f0, f1, f2, f3, f4, f5, f6, f7⟩ := eightT C2.out
  obtain ⟨g0, g1, g2, g3, g4, g5, g6, g7⟩ := eightT C3.out
  go_wp2_with fail
  clear c0 c1 f0 f1 f2 f3 f4 f5 f6 f7 g0 g1 g2 g3 g4 g5 g6 g7
  refine (short14_any k2 u2 o2 st2 id2 a2 b2 c2 H5 _).mono ?_
  rintro e w4 ⟨rfl, b4⟩
  replace HB := Lib.hid (below2Z HB.out b4)
  clear b4
  go_wp2_with fail
  refine (live14 _).mono ?_
  rintro e w5 ⟨rfl, b5⟩
  replace HB := Lib.hid (below2Z HB.out b5)
  clear b5
  go_wp2_with fail
  go_ret
  exact ⟨rfl, HB.out⟩

set_option maxHeartbeats 6400000 in
set_option maxRecDepth 100000 in
theorem stw_6 {w : World} {x y : Value} {s : Sta} (h : StAt w x y s) (k : Int) (u o st : List UInt8) (id a b c : Int) (k2 : Int) (u2 o2 st2 : List UInt8) (id2 a2 b2 c2 : Int) (hs : fewSta s = true) (hm : stMay s = true) (h3 : s.s.length ≤ 30) (h4 : shortEv ⟨k, u, o, id, ⟨a, b, c, st⟩⟩ = true) (h5 : shortEv ⟨k2, u2, o2, id2, ⟨a2, b2, c2, st2⟩⟩ = true) :
    Calls Tryz.prog 6 #[.agg #[x, y], .agg #[.int .i64 k, .string ⟨u.toArray⟩, .string ⟨o.toArray⟩, .int .i64 id, .int .i64 a, .int .i64 b, .int .i64 c, .string ⟨st.toArray⟩], .agg #[.int .i64 k2, .string ⟨u2.toArray⟩, .string ⟨o2.toArray⟩, .int .i64 id2, .int .i64 a2, .int .i64 b2, .int .i64 c2, .string ⟨st2.toArray⟩]] w fun e w' => e = .returned (.bool true) ∧ Below w.heap.size w w' := by
  obtain ⟨T, hT⟩ : ∃ T, stTouch ⟨k, u, o, id, ⟨a, b, c, st⟩⟩ = T := ⟨_, rfl⟩
  obtain ⟨U, hU⟩ : ∃ U, stTouch ⟨k2, u2, o2, id2, ⟨a2, b2, c2, st2⟩⟩ = U := ⟨_, rfl⟩
  have hTl : T.length ≤ 2 := hT ▸ stTouch_len ⟨k, u, o, id, ⟨a, b, c, st⟩⟩
  have hUl : U.length ≤ 2 := hU ▸ stTouch_len ⟨k2, u2, o2, id2, ⟨a2, b2, c2, st2⟩⟩
  have HT := Lib.hid hT
  have HU := Lib.hid hU
  clear hT hU
  have H30 := Lib.hid h3
  obtain ⟨ax, cx, rfl, -⟩ := h.1.open'
  obtain ⟨ay, cy, rfl, -⟩ := RdS.open' h.2
  have b0 := bl_newZ w (.cells #[.slice ax s.e.length cx, .slice ay s.s.length cy] 25)
  have b00 := bl_newZ (w.alloc (.cells #[.slice ax s.e.length cx, .slice ay s.s.length cy] 25)) (.cells #[.int .i64 k, .string ⟨u.toArray⟩, .string ⟨o.toArray⟩, .int .i64 id, .int .i64 a, .int .i64 b, .int .i64 c, .string ⟨st.toArray⟩] 29)
  have b000 := bl_newZ ((w.alloc (.cells #[.slice ax s.e.length cx, .slice ay s.s.length cy] 25)).alloc (.cells #[.int .i64 k, .string ⟨u.toArray⟩, .string ⟨o.toArray⟩, .int .i64 id, .int .i64 a, .int .i64 b, .int .i64 c, .string ⟨st.toArray⟩] 29)) (.cells #[.int .i64 k2, .string ⟨u2.toArray⟩, .string ⟨o2.toArray⟩, .int .i64 id2, .int .i64 a2, .int .i64 b2, .int .i64 c2, .string ⟨st2.toArray⟩] 29)
  have HB := Lib.hid (below2Z (below2Z b0 b00) b000)
  have C1 := Lib.hid (((cellsAt_made (w := w) (cs := #[.slice ax s.e.length cx, .slice ay s.s.length cy]) (vs := [.slice ax s.e.length cx, .slice ay s.s.length cy]) rfl 25 rfl).later b00).later b000)
  have C2 := Lib.hid ((cellsAt_made (w := w.alloc (.cells #[.slice ax s.e.length cx, .slice ay s.s.length cy] 25)) (cs := #[.int .i64 k, .string ⟨u.toArray⟩, .string ⟨o.toArray⟩, .int .i64 id, .int .i64 a, .int .i64 b, .int .i64 c, .string ⟨st.toArray⟩]) (vs := evVals ⟨k, u, o, id, ⟨a, b, c, st⟩⟩) rfl 29 (B := w.heap.size + 1) (by simp)).later b000)
  have C3 := Lib.hid (cellsAt_made (w := (w.alloc (.cells #[.slice ax s.e.length cx, .slice ay s.s.length cy] 25)).alloc (.cells #[.int .i64 k, .string ⟨u.toArray⟩, .string ⟨o.toArray⟩, .int .i64 id, .int .i64 a, .int .i64 b, .int .i64 c, .string ⟨st.toArray⟩] 29)) (cs := #[.int .i64 k2, .string ⟨u2.toArray⟩, .string ⟨o2.toArray⟩, .int .i64 id2, .int .i64 a2, .int .i64 b2, .int .i64 c2, .string ⟨st2.toArray⟩]) (vs := evVals ⟨k2, u2, o2, id2, ⟨a2, b2, c2, st2⟩⟩) rfl 29 (B := w.heap.size + 1 + 1) (by simp))
  have V := Lib.hid (h.later HB.out)
  clear b0 b00 b000 h
  have H1 := Lib.hid hs
  have HS := Lib.hid (fewSta_getW hs)
  have HM := Lib.hid hm
  have t30 : decide ((30 : Int) < (s.s.length : Int)) = false := by rw [decide_eq_false_iff_not]; omega
  have H4 := Lib.hid h4
  have H5 := Lib.hid h5
  have A4 := Lib.hid (shortEv_get h4)
  have A5 := Lib.hid (shortEv_get h5)
  clear hs hm h4 h5
  obtain ⟨c0, c1⟩ := twoW C1.out
  obtain ⟨f0, f1, f2, f3, f4, f5, f6, f7⟩ := eightT C2.out
  obtain ⟨g0, g1, g2, g3, g4, g5, g6, g7⟩ := eightT C3.out
  go_enter Tryz.func6, Tryz.ntmps6
  go_wp2_with fail
  clear c0 c1 f0 f1 f2 f3 f4 f5 f6 f7 g0 g1 g2 g3 g4 g5 g6 g7
  refine (fewst_any V.out H1).mono ?_
  rintro e w1 ⟨rfl, b1⟩
  replace V := Lib.hid (V.out.later b1)
  replace C1 := Lib.hid (C1.out.later b1)
  replace C2 := Lib.hid (C2.out.later b1)
  replace C3 := Lib.hid (C3.out.later b1)
  replace HB := Lib.hid (below2Z HB.out b1)
  clear b1
  obtain ⟨c0, c1⟩ := twoW C1.out
  obtain ⟨f0, f1, f2, f3, f4, f5, f6, f7⟩ := eightT C2.out
  obtain ⟨g0, g1, g2, g3, g4, g5, g6, g7⟩ := eightT C3.out
  go_wp2_with fail
  clear c0 c1 f0 f1 f2 f3 f4 f5 f6 f7 g0 g1 g2 g3 g4 g5 g6 g7
  refine (rstmay_any V.out HS.out.1 (Nat.le_trans HS.out.2.1 (by decide)) HS.out.2.2.1 HM).mono ?_
  rintro e w2 ⟨rfl, b2⟩
  replace V := Lib.hid (V.out.later b2)
  replace C1 := Lib.hid (C1.out.later b2)
  replace C2 := Lib.hid (C2.out.later b2)
  replace C3 := Lib.hid (C3.out.later b2)
  replace HB := Lib.hid (below2Z HB.out b2)
  clear b2
  obtain ⟨c0, c1⟩ := twoW C1.out
  obtain ⟨f0, f1, f2, f3, f4, f5, f6, f7⟩ := eightT C2.out
  obtain ⟨g0, g1, g2, g3, g4, g5, g6, g7⟩ := eightT C3.out
  go_wp2_with fail
  clear c0 c1 f0 f1 f2 f3 f4 f5 f6 f7 g0 g1 g2 g3 g4 g5 g6 g7
  refine (short14_any k u o st id a b c H4 _).mono ?_
  rintro e w3 ⟨rfl, b3⟩
  replace V := Lib.hid (V.out.later b3)
  replace C1 := Lib.hid (C1.out.later b3)
  replace C2 := Lib.hid (C2.out.later b3)
  replace C3 := Lib.hid (C3.out.later b3)
  replace HB := Lib.hid (below2Z HB.out b3)
  clear b3
  obtain ⟨c0, c1⟩ := twoW C1.out
  obtain ⟨f0, f1, f2, f3, f4, f5, f6, f7⟩ := eightT C2.out
  obtain ⟨g0, g1, g2, g3, g4, g5, g6, g7⟩ := eightT C3.out
  go_wp2_with fail
  clear c0 c1 f0 f1 f2 f3 f4 f5 f6 f7 g0 g1 g2 g3 g4 g5 g6 g7
  refine (short14_any k2 u2 o2 st2 id2 a2 b2 c2 H5 _).mono ?_
  rintro e w4 ⟨rfl, b4⟩
  replace V := Lib.hid (V.out.later b4)
  replace C1 := Lib.hid (C1.out.later b4)
  replace C2 := Lib.hid (C2.out.later b4)
  replace C3 := Lib.hid (C3.out.later b4)
  replace HB := Lib.hid (below2Z HB.out b4)
  clear b4
  obtain ⟨c0, c1⟩ := twoW C1.out
  obtain ⟨f0, f1, f2, f3, f4, f5, f6, f7⟩ := eightT C2.out
  obtain ⟨g0, g1, g2, g3, g4, g5, g6, g7⟩ := eightT C3.out
  go_wp2_with fail
  clear c0 c1 f0 f1 f2 f3 f4 f5 f6 f7 g0 g1 g2 g3 g4 g5 g6 g7
  refine (touch_any ⟨k, u, o, id, ⟨a, b, c, st⟩⟩ _).mono ?_
  rintro e w5 ⟨v6, rfl, hv6, b5⟩
  replace V := Lib.hid (V.out.later b5)
  replace C1 := Lib.hid (C1.out.later b5)
  replace C2 := Lib.hid (C2.out.later b5)
  replace C3 := Lib.hid (C3.out.later b5)
  replace HB := Lib.hid (below2Z HB.out b5)
  rw [HT.out] at hv6
  have T6 := Lib.hid hv6
  obtain ⟨za, zk, rfl, -⟩ := T6.out
  clear hv6
  clear b5
  obtain ⟨c0, c1⟩ := twoW C1.out
  obtain ⟨f0, f1, f2, f3, f4, f5, f6, f7⟩ := eightT C2.out
  obtain ⟨g0, g1, g2, g3, g4, g5, g6, g7⟩ := eightT C3.out
  go_wp2_with fail
  clear c0 c1 f0 f1 f2 f3 f4 f5 f6 f7 g0 g1 g2 g3 g4 g5 g6 g7
  refine (touch_any ⟨k2, u2, o2, id2, ⟨a2, b2, c2, st2⟩⟩ _).mono ?_
  rintro e w6 ⟨v7, rfl, hv7, b6⟩
  replace V := Lib.hid (V.out.later b6)
  replace C1 := Lib.hid (C1.out.later b6)
  replace C2 := Lib.hid (C2.out.later b6)
  replace C3 := Lib.hid (C3.out.later b6)
  replace T6 := Lib.hid (T6.out.later b6)
  replace HB := Lib.hid (below2Z HB.out b6)
  rw [HU.out] at hv7
  have T7 := Lib.hid hv7
  obtain ⟨zb, zl, rfl, -⟩ := T7.out
  clear hv7
  clear b6
  go_wp2_with fail
  go_loopw [9] (fun i wr => ∃ j : Nat, j ≤ T.length ∧ i = .int .i64 j ∧ Hid (Below w6.heap.size w6 wr) ∧ Hid (∀ i, i < j → ∀ n, n < U.length → T.getD i [] ≠ U.getD n [])) (fun i _ => T.length - (intOf i).toNat)
  case atStart => exact ⟨0, by omega, rfl, Below.refl _ _, fun i h => absurd h (by omega)⟩
  case round =>
    obtain ⟨j, hj, rfl, HN, HA⟩ := hrel
    by_cases hlt : j < T.length
    · obtain ⟨z, hz9⟩ : ∃ z, T.getD j [] = z := ⟨_, rfl⟩
      have HZ := Lib.hid hz9
      clear hz9
      go_wp2_with fail
      go_loopw [10] (fun i wr => ∃ m : Nat, m ≤ U.length ∧ i = .int .i64 m ∧ Hid (Below w6.heap.size w6 wr) ∧ Hid (∀ n, n < m → z ≠ U.getD n [])) (fun i _ => U.length - (intOf i).toNat)
      case atStart => exact ⟨0, by omega, rfl, HN, fun i h => absurd h (by omega)⟩
      case round =>
        obtain ⟨m, hm2, rfl, HN2, HA2⟩ := hrel
        by_cases hlt2 : m < U.length
        · obtain ⟨bt, ot, e1, ht⟩ := text_atW T6.out HN2.out hlt
          obtain ⟨bu, ou, e2, hu⟩ := text_atW T7.out HN2.out hlt2
          subst e1 e2
          rw [HZ.out] at ht
          obtain ⟨y9, hy9⟩ : ∃ y, U.getD m [] = y := ⟨_, rfl⟩
          rw [hy9] at hu
          have HY9 := Lib.hid hy9
          clear hy9
          by_cases hzp : z = y9
          · have s0 : (z == y9) = true := seqW hzp
            clear hzp
            go_wp2_with fail
            go_region
            go_wp2_with fail
            refine (live14 _).mono ?_
            rintro e wl ⟨rfl, bl⟩
            go_wp2_with fail
            go_ret
            exact ⟨rfl, below2Z HB.out (below2Z HN2.out.drew bl)⟩
          · have s0 : (z == y9) = false := sneW hzp
            have HA3 : Hid (∀ n, n < m + 1 → z ≠ U.getD n []) := Lib.hid (fun n hn => by
              by_cases h : n < m
              · exact HA2.out n h
              · obtain rfl : n = m := by omega
                rw [HY9.out]; exact hzp)
            clear hzp
            go_wp2_with fail
            go_region
            go_wp2_with fail
            go_roundw
            case rel => exact ⟨m + 1, by omega, by go_num, HN2.out.drew, HA3⟩
            case measure => simp [intOf]; omega
        · obtain rfl : m = U.length := by omega
          have HA4 : Hid (∀ i, i < j + 1 → ∀ n, n < U.length → T.getD i [] ≠ U.getD n []) := Lib.hid (fun i hi n hn => by
            by_cases h : i < j
            · exact HA.out i h n hn
            · obtain rfl : i = j := by omega
              rw [HZ.out]; exact HA2.out n hn)
          go_wp2_with fail
          go_roundw
          case rel => exact ⟨j + 1, by omega, by go_num, HN2, HA4⟩
          case measure => simp [intOf]; omega
    · obtain rfl : j = T.length := by omega
      have hdis : ∀ p ∈ T, p ∉ U := getD_all (fun i hi hp => getD_all (P := fun q => T.getD i [] ≠ q) (fun n hn => HA.out i hi n hn) _ hp rfl)
      obtain ⟨t1, d1, hd1⟩ : ∃ t d, stApply s ⟨k, u, o, id, ⟨a, b, c, st⟩⟩ = (t, d) := ⟨_, _, rfl⟩
      obtain ⟨t2, d2, hd2⟩ : ∃ t d, stApply t1 ⟨k2, u2, o2, id2, ⟨a2, b2, c2, st2⟩⟩ = (t, d) := ⟨_, _, rfl⟩
      obtain ⟨t3, d3, hd3⟩ : ∃ t d, stApply s ⟨k2, u2, o2, id2, ⟨a2, b2, c2, st2⟩⟩ = (t, d) := ⟨_, _, rfl⟩
      obtain ⟨t4, d4, hd4⟩ : ∃ t d, stApply t3 ⟨k, u, o, id, ⟨a, b, c, st⟩⟩ = (t, d) := ⟨_, _, rfl⟩
      obtain ⟨rfl, rfl, rfl⟩ := st_two HM.out H30.out (by rw [HT.out, HU.out]; exact hdis) hd1 hd2 hd3 hd4
      have HD1 := Lib.hid hd1
      have HD2 := Lib.hid hd2
      have HD3 := Lib.hid hd3
      have HD4 := Lib.hid hd4
      have K1 := Lib.hid (stOK_next (stOK_may HM.out) hd1)
      have K3 := Lib.hid (stOK_next (stOK_may HM.out) hd3)
      have l1 := stLen_next hd1
      have l3 := stLen_next hd3
      have L1 : Hid (t1.e.length ≤ 900) := Lib.hid (by have := HS.out.2.1; omega)
      have L3 : Hid (t3.e.length ≤ 900) := Lib.hid (by have := HS.out.2.1; omega)
      have q1 : ((d1 : Int) == (d1 : Int)) = true := beq_self_eq_true _
      have q2 : ((d2 : Int) == (d2 : Int)) = true := beq_self_eq_true _
      clear hd1 hd2 hd3 hd4 l1 l3 hdis HA
      replace V := Lib.hid (V.out.later HN.out)
      replace C1 := Lib.hid (C1.out.later HN.out)
      replace C2 := Lib.hid (C2.out.later HN.out)
      replace C3 := Lib.hid (C3.out.later HN.out)
      replace HB := Lib.hid (below2Z HB.out HN.out)
      clear HN T6 T7
      obtain ⟨c0, c1⟩ := twoW C1.out
      obtain ⟨f0, f1, f2, f3, f4, f5, f6, f7⟩ := eightT C2.out
      obtain ⟨g0, g1, g2, g3, g4, g5, g6, g7⟩ := eightT C3.out
      go_wp2_with fail
      clear c0 c1 f0 f1 f2 f3 f4 f5 f6 f7 g0 g1 g2 g3 g4 g5 g6 g7
      refine (stdo_any (t' := t1) V.out HS.out.1 (by have := HS.out.2.1; omega) HS.out.2.2.1 ⟨k, u, o, id, ⟨a, b, c, st⟩⟩ (by have := A4.out.1; exact Nat.le_trans this (by decide)) (by have := A4.out.2.1; exact Nat.le_trans this (by decide)) (by have := A4.out.2.2; exact Nat.le_trans this (by decide)) HD1.out).mono ?_
      rintro e v1 ⟨x1, y1, rfl, h1, b1x⟩
      obtain ⟨p1, g1x, rfl, -⟩ := h1.1.open'
      obtain ⟨q1, l1x, rfl, -⟩ := RdS.open' h1.2
      have bb := below2Z b1x (bl_newZ v1 (.cells #[.slice p1 t1.e.length g1x, .slice q1 t1.s.length l1x] 25))
      replace V := Lib.hid (V.out.later bb)
      replace C1 := Lib.hid (C1.out.later bb)
      replace C2 := Lib.hid (C2.out.later bb)
      replace C3 := Lib.hid (C3.out.later bb)
      replace HB := Lib.hid (below2Z HB.out bb)
      have X1 := Lib.hid (h1.later (bl_newZ v1 (.cells #[.slice p1 t1.e.length g1x, .slice q1 t1.s.length l1x] 25)))
      have B1 := Lib.hid (cellsAt_made (w := v1) (cs := #[.slice p1 t1.e.length g1x, .slice q1 t1.s.length l1x]) (vs := [.slice p1 t1.e.length g1x, .slice q1 t1.s.length l1x]) rfl 25 rfl)
      clear bb b1x h1
      go_upto_region 14 with fail
      generalize hW : v1.alloc (.cells #[.slice p1 t1.e.length g1x, .slice q1 t1.s.length l1x] 25) = W1 at HB V C1 C2 C3 X1 B1 ⊢
      generalize hP : v1.heap.size = P1 at B1 ⊢
      clear hW hP
      obtain ⟨c0, c1⟩ := twoW C1.out
      obtain ⟨f0, f1, f2, f3, f4, f5, f6, f7⟩ := eightT C2.out
      obtain ⟨g0, g1, g2, g3, g4, g5, g6, g7⟩ := eightT C3.out
      obtain ⟨r1a, r1b⟩ := twoW B1.out
      go_wp2_with fail
      clear c0 c1 f0 f1 f2 f3 f4 f5 f6 f7 g0 g1 g2 g3 g4 g5 g6 g7 r1a r1b
      refine (stdo_any (t' := t2) X1.out K1.out.1 L1.out K1.out.2 ⟨k2, u2, o2, id2, ⟨a2, b2, c2, st2⟩⟩ (by have := A5.out.1; exact Nat.le_trans this (by decide)) (by have := A5.out.2.1; exact Nat.le_trans this (by decide)) (by have := A5.out.2.2; exact Nat.le_trans this (by decide)) HD2.out).mono ?_
      rintro e v2 ⟨x2, y2, rfl, h2, b2x⟩
      obtain ⟨p2, g2x, rfl, -⟩ := h2.1.open'
      obtain ⟨q2, l2x, rfl, -⟩ := RdS.open' h2.2
      have bb := below2Z b2x (bl_newZ v2 (.cells #[.slice p2 t2.e.length g2x, .slice q2 t2.s.length l2x] 25))
      replace V := Lib.hid (V.out.later bb)
      replace C1 := Lib.hid (C1.out.later bb)
      replace C2 := Lib.hid (C2.out.later bb)
      replace C3 := Lib.hid (C3.out.later bb)
      replace X1 := Lib.hid (X1.out.later bb)
      replace B1 := Lib.hid (B1.out.later bb)
      replace HB := Lib.hid (below2Z HB.out bb)
      have X2 := Lib.hid (h2.later (bl_newZ v2 (.cells #[.slice p2 t2.e.length g2x, .slice q2 t2.s.length l2x] 25)))
      have B2 := Lib.hid (cellsAt_made (w := v2) (cs := #[.slice p2 t2.e.length g2x, .slice q2 t2.s.length l2x]) (vs := [.slice p2 t2.e.length g2x, .slice q2 t2.s.length l2x]) rfl 25 rfl)
      clear bb b2x h2
      go_upto_region 15 with fail
      generalize hW : v2.alloc (.cells #[.slice p2 t2.e.length g2x, .slice q2 t2.s.length l2x] 25) = W2 at HB V C1 C2 C3 X1 B1 X2 B2 ⊢
      generalize hP : v2.heap.size = P2 at B2 ⊢
      clear hW hP
      obtain ⟨c0, c1⟩ := twoW C1.out
      obtain ⟨f0, f1, f2, f3, f4, f5, f6, f7⟩ := eightT C2.out
      obtain ⟨g0, g1, g2, g3, g4, g5, g6, g7⟩ := eightT C3.out
      obtain ⟨r1a, r1b⟩ := twoW B1.out
      obtain ⟨r2a, r2b⟩ := twoW B2.out
      go_wp2_with fail
      clear c0 c1 f0 f1 f2 f3 f4 f5 f6 f7 g0 g1 g2 g3 g4 g5 g6 g7 r1a r1b r2a r2b
      refine (stdo_any (t' := t3) V.out HS.out.1 (by have := HS.out.2.1; omega) HS.out.2.2.1 ⟨k2, u2, o2, id2, ⟨a2, b2, c2, st2⟩⟩ (by have := A5.out.1; exact Nat.le_trans this (by decide)) (by have := A5.out.2.1; exact Nat.le_trans this (by decide)) (by have := A5.out.2.2; exact Nat.le_trans this (by decide)) HD3.out).mono ?_
      rintro e v3 ⟨x3, y3, rfl, h3, b3x⟩
      obtain ⟨p3, g3x, rfl, -⟩ := h3.1.open'
      obtain ⟨q3, l3x, rfl, -⟩ := RdS.open' h3.2
      have bb := below2Z b3x (bl_newZ v3 (.cells #[.slice p3 t3.e.length g3x, .slice q3 t3.s.length l3x] 25))
      replace V := Lib.hid (V.out.later bb)
      replace C1 := Lib.hid (C1.out.later bb)
      replace C2 := Lib.hid (C2.out.later bb)
      replace C3 := Lib.hid (C3.out.later bb)
      replace X1 := Lib.hid (X1.out.later bb)
      replace B1 := Lib.hid (B1.out.later bb)
      replace X2 := Lib.hid (X2.out.later bb)
      replace B2 := Lib.hid (B2.out.later bb)
      replace HB := Lib.hid (below2Z HB.out bb)
      have X3 := Lib.hid (h3.later (bl_newZ v3 (.cells #[.slice p3 t3.e.length g3x, .slice q3 t3.s.length l3x] 25)))
      have B3 := Lib.hid (cellsAt_made (w := v3) (cs := #[.slice p3 t3.e.length g3x, .slice q3 t3.s.length l3x]) (vs := [.slice p3 t3.e.length g3x, .slice q3 t3.s.length l3x]) rfl 25 rfl)
      clear bb b3x h3
      go_upto_region 16 with fail
      generalize hW : v3.alloc (.cells #[.slice p3 t3.e.length g3x, .slice q3 t3.s.length l3x] 25) = W3 at HB V C1 C2 C3 X1 B1 X2 B2 X3 B3 ⊢
      generalize hP : v3.heap.size = P3 at B3 ⊢
      clear hW hP
      obtain ⟨c0, c1⟩ := twoW C1.out
      obtain ⟨f0, f1, f2, f3, f4, f5, f6, f7⟩ := eightT C2.out
      obtain ⟨g0, g1, g2, g3, g4, g5, g6, g7⟩ := eightT C3.out
      obtain ⟨r1a, r1b⟩ := twoW B1.out
      obtain ⟨r2a, r2b⟩ := twoW B2.out
      obtain ⟨r3a, r3b⟩ := twoW B3.out
      go_wp2_with fail
      clear c0 c1 f0 f1 f2 f3 f4 f5 f6 f7 g0 g1 g2 g3 g4 g5 g6 g7 r1a r1b r2a r2b r3a r3b
      refine (stdo_any (t' := t2) X3.out K3.out.1 L3.out K3.out.2 ⟨k, u, o, id, ⟨a, b, c, st⟩⟩ (by have := A4.out.1; exact Nat.le_trans this (by decide)) (by have := A4.out.2.1; exact Nat.le_trans this (by decide)) (by have := A4.out.2.2; exact Nat.le_trans this (by decide)) HD4.out).mono ?_
      rintro e v4 ⟨x4, y4, rfl, h4, b4x⟩
      obtain ⟨p4, g4x, rfl, -⟩ := h4.1.open'
      obtain ⟨q4, l4x, rfl, -⟩ := RdS.open' h4.2
      have bb := below2Z b4x (bl_newZ v4 (.cells #[.slice p4 t2.e.length g4x, .slice q4 t2.s.length l4x] 25))
      replace V := Lib.hid (V.out.later bb)
      replace C1 := Lib.hid (C1.out.later bb)
      replace C2 := Lib.hid (C2.out.later bb)
      replace C3 := Lib.hid (C3.out.later bb)
      replace X1 := Lib.hid (X1.out.later bb)
      replace B1 := Lib.hid (B1.out.later bb)
      replace X2 := Lib.hid (X2.out.later bb)
      replace B2 := Lib.hid (B2.out.later bb)
      replace X3 := Lib.hid (X3.out.later bb)
      replace B3 := Lib.hid (B3.out.later bb)
      replace HB := Lib.hid (below2Z HB.out bb)
      have X4 := Lib.hid (h4.later (bl_newZ v4 (.cells #[.slice p4 t2.e.length g4x, .slice q4 t2.s.length l4x] 25)))
      have B4 := Lib.hid (cellsAt_made (w := v4) (cs := #[.slice p4 t2.e.length g4x, .slice q4 t2.s.length l4x]) (vs := [.slice p4 t2.e.length g4x, .slice q4 t2.s.length l4x]) rfl 25 rfl)
      clear bb b4x h4
      go_upto_region 17 with fail
      generalize hW : v4.alloc (.cells #[.slice p4 t2.e.length g4x, .slice q4 t2.s.length l4x] 25) = W4 at HB V C1 C2 C3 X1 B1 X2 B2 X3 B3 X4 B4 ⊢
      generalize hP : v4.heap.size = P4 at B4 ⊢
      clear hW hP
      obtain ⟨c0, c1⟩ := twoW C1.out
      obtain ⟨f0, f1, f2, f3, f4, f5, f6, f7⟩ := eightT C2.out
      obtain ⟨g0, g1, g2, g3, g4, g5, g6, g7⟩ := eightT C3.out
      obtain ⟨r1a, r1b⟩ := twoW B1.out
      obtain ⟨r2a, r2b⟩ := twoW B2.out
      obtain ⟨r3a, r3b⟩ := twoW B3.out
      obtain ⟨r4a, r4b⟩ := twoW B4.out
      go_wp2_with fail
      clear c0 c1 f0 f1 f2 f3 f4 f5 f6 f7 g0 g1 g2 g3 g4 g5 g6 g7 r1a r1b r2a r2b r3a r3b r4a r4b
      refine (stsame_any X2.out X4.out (Lib.hid (staSame_self t2))).mono ?_
      rintro e v5 ⟨rfl, b5x⟩
      go_wp2_with fail
      refine (live14 _).mono ?_
      rintro e v6 ⟨rfl, b6x⟩
      go_wp2_with fail
      go_ret
      exact ⟨rfl, below2Z HB.out (below2Z b5x b6x)⟩

theorem walkStateTwo {w : World} {x y : Value} {s : Sta} (h : StAt w x y s) (_ : ∀ r ∈ s.s, SesFit r) (e : Ev) (_ : evFit e) (f : Ev) (_ : evFit f) :
    Calls Tryz.prog 6 #[.agg #[x, y], .agg #[.int .i64 e.k, .string ⟨e.u.toArray⟩, .string ⟨e.o.toArray⟩, .int .i64 e.id, .int .i64 e.v.sh, .int .i64 e.v.pr, .int .i64 e.v.si, .string ⟨e.v.st.toArray⟩], .agg #[.int .i64 f.k, .string ⟨f.u.toArray⟩, .string ⟨f.o.toArray⟩, .int .i64 f.id, .int .i64 f.v.sh, .int .i64 f.v.pr, .int .i64 f.v.si, .string ⟨f.v.st.toArray⟩]] w fun z w' => z = .returned (.bool true) ∧ Below w.heap.size w w' := by
  cases hs : fewSta s with
  | false => exact stw_1 h e.k e.u e.o e.v.st e.id e.v.sh e.v.pr e.v.si f.k f.u f.o f.v.st f.id f.v.sh f.v.pr f.v.si hs
  | true =>
    cases hm : stMay s with
    | false => exact stw_2 h e.k e.u e.o e.v.st e.id e.v.sh e.v.pr e.v.si f.k f.u f.o f.v.st f.id f.v.sh f.v.pr f.v.si hs hm
    | true =>
      by_cases h3 : s.s.length ≤ 30
      · cases h4 : shortEv e with
        | false => exact stw_4 h e.k e.u e.o e.v.st e.id e.v.sh e.v.pr e.v.si f.k f.u f.o f.v.st f.id f.v.sh f.v.pr f.v.si hs hm h3 h4
        | true =>
          cases h5 : shortEv f with
          | false => exact stw_5 h e.k e.u e.o e.v.st e.id e.v.sh e.v.pr e.v.si f.k f.u f.o f.v.st f.id f.v.sh f.v.pr f.v.si hs hm h3 h4 h5
          | true => exact stw_6 h e.k e.u e.o e.v.st e.id e.v.sh e.v.pr e.v.si f.k f.u f.o f.v.st f.id f.v.sh f.v.pr f.v.si hs hm h3 h4 h5
      · exact stw_3 h e.k e.u e.o e.v.st e.id e.v.sh e.v.pr e.v.si f.k f.u f.o f.v.st f.id f.v.sh f.v.pr f.v.si hs hm h3

end Go.Proofs.YtdilcckoapaimaaGreat

end

section

/-
  THE FRAME OF THE PROOF OF StateTwo: for every input the law returns true, and each argument reads behind the call as it read before. No condition.
-/
namespace Go.Proofs.YtdilcckoapaimaaGreat.stateTwo
open Go.ChangeShapes Go.WideShapes Go.ChangeAt Go.RowKit
open Go.ChangeMaps (open_string shut_string)
set_option linter.unusedVariables false

theorem own : ownKnob Tryz.prog.godebug = none := by kernel_rfl
theorem laidOut : laidOutB Tryz.prog = true := by kernel_rfl

set_option maxRecDepth 100000 in
theorem lifted (os : Os) (started : os.Started) (H : Type) (enc : TypeId × Value → H) :
    ReturnsInHanded {} Tryz.checked os 6 .any (Rows.stateTwoSpec.pre6 enc Tryz.prog Tryz.f6 Rows.stateTwoRow.domain false) (Rows.stateTwoSpec.post enc Tryz.prog Tryz.f6 false true false false) := by
  refine returnsInHanded_of_change (C := Tryz.checked) own started (by kernel_rfl) Tryz.func6
    (ChangeSpec.witness6 (enc := enc) (C := Tryz.checked) false ⟨#[], #[.agg #[.slice none 0 0, .slice none 0 0], .agg #[.int .i64 0, .string ByteArray.empty, .string ByteArray.empty, .int .i64 0, .int .i64 0, .int .i64 0, .int .i64 0, .string ByteArray.empty], .agg #[.int .i64 0, .string ByteArray.empty, .string ByteArray.empty, .int .i64 0, .int .i64 0, .int .i64 0, .int .i64 0, .string ByteArray.empty]], []⟩ 8 (by kernel_rfl) (by kernel_rfl) (by kernel_rfl) (by kernel_rfl)) ?_
  intro W base args ds gs before hval0 hW hcnd _
  have hval : ∀ (j : Nat) t v, Tryz.f6.params[j]? = some t → args[j]? = some v → Value.okWide Tryz.prog W .any base t v := hval0
  have hW' := hW
  obtain ⟨p, q, hA0, hV, rfl, hfz, hnd⟩ := hW
  have hA : DataW.TrodAll enc Tryz.prog W 0 (fun _ => true) true Tryz.f6.params.toList args.toList ds p := hA0
  rw [Tryz.params6] at hA hval
  obtain ⟨v0, vs0, d0, ds0, p0, q0, hargs, rfl, rfl, h0, r0⟩ := trodAll_cons hA
  obtain ⟨v1, vs1, d1, ds1, p1, q1, rfl, rfl, rfl, h1, r1⟩ := trodAll_cons r0
  obtain ⟨v2, vs2, d2, ds2, p2, q2, rfl, rfl, rfl, h2, r2⟩ := trodAll_cons r1
  obtain ⟨rfl, rfl, rfl⟩ := trodAll_nil r2
  obtain rfl : args = #[v0, v1, v2] := by cases args; simp_all
  obtain ⟨rfl, rfl⟩ := trodVars_none hV
  have k0 := h0
  have lt0 : ∀ x ∈ p0, x.block < W.heap.size := by obtain ⟨m, hm⟩ := k0; exact DataW.trod_lt m _ _ _ hm
  obtain ⟨x0, y0, l0, rfl, w0, f0⟩ := open_sta (hval 0 25 v0 rfl rfl) h0
  have k1 := h1
  have lt1 : ∀ x ∈ p1, x.block < W.heap.size := by obtain ⟨m, hm⟩ := k1; exact DataW.trod_lt m _ _ _ hm
  obtain ⟨a1, rfl, w1⟩ := open_ev (hval 1 29 v1 rfl rfl) h1
  have k2 := h2
  have lt2 : ∀ x ∈ p2, x.block < W.heap.size := by obtain ⟨m, hm⟩ := k2; exact DataW.trod_lt m _ _ _ hm
  obtain ⟨a2, rfl, w2⟩ := open_ev (hval 2 29 v2 rfl rfl) h2
  clear hA0 hval0
  refine (walkStateTwo (w := W) w0 f0 a1 w1 a2 w2).mono fun e W' ⟨he, bel⟩ => ?_
  subst he
  exact ⟨_, rfl, _, _, _, [], _, [], hW', trodAll_mk1 (shut_bool Tryz.underlying4 _), (trodAll_cons_mk (Below.trod laidOut (by kernel_rfl) (of_decide_eq_true (by kernel_rfl)) k0 bel lt0) (trodAll_cons_mk (Below.trod laidOut (by kernel_rfl) (of_decide_eq_true (by kernel_rfl)) k1 bel lt1) (trodAll_cons_mk (Below.trod laidOut (by kernel_rfl) (of_decide_eq_true (by kernel_rfl)) k2 bel lt2) trodAll_mk0))), rfl, bel.frame _, fun h => by cases h⟩

theorem over : Rows.stateTwoRow.holds Tryz.pinned (OpenSpec.ofChange Rows.stateTwoSpec) :=
  OpenClaim.holds_of_wide 6 Tryz.f6 rfl rfl rfl rfl rfl rfl rfl ⟨rfl, rfl, rfl, rfl, rfl⟩ rfl rfl rfl rfl rfl (by kernel_rfl) Tryz.func6 (by kernel_rfl)
    (of_decide_eq_true (by kernel_rfl)) (by unfold Func.isWrapper; first | (rw [if_pos (by decide +kernel)]; kernel_rfl) | (rw [if_neg (by decide +kernel)]; exact ⟨rfl, rfl⟩))
    (fun os started H enc _ => lifted os started H enc)

/-- THE STATEMENT. -/
theorem proved : Rows.StateTwoSaid := over
#print axioms proved
end Go.Proofs.YtdilcckoapaimaaGreat.stateTwo

end
