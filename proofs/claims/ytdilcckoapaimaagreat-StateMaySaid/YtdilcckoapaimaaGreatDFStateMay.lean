/-
  THE PROOF OF StateMay: for every input the law returns true, and each argument reads behind the call as it read before. No condition.
-/
import Derived.Test.YtdilcckoapaimaaGreatD10
import Derived.Test.YtdilcckoapaimaaGreatD07
import Derived.Test.YtdilcckoapaimaaGreatD04
import Derived.Test.YtdilcckoapaimaaGreatD11
import Derived.Test.YtdilcckoapaimaaGreatD08
import Derived.BigRegion
import Derived.Deep.RegionHeld
import Derived.Deep.DeepCutAuto
import Derived.Deep.CutBlock
import Derived.Test.YtdilcckoapaimaaGreatD06
import Derived.Test.YtdilcckoapaimaaGreatRows
import Derived.ProofKit
import Derived.OpenShut
import Derived.ShutString
import Derived.ChangeOld
import Derived.SliceStrings
import Derived.Lib.SmallJoins

section

/-
  THE WALK OF StateMay.
-/
namespace Go.Proofs.YtdilcckoapaimaaGreat
open Go.RowKit

theorem twoM {X : World} {B : Nat} {p q : Value} (h : CellsAt X B 0 [p, q]) : X.cell? ⟨B, 0, none⟩ = some p ∧ X.cell? ⟨B, 1, none⟩ = some q := by
  have h0 := h 0 _ rfl
  have h1 := h 1 _ rfl
  simp only [Nat.zero_add] at h0 h1
  exact ⟨h0, h1⟩

theorem fewSta_getM {t : Sta} (h : fewSta t = true) : ShortE t.e ∧ t.e.length ≤ 80 ∧ ShortS t.s ∧ t.s.length ≤ 50 := by
  unfold fewSta at h
  rw [Bool.and_eq_true] at h
  refine ⟨fewR_short h.1, (fewR_get h.1).1, fun s hs => ?_, (few_get h.2).1⟩
  have := (few_get h.2).2 s hs
  omega

theorem seqM {a b : List UInt8} (h : a = b) : (a == b) = true := by rw [beq_iff_eq]; exact h
theorem sneM {a b : List UInt8} (h : ¬ a = b) : (a == b) = false := by rw [beq_eq_false_iff_ne]; exact h

/-- The three blocks that the last statement reads. -/
def smQ (X : World) (A P O : Nat) (x y p1 p2 q1 q2 : Value) : Prop := CellsAt X A 0 [x, y] ∧ CellsAt X P 0 [p1, p2] ∧ CellsAt X O 0 [q1, q2]

theorem smQ_up {W X : World} {A P O : Nat} {x y p1 p2 q1 q2 : Value} (hb : Below W.heap.size W X) (h : smQ W A P O x y p1 p2 q1 q2) : smQ X A P O x y p1 p2 q1 q2 :=
  ⟨h.1.later hb, h.2.1.later hb, h.2.2.later hb⟩

/-- A name of a list of names, where it lies. -/
theorem text_at {w X : World} {a : Option Addr} {n c : Nat} {ls : List (List UInt8)} (h : Texts w (.slice a n c) ls) (hb : Below w.heap.size w X) {k : Nat} (hk : k < ls.length) : ∃ b off, a = some ⟨b, off, none⟩ ∧ X.cell? ⟨b, off + k, none⟩ = some (.string ⟨(ls.getD k []).toArray⟩) := by
  obtain ⟨a', cap', e, _, _, _, h⟩ := h.later hb
  simp only [Value.slice.injEq] at e
  rcases h with h | ⟨b, off, e', _, hc⟩
  · rw [h] at hk; simp at hk
  · exact ⟨b, off, e.1.trans e', hc k hk⟩

set_option maxHeartbeats 6400000 in
set_option maxRecDepth 100000 in
theorem smay_1 {w : World} {x y : Value} {s : Sta} (h : StAt w x y s) (k : Int) (u o st : List UInt8) (id a b c : Int) (p q : List UInt8) (hs : fewSta s = false) :
    Calls Tryz.prog 5 #[.agg #[x, y], .agg #[.int .i64 k, .string ⟨u.toArray⟩, .string ⟨o.toArray⟩, .int .i64 id, .int .i64 a, .int .i64 b, .int .i64 c, .string ⟨st.toArray⟩], .agg #[.string ⟨p.toArray⟩, .string ⟨q.toArray⟩]] w fun e w' => e = .returned (.bool true) ∧ Below w.heap.size w w' := by
  obtain ⟨ax, cx, rfl, -⟩ := h.1.open'
  obtain ⟨ay, cy, rfl, -⟩ := RdS.open' h.2
  have b0 := bl_newZ w (.cells #[.slice ax s.e.length cx, .slice ay s.s.length cy] 25)
  have b00 := bl_newZ (w.alloc (.cells #[.slice ax s.e.length cx, .slice ay s.s.length cy] 25)) (.cells #[.int .i64 k, .string ⟨u.toArray⟩, .string ⟨o.toArray⟩, .int .i64 id, .int .i64 a, .int .i64 b, .int .i64 c, .string ⟨st.toArray⟩] 29)
  have b000 := bl_newZ ((w.alloc (.cells #[.slice ax s.e.length cx, .slice ay s.s.length cy] 25)).alloc (.cells #[.int .i64 k, .string ⟨u.toArray⟩, .string ⟨o.toArray⟩, .int .i64 id, .int .i64 a, .int .i64 b, .int .i64 c, .string ⟨st.toArray⟩] 29)) (.cells #[.string ⟨p.toArray⟩, .string ⟨q.toArray⟩] 47)
  have HB := Lib.hid (below2Z (below2Z b0 b00) b000)
  have C1 := Lib.hid (((cellsAt_made (w := w) (cs := #[.slice ax s.e.length cx, .slice ay s.s.length cy]) (vs := [.slice ax s.e.length cx, .slice ay s.s.length cy]) rfl 25 rfl).later b00).later b000)
  have C2 := Lib.hid ((cellsAt_made (w := w.alloc (.cells #[.slice ax s.e.length cx, .slice ay s.s.length cy] 25)) (cs := #[.int .i64 k, .string ⟨u.toArray⟩, .string ⟨o.toArray⟩, .int .i64 id, .int .i64 a, .int .i64 b, .int .i64 c, .string ⟨st.toArray⟩]) (vs := evVals ⟨k, u, o, id, ⟨a, b, c, st⟩⟩) rfl 29 (B := w.heap.size + 1) (by simp)).later b000)
  have C3 := Lib.hid (cellsAt_made (w := (w.alloc (.cells #[.slice ax s.e.length cx, .slice ay s.s.length cy] 25)).alloc (.cells #[.int .i64 k, .string ⟨u.toArray⟩, .string ⟨o.toArray⟩, .int .i64 id, .int .i64 a, .int .i64 b, .int .i64 c, .string ⟨st.toArray⟩] 29)) (cs := #[.string ⟨p.toArray⟩, .string ⟨q.toArray⟩]) (vs := [.string ⟨p.toArray⟩, .string ⟨q.toArray⟩]) rfl 47 (B := w.heap.size + 1 + 1) (by simp))
  have V := Lib.hid (h.later HB.out)
  clear b0 b00 b000 h
  have H1 := Lib.hid hs
  obtain ⟨c0, c1⟩ := twoM C1.out
  obtain ⟨f0, f1, f2, f3, f4, f5, f6, f7⟩ := eightT C2.out
  obtain ⟨d0, d1⟩ := twoM C3.out
  go_enter Tryz.func5, Tryz.ntmps5
  go_wp2_with fail
  clear c0 c1 d0 d1 f0 f1 f2 f3 f4 f5 f6 f7
  refine (fewst_any V.out H1).mono ?_
  rintro e w1 ⟨rfl, b1⟩
  replace HB := Lib.hid (below2Z HB.out b1)
  clear b1
  go_wp2_with fail
  refine (live14 _).mono ?_
  rintro e w2 ⟨rfl, b2⟩
  replace HB := Lib.hid (below2Z HB.out b2)
  clear b2
  go_wp2_with fail
  go_ret
  exact ⟨rfl, HB.out⟩

set_option maxHeartbeats 6400000 in
set_option maxRecDepth 100000 in
theorem smay_2 {w : World} {x y : Value} {s : Sta} (h : StAt w x y s) (k : Int) (u o st : List UInt8) (id a b c : Int) (p q : List UInt8) (hs : fewSta s = true) (hm : stMay s = false) :
    Calls Tryz.prog 5 #[.agg #[x, y], .agg #[.int .i64 k, .string ⟨u.toArray⟩, .string ⟨o.toArray⟩, .int .i64 id, .int .i64 a, .int .i64 b, .int .i64 c, .string ⟨st.toArray⟩], .agg #[.string ⟨p.toArray⟩, .string ⟨q.toArray⟩]] w fun e w' => e = .returned (.bool true) ∧ Below w.heap.size w w' := by
  obtain ⟨ax, cx, rfl, -⟩ := h.1.open'
  obtain ⟨ay, cy, rfl, -⟩ := RdS.open' h.2
  have b0 := bl_newZ w (.cells #[.slice ax s.e.length cx, .slice ay s.s.length cy] 25)
  have b00 := bl_newZ (w.alloc (.cells #[.slice ax s.e.length cx, .slice ay s.s.length cy] 25)) (.cells #[.int .i64 k, .string ⟨u.toArray⟩, .string ⟨o.toArray⟩, .int .i64 id, .int .i64 a, .int .i64 b, .int .i64 c, .string ⟨st.toArray⟩] 29)
  have b000 := bl_newZ ((w.alloc (.cells #[.slice ax s.e.length cx, .slice ay s.s.length cy] 25)).alloc (.cells #[.int .i64 k, .string ⟨u.toArray⟩, .string ⟨o.toArray⟩, .int .i64 id, .int .i64 a, .int .i64 b, .int .i64 c, .string ⟨st.toArray⟩] 29)) (.cells #[.string ⟨p.toArray⟩, .string ⟨q.toArray⟩] 47)
  have HB := Lib.hid (below2Z (below2Z b0 b00) b000)
  have C1 := Lib.hid (((cellsAt_made (w := w) (cs := #[.slice ax s.e.length cx, .slice ay s.s.length cy]) (vs := [.slice ax s.e.length cx, .slice ay s.s.length cy]) rfl 25 rfl).later b00).later b000)
  have C2 := Lib.hid ((cellsAt_made (w := w.alloc (.cells #[.slice ax s.e.length cx, .slice ay s.s.length cy] 25)) (cs := #[.int .i64 k, .string ⟨u.toArray⟩, .string ⟨o.toArray⟩, .int .i64 id, .int .i64 a, .int .i64 b, .int .i64 c, .string ⟨st.toArray⟩]) (vs := evVals ⟨k, u, o, id, ⟨a, b, c, st⟩⟩) rfl 29 (B := w.heap.size + 1) (by simp)).later b000)
  have C3 := Lib.hid (cellsAt_made (w := (w.alloc (.cells #[.slice ax s.e.length cx, .slice ay s.s.length cy] 25)).alloc (.cells #[.int .i64 k, .string ⟨u.toArray⟩, .string ⟨o.toArray⟩, .int .i64 id, .int .i64 a, .int .i64 b, .int .i64 c, .string ⟨st.toArray⟩] 29)) (cs := #[.string ⟨p.toArray⟩, .string ⟨q.toArray⟩]) (vs := [.string ⟨p.toArray⟩, .string ⟨q.toArray⟩]) rfl 47 (B := w.heap.size + 1 + 1) (by simp))
  have V := Lib.hid (h.later HB.out)
  clear b0 b00 b000 h
  have H1 := Lib.hid hs
  have HS := Lib.hid (fewSta_getM hs)
  have HM := Lib.hid hm
  obtain ⟨c0, c1⟩ := twoM C1.out
  obtain ⟨f0, f1, f2, f3, f4, f5, f6, f7⟩ := eightT C2.out
  obtain ⟨d0, d1⟩ := twoM C3.out
  go_enter Tryz.func5, Tryz.ntmps5
  go_wp2_with fail
  clear c0 c1 d0 d1 f0 f1 f2 f3 f4 f5 f6 f7
  refine (fewst_any V.out H1).mono ?_
  rintro e w1 ⟨rfl, b1⟩
  replace V := Lib.hid (V.out.later b1)
  replace C1 := Lib.hid (C1.out.later b1)
  replace C2 := Lib.hid (C2.out.later b1)
  replace C3 := Lib.hid (C3.out.later b1)
  replace HB := Lib.hid (below2Z HB.out b1)
  clear b1
  obtain ⟨c0, c1⟩ := twoM C1.out
  obtain ⟨f0, f1, f2, f3, f4, f5, f6, f7⟩ := eightT C2.out
  obtain ⟨d0, d1⟩ := twoM C3.out
  go_wp2_with fail
  clear c0 c1 d0 d1 f0 f1 f2 f3 f4 f5 f6 f7
  refine (rstmay_any V.out HS.out.1 (Nat.le_trans HS.out.2.1 (by decide)) HS.out.2.2.1 HM).mono ?_
  rintro e w2 ⟨rfl, b2⟩
  replace HB := Lib.hid (below2Z HB.out b2)
  clear b2
  go_wp2_with fail
  refine (live14 _).mono ?_
  rintro e w3 ⟨rfl, b3⟩
  replace HB := Lib.hid (below2Z HB.out b3)
  clear b3
  go_wp2_with fail
  go_ret
  exact ⟨rfl, HB.out⟩

set_option maxHeartbeats 6400000 in
set_option maxRecDepth 100000 in
theorem smay_3 {w : World} {x y : Value} {s : Sta} (h : StAt w x y s) (k : Int) (u o st : List UInt8) (id a b c : Int) (p q : List UInt8) (hs : fewSta s = true) (hm : stMay s = true) (he : shortEv ⟨k, u, o, id, ⟨a, b, c, st⟩⟩ = false) :
    Calls Tryz.prog 5 #[.agg #[x, y], .agg #[.int .i64 k, .string ⟨u.toArray⟩, .string ⟨o.toArray⟩, .int .i64 id, .int .i64 a, .int .i64 b, .int .i64 c, .string ⟨st.toArray⟩], .agg #[.string ⟨p.toArray⟩, .string ⟨q.toArray⟩]] w fun e w' => e = .returned (.bool true) ∧ Below w.heap.size w w' := by
  obtain ⟨ax, cx, rfl, -⟩ := h.1.open'
  obtain ⟨ay, cy, rfl, -⟩ := RdS.open' h.2
  have b0 := bl_newZ w (.cells #[.slice ax s.e.length cx, .slice ay s.s.length cy] 25)
  have b00 := bl_newZ (w.alloc (.cells #[.slice ax s.e.length cx, .slice ay s.s.length cy] 25)) (.cells #[.int .i64 k, .string ⟨u.toArray⟩, .string ⟨o.toArray⟩, .int .i64 id, .int .i64 a, .int .i64 b, .int .i64 c, .string ⟨st.toArray⟩] 29)
  have b000 := bl_newZ ((w.alloc (.cells #[.slice ax s.e.length cx, .slice ay s.s.length cy] 25)).alloc (.cells #[.int .i64 k, .string ⟨u.toArray⟩, .string ⟨o.toArray⟩, .int .i64 id, .int .i64 a, .int .i64 b, .int .i64 c, .string ⟨st.toArray⟩] 29)) (.cells #[.string ⟨p.toArray⟩, .string ⟨q.toArray⟩] 47)
  have HB := Lib.hid (below2Z (below2Z b0 b00) b000)
  have C1 := Lib.hid (((cellsAt_made (w := w) (cs := #[.slice ax s.e.length cx, .slice ay s.s.length cy]) (vs := [.slice ax s.e.length cx, .slice ay s.s.length cy]) rfl 25 rfl).later b00).later b000)
  have C2 := Lib.hid ((cellsAt_made (w := w.alloc (.cells #[.slice ax s.e.length cx, .slice ay s.s.length cy] 25)) (cs := #[.int .i64 k, .string ⟨u.toArray⟩, .string ⟨o.toArray⟩, .int .i64 id, .int .i64 a, .int .i64 b, .int .i64 c, .string ⟨st.toArray⟩]) (vs := evVals ⟨k, u, o, id, ⟨a, b, c, st⟩⟩) rfl 29 (B := w.heap.size + 1) (by simp)).later b000)
  have C3 := Lib.hid (cellsAt_made (w := (w.alloc (.cells #[.slice ax s.e.length cx, .slice ay s.s.length cy] 25)).alloc (.cells #[.int .i64 k, .string ⟨u.toArray⟩, .string ⟨o.toArray⟩, .int .i64 id, .int .i64 a, .int .i64 b, .int .i64 c, .string ⟨st.toArray⟩] 29)) (cs := #[.string ⟨p.toArray⟩, .string ⟨q.toArray⟩]) (vs := [.string ⟨p.toArray⟩, .string ⟨q.toArray⟩]) rfl 47 (B := w.heap.size + 1 + 1) (by simp))
  have V := Lib.hid (h.later HB.out)
  clear b0 b00 b000 h
  have H1 := Lib.hid hs
  have HS := Lib.hid (fewSta_getM hs)
  have HM := Lib.hid hm
  have H3 := Lib.hid he
  obtain ⟨c0, c1⟩ := twoM C1.out
  obtain ⟨f0, f1, f2, f3, f4, f5, f6, f7⟩ := eightT C2.out
  obtain ⟨d0, d1⟩ := twoM C3.out
  go_enter Tryz.func5, Tryz.ntmps5
  go_wp2_with fail
  clear c0 c1 d0 d1 f0 f1 f2 f3 f4 f5 f6 f7
  refine (fewst_any V.out H1).mono ?_
  rintro e w1 ⟨rfl, b1⟩
  replace V := Lib.hid (V.out.later b1)
  replace C1 := Lib.hid (C1.out.later b1)
  replace C2 := Lib.hid (C2.out.later b1)
  replace C3 := Lib.hid (C3.out.later b1)
  replace HB := Lib.hid (below2Z HB.out b1)
  clear b1
  obtain ⟨c0, c1⟩ := twoM C1.out
  obtain ⟨f0, f1, f2, f3, f4, f5, f6, f7⟩ := eightT C2.out
  obtain ⟨d0, d1⟩ := twoM C3.out
  go_wp2_with fail
  clear c0 c1 d0 d1 f0 f1 f2 f3 f4 f5 f6 f7
  refine (rstmay_any V.out HS.out.1 (Nat.le_trans HS.out.2.1 (by decide)) HS.out.2.2.1 HM).mono ?_
  rintro e w2 ⟨rfl, b2⟩
  replace V := Lib.hid (V.out.later b2)
  replace C1 := Lib.hid (C1.out.later b2)
  replace C2 := Lib.hid (C2.out.later b2)
  replace C3 := Lib.hid (C3.out.later b2)
  replace HB := Lib.hid (below2Z HB.out b2)
  clear b2
  obtain ⟨c0, c1⟩ := twoM C1.out
  obtain ⟨f0, f1, f2, f3, f4, f5, f6, f7⟩ := eightT C2.out
  obtain ⟨d0, d1⟩ := twoM C3.out
  go_wp2_with fail
  clear c0 c1 d0 d1 f0 f1 f2 f3 f4 f5 f6 f7
  refine (short14_any k u o st id a b c H3 _).mono ?_
  rintro e w3 ⟨rfl, b3⟩
  replace HB := Lib.hid (below2Z HB.out b3)
  clear b3
  go_wp2_with fail
  refine (live14 _).mono ?_
  rintro e w4 ⟨rfl, b4⟩
  replace HB := Lib.hid (below2Z HB.out b4)
  clear b4
  go_wp2_with fail
  go_ret
  exact ⟨rfl, HB.out⟩

set_option maxHeartbeats 6400000 in
set_option maxRecDepth 100000 in
theorem smay_4 {w : World} {x y : Value} {s : Sta} (h : StAt w x y s) (k : Int) (u o st : List UInt8) (id a b c : Int) (p q : List UInt8) (hs : fewSta s = true) (hm : stMay s = true) (he : shortEv ⟨k, u, o, id, ⟨a, b, c, st⟩⟩ = true) (h1 : ¬ p.length ≤ 40) :
    Calls Tryz.prog 5 #[.agg #[x, y], .agg #[.int .i64 k, .string ⟨u.toArray⟩, .string ⟨o.toArray⟩, .int .i64 id, .int .i64 a, .int .i64 b, .int .i64 c, .string ⟨st.toArray⟩], .agg #[.string ⟨p.toArray⟩, .string ⟨q.toArray⟩]] w fun e w' => e = .returned (.bool true) ∧ Below w.heap.size w w' := by
  obtain ⟨ax, cx, rfl, -⟩ := h.1.open'
  obtain ⟨ay, cy, rfl, -⟩ := RdS.open' h.2
  have b0 := bl_newZ w (.cells #[.slice ax s.e.length cx, .slice ay s.s.length cy] 25)
  have b00 := bl_newZ (w.alloc (.cells #[.slice ax s.e.length cx, .slice ay s.s.length cy] 25)) (.cells #[.int .i64 k, .string ⟨u.toArray⟩, .string ⟨o.toArray⟩, .int .i64 id, .int .i64 a, .int .i64 b, .int .i64 c, .string ⟨st.toArray⟩] 29)
  have b000 := bl_newZ ((w.alloc (.cells #[.slice ax s.e.length cx, .slice ay s.s.length cy] 25)).alloc (.cells #[.int .i64 k, .string ⟨u.toArray⟩, .string ⟨o.toArray⟩, .int .i64 id, .int .i64 a, .int .i64 b, .int .i64 c, .string ⟨st.toArray⟩] 29)) (.cells #[.string ⟨p.toArray⟩, .string ⟨q.toArray⟩] 47)
  have HB := Lib.hid (below2Z (below2Z b0 b00) b000)
  have C1 := Lib.hid (((cellsAt_made (w := w) (cs := #[.slice ax s.e.length cx, .slice ay s.s.length cy]) (vs := [.slice ax s.e.length cx, .slice ay s.s.length cy]) rfl 25 rfl).later b00).later b000)
  have C2 := Lib.hid ((cellsAt_made (w := w.alloc (.cells #[.slice ax s.e.length cx, .slice ay s.s.length cy] 25)) (cs := #[.int .i64 k, .string ⟨u.toArray⟩, .string ⟨o.toArray⟩, .int .i64 id, .int .i64 a, .int .i64 b, .int .i64 c, .string ⟨st.toArray⟩]) (vs := evVals ⟨k, u, o, id, ⟨a, b, c, st⟩⟩) rfl 29 (B := w.heap.size + 1) (by simp)).later b000)
  have C3 := Lib.hid (cellsAt_made (w := (w.alloc (.cells #[.slice ax s.e.length cx, .slice ay s.s.length cy] 25)).alloc (.cells #[.int .i64 k, .string ⟨u.toArray⟩, .string ⟨o.toArray⟩, .int .i64 id, .int .i64 a, .int .i64 b, .int .i64 c, .string ⟨st.toArray⟩] 29)) (cs := #[.string ⟨p.toArray⟩, .string ⟨q.toArray⟩]) (vs := [.string ⟨p.toArray⟩, .string ⟨q.toArray⟩]) rfl 47 (B := w.heap.size + 1 + 1) (by simp))
  have V := Lib.hid (h.later HB.out)
  clear b0 b00 b000 h
  have H1 := Lib.hid hs
  have HS := Lib.hid (fewSta_getM hs)
  have HM := Lib.hid hm
  have H3 := Lib.hid he
  have tp : decide ((40 : Int) < (p.length : Int)) = true := by rw [decide_eq_true_eq]; omega
  obtain ⟨c0, c1⟩ := twoM C1.out
  obtain ⟨f0, f1, f2, f3, f4, f5, f6, f7⟩ := eightT C2.out
  obtain ⟨d0, d1⟩ := twoM C3.out
  go_enter Tryz.func5, Tryz.ntmps5
  go_wp2_with fail
  clear c0 c1 d0 d1 f0 f1 f2 f3 f4 f5 f6 f7
  refine (fewst_any V.out H1).mono ?_
  rintro e w1 ⟨rfl, b1⟩
  replace V := Lib.hid (V.out.later b1)
  replace C1 := Lib.hid (C1.out.later b1)
  replace C2 := Lib.hid (C2.out.later b1)
  replace C3 := Lib.hid (C3.out.later b1)
  replace HB := Lib.hid (below2Z HB.out b1)
  clear b1
  obtain ⟨c0, c1⟩ := twoM C1.out
  obtain ⟨f0, f1, f2, f3, f4, f5, f6, f7⟩ := eightT C2.out
  obtain ⟨d0, d1⟩ := twoM C3.out
  go_wp2_with fail
  clear c0 c1 d0 d1 f0 f1 f2 f3 f4 f5 f6 f7
  refine (rstmay_any V.out HS.out.1 (Nat.le_trans HS.out.2.1 (by decide)) HS.out.2.2.1 HM).mono ?_
  rintro e w2 ⟨rfl, b2⟩
  replace V := Lib.hid (V.out.later b2)
  replace C1 := Lib.hid (C1.out.later b2)
  replace C2 := Lib.hid (C2.out.later b2)
  replace C3 := Lib.hid (C3.out.later b2)
  replace HB := Lib.hid (below2Z HB.out b2)
  clear b2
  obtain ⟨c0, c1⟩ := twoM C1.out
  obtain ⟨f0, f1, f2, f3, f4, f5, f6, f7⟩ := eightT C2.out
  obtain ⟨d0, d1⟩ := twoM C3.out
  go_wp2_with fail
  clear c0 c1 d0 d1 f0 f1 f2 f3 f4 f5 f6 f7
  refine (short14_any k u o st id a b c H3 _).mono ?_
  rintro e w3 ⟨rfl, b3⟩
  replace V := Lib.hid (V.out.later b3)
  replace C1 := Lib.hid (C1.out.later b3)
  replace C2 := Lib.hid (C2.out.later b3)
  replace C3 := Lib.hid (C3.out.later b3)
  replace HB := Lib.hid (below2Z HB.out b3)
  clear b3
  obtain ⟨c0, c1⟩ := twoM C1.out
  obtain ⟨f0, f1, f2, f3, f4, f5, f6, f7⟩ := eightT C2.out
  obtain ⟨d0, d1⟩ := twoM C3.out
  go_wp2_with fail
  refine (live14 _).mono ?_
  rintro e w4 ⟨rfl, b4⟩
  replace HB := Lib.hid (below2Z HB.out b4)
  clear b4
  go_wp2_with fail
  go_ret
  exact ⟨rfl, HB.out⟩

set_option maxHeartbeats 6400000 in
set_option maxRecDepth 100000 in
theorem smay_5 {w : World} {x y : Value} {s : Sta} (h : StAt w x y s) (k : Int) (u o st : List UInt8) (id a b c : Int) (p q : List UInt8) (hs : fewSta s = true) (hm : stMay s = true) (he : shortEv ⟨k, u, o, id, ⟨a, b, c, st⟩⟩ = true) (h1 : p.length ≤ 40) (h2 : ¬ q.length ≤ 40) :
    Calls Tryz.prog 5 #[.agg #[x, y], .agg #[.int .i64 k, .string ⟨u.toArray⟩, .string ⟨o.toArray⟩, .int .i64 id, .int .i64 a, .int .i64 b, .int .i64 c, .string ⟨st.toArray⟩], .agg #[.string ⟨p.toArray⟩, .string ⟨q.toArray⟩]] w fun e w' => e = .returned (.bool true) ∧ Below w.heap.size w w' := by
  obtain ⟨ax, cx, rfl, -⟩ := h.1.open'
  obtain ⟨ay, cy, rfl, -⟩ := RdS.open' h.2
  have b0 := bl_newZ w (.cells #[.slice ax s.e.length cx, .slice ay s.s.length cy] 25)
  have b00 := bl_newZ (w.alloc (.cells #[.slice ax s.e.length cx, .slice ay s.s.length cy] 25)) (.cells #[.int .i64 k, .string ⟨u.toArray⟩, .string ⟨o.toArray⟩, .int .i64 id, .int .i64 a, .int .i64 b, .int .i64 c, .string ⟨st.toArray⟩] 29)
  have b000 := bl_newZ ((w.alloc (.cells #[.slice ax s.e.length cx, .slice ay s.s.length cy] 25)).alloc (.cells #[.int .i64 k, .string ⟨u.toArray⟩, .string ⟨o.toArray⟩, .int .i64 id, .int .i64 a, .int .i64 b, .int .i64 c, .string ⟨st.toArray⟩] 29)) (.cells #[.string ⟨p.toArray⟩, .string ⟨q.toArray⟩] 47)
  have HB := Lib.hid (below2Z (below2Z b0 b00) b000)
  have C1 := Lib.hid (((cellsAt_made (w := w) (cs := #[.slice ax s.e.length cx, .slice ay s.s.length cy]) (vs := [.slice ax s.e.length cx, .slice ay s.s.length cy]) rfl 25 rfl).later b00).later b000)
  have C2 := Lib.hid ((cellsAt_made (w := w.alloc (.cells #[.slice ax s.e.length cx, .slice ay s.s.length cy] 25)) (cs := #[.int .i64 k, .string ⟨u.toArray⟩, .string ⟨o.toArray⟩, .int .i64 id, .int .i64 a, .int .i64 b, .int .i64 c, .string ⟨st.toArray⟩]) (vs := evVals ⟨k, u, o, id, ⟨a, b, c, st⟩⟩) rfl 29 (B := w.heap.size + 1) (by simp)).later b000)
  have C3 := Lib.hid (cellsAt_made (w := (w.alloc (.cells #[.slice ax s.e.length cx, .slice ay s.s.length cy] 25)).alloc (.cells #[.int .i64 k, .string ⟨u.toArray⟩, .string ⟨o.toArray⟩, .int .i64 id, .int .i64 a, .int .i64 b, .int .i64 c, .string ⟨st.toArray⟩] 29)) (cs := #[.string ⟨p.toArray⟩, .string ⟨q.toArray⟩]) (vs := [.string ⟨p.toArray⟩, .string ⟨q.toArray⟩]) rfl 47 (B := w.heap.size + 1 + 1) (by simp))
  have V := Lib.hid (h.later HB.out)
  clear b0 b00 b000 h
  have H1 := Lib.hid hs
  have HS := Lib.hid (fewSta_getM hs)
  have HM := Lib.hid hm
  have H3 := Lib.hid he
  have tp : decide ((40 : Int) < (p.length : Int)) = false := by rw [decide_eq_false_iff_not]; omega
  have tq : decide ((40 : Int) < (q.length : Int)) = true := by rw [decide_eq_true_eq]; omega
  obtain ⟨c0, c1⟩ := twoM C1.out
  obtain ⟨f0, f1, f2, f3, f4, f5, f6, f7⟩ := eightT C2.out
  obtain ⟨d0, d1⟩ := twoM C3.out
  go_enter Tryz.func5, Tryz.ntmps5
  go_wp2_with fail
  clear c0 c1 d0 d1 f0 f1 f2 f3 f4 f5 f6 f7
  refine (fewst_any V.out H1).mono ?_
  rintro e w1 ⟨rfl, b1⟩
  replace V := Lib.hid (V.out.later b1)
  replace C1 := Lib.hid (C1.out.later b1)
  replace C2 := Lib.hid (C2.out.later b1)
  replace C3 := Lib.hid (C3.out.later b1)
  replace HB := Lib.hid (below2Z HB.out b1)
  clear b1
  obtain ⟨c0, c1⟩ := twoM C1.out
  obtain ⟨f0, f1, f2, f3, f4, f5, f6, f7⟩ := eightT C2.out
  obtain ⟨d0, d1⟩ := twoM C3.out
  go_wp2_with fail
  clear c0 c1 d0 d1 f0 f1 f2 f3 f4 f5 f6 f7
  refine (rstmay_any V.out HS.out.1 (Nat.le_trans HS.out.2.1 (by decide)) HS.out.2.2.1 HM).mono ?_
  rintro e w2 ⟨rfl, b2⟩
  replace V := Lib.hid (V.out.later b2)
  replace C1 := Lib.hid (C1.out.later b2)
  replace C2 := Lib.hid (C2.out.later b2)
  replace C3 := Lib.hid (C3.out.later b2)
  replace HB := Lib.hid (below2Z HB.out b2)
  clear b2
  obtain ⟨c0, c1⟩ := twoM C1.out
  obtain ⟨f0, f1, f2, f3, f4, f5, f6, f7⟩ := eightT C2.out
  obtain ⟨d0, d1⟩ := twoM C3.out
  go_wp2_with fail
  clear c0 c1 d0 d1 f0 f1 f2 f3 f4 f5 f6 f7
  refine (short14_any k u o st id a b c H3 _).mono ?_
  rintro e w3 ⟨rfl, b3⟩
  replace V := Lib.hid (V.out.later b3)
  replace C1 := Lib.hid (C1.out.later b3)
  replace C2 := Lib.hid (C2.out.later b3)
  replace C3 := Lib.hid (C3.out.later b3)
  replace HB := Lib.hid (below2Z HB.out b3)
  clear b3
  obtain ⟨c0, c1⟩ := twoM C1.out
  obtain ⟨f0, f1, f2, f3, f4, f5, f6, f7⟩ := eightT C2.out
  obtain ⟨d0, d1⟩ := twoM C3.out
  go_wp2_with fail
  refine (live14 _).mono ?_
  rintro e w4 ⟨rfl, b4⟩
  replace HB := Lib.hid (below2Z HB.out b4)
  clear b4
  go_wp2_with fail
  go_ret
  exact ⟨rfl, HB.out⟩

set_option maxHeartbeats 6400000 in
set_option maxRecDepth 100000 in
theorem smay_6 {w : World} {x y : Value} {s : Sta} (h : StAt w x y s) (k : Int) (u o st : List UInt8) (id a b c : Int) (p q : List UInt8) (hs : fewSta s = true) (hm : stMay s = true) (he : shortEv ⟨k, u, o, id, ⟨a, b, c, st⟩⟩ = true) (h1 : p.length ≤ 40) (h2 : q.length ≤ 40) {s9 : Sta} {n : Nat} (hd : stApply s ⟨k, u, o, id, ⟨a, b, c, st⟩⟩ = (s9, n)) (hn : n ≠ 0) :
    Calls Tryz.prog 5 #[.agg #[x, y], .agg #[.int .i64 k, .string ⟨u.toArray⟩, .string ⟨o.toArray⟩, .int .i64 id, .int .i64 a, .int .i64 b, .int .i64 c, .string ⟨st.toArray⟩], .agg #[.string ⟨p.toArray⟩, .string ⟨q.toArray⟩]] w fun e w' => e = .returned (.bool true) ∧ Below w.heap.size w w' := by
  obtain ⟨ax, cx, rfl, -⟩ := h.1.open'
  obtain ⟨ay, cy, rfl, -⟩ := RdS.open' h.2
  have b0 := bl_newZ w (.cells #[.slice ax s.e.length cx, .slice ay s.s.length cy] 25)
  have b00 := bl_newZ (w.alloc (.cells #[.slice ax s.e.length cx, .slice ay s.s.length cy] 25)) (.cells #[.int .i64 k, .string ⟨u.toArray⟩, .string ⟨o.toArray⟩, .int .i64 id, .int .i64 a, .int .i64 b, .int .i64 c, .string ⟨st.toArray⟩] 29)
  have b000 := bl_newZ ((w.alloc (.cells #[.slice ax s.e.length cx, .slice ay s.s.length cy] 25)).alloc (.cells #[.int .i64 k, .string ⟨u.toArray⟩, .string ⟨o.toArray⟩, .int .i64 id, .int .i64 a, .int .i64 b, .int .i64 c, .string ⟨st.toArray⟩] 29)) (.cells #[.string ⟨p.toArray⟩, .string ⟨q.toArray⟩] 47)
  have HB := Lib.hid (below2Z (below2Z b0 b00) b000)
  have C1 := Lib.hid (((cellsAt_made (w := w) (cs := #[.slice ax s.e.length cx, .slice ay s.s.length cy]) (vs := [.slice ax s.e.length cx, .slice ay s.s.length cy]) rfl 25 rfl).later b00).later b000)
  have C2 := Lib.hid ((cellsAt_made (w := w.alloc (.cells #[.slice ax s.e.length cx, .slice ay s.s.length cy] 25)) (cs := #[.int .i64 k, .string ⟨u.toArray⟩, .string ⟨o.toArray⟩, .int .i64 id, .int .i64 a, .int .i64 b, .int .i64 c, .string ⟨st.toArray⟩]) (vs := evVals ⟨k, u, o, id, ⟨a, b, c, st⟩⟩) rfl 29 (B := w.heap.size + 1) (by simp)).later b000)
  have C3 := Lib.hid (cellsAt_made (w := (w.alloc (.cells #[.slice ax s.e.length cx, .slice ay s.s.length cy] 25)).alloc (.cells #[.int .i64 k, .string ⟨u.toArray⟩, .string ⟨o.toArray⟩, .int .i64 id, .int .i64 a, .int .i64 b, .int .i64 c, .string ⟨st.toArray⟩] 29)) (cs := #[.string ⟨p.toArray⟩, .string ⟨q.toArray⟩]) (vs := [.string ⟨p.toArray⟩, .string ⟨q.toArray⟩]) rfl 47 (B := w.heap.size + 1 + 1) (by simp))
  have V := Lib.hid (h.later HB.out)
  clear b0 b00 b000 h
  have H1 := Lib.hid hs
  have HS := Lib.hid (fewSta_getM hs)
  have HM := Lib.hid hm
  have H3 := Lib.hid he
  have HE := Lib.hid (shortEv_get he)
  have HD := Lib.hid hd
  have tp : decide ((40 : Int) < (p.length : Int)) = false := by rw [decide_eq_false_iff_not]; omega
  have tq : decide ((40 : Int) < (q.length : Int)) = false := by rw [decide_eq_false_iff_not]; omega
  have ES9 : Hid (staSame s s9 = true) := Lib.hid (by rw [stApply_err hd hn]; exact staSame_self s)
  have t9 : ((n : Int) != 0) = true := by rw [bne_iff_ne]; omega
  clear hd hs hm he
  obtain ⟨c0, c1⟩ := twoM C1.out
  obtain ⟨f0, f1, f2, f3, f4, f5, f6, f7⟩ := eightT C2.out
  obtain ⟨d0, d1⟩ := twoM C3.out
  go_enter Tryz.func5, Tryz.ntmps5
  go_wp2_with fail
  clear c0 c1 d0 d1 f0 f1 f2 f3 f4 f5 f6 f7
  refine (fewst_any V.out H1).mono ?_
  rintro e w1 ⟨rfl, b1⟩
  replace V := Lib.hid (V.out.later b1)
  replace C1 := Lib.hid (C1.out.later b1)
  replace C2 := Lib.hid (C2.out.later b1)
  replace C3 := Lib.hid (C3.out.later b1)
  replace HB := Lib.hid (below2Z HB.out b1)
  clear b1
  obtain ⟨c0, c1⟩ := twoM C1.out
  obtain ⟨f0, f1, f2, f3, f4, f5, f6, f7⟩ := eightT C2.out
  obtain ⟨d0, d1⟩ := twoM C3.out
  go_wp2_with fail
  clear c0 c1 d0 d1 f0 f1 f2 f3 f4 f5 f6 f7
  refine (rstmay_any V.out HS.out.1 (Nat.le_trans HS.out.2.1 (by decide)) HS.out.2.2.1 HM).mono ?_
  rintro e w2 ⟨rfl, b2⟩
  replace V := Lib.hid (V.out.later b2)
  replace C1 := Lib.hid (C1.out.later b2)
  replace C2 := Lib.hid (C2.out.later b2)
  replace C3 := Lib.hid (C3.out.later b2)
  replace HB := Lib.hid (below2Z HB.out b2)
  clear b2
  obtain ⟨c0, c1⟩ := twoM C1.out
  obtain ⟨f0, f1, f2, f3, f4, f5, f6, f7⟩ := eightT C2.out
  obtain ⟨d0, d1⟩ := twoM C3.out
  go_wp2_with fail
  clear c0 c1 d0 d1 f0 f1 f2 f3 f4 f5 f6 f7
  refine (short14_any k u o st id a b c H3 _).mono ?_
  rintro e w3 ⟨rfl, b3⟩
  replace V := Lib.hid (V.out.later b3)
  replace C1 := Lib.hid (C1.out.later b3)
  replace C2 := Lib.hid (C2.out.later b3)
  replace C3 := Lib.hid (C3.out.later b3)
  replace HB := Lib.hid (below2Z HB.out b3)
  clear b3
  obtain ⟨c0, c1⟩ := twoM C1.out
  obtain ⟨f0, f1, f2, f3, f4, f5, f6, f7⟩ := eightT C2.out
  obtain ⟨d0, d1⟩ := twoM C3.out
  go_wp2_with fail
  clear c0 c1 d0 d1 f0 f1 f2 f3 f4 f5 f6 f7
  refine (stdo_any (t' := s9) V.out HS.out.1 (by have := HS.out.2.1; omega) HS.out.2.2.1 ⟨k, u, o, id, ⟨a, b, c, st⟩⟩ (by have := HE.out.1; exact Nat.le_trans this (by decide)) (by have := HE.out.2.1; exact Nat.le_trans this (by decide)) (by have := HE.out.2.2; exact Nat.le_trans this (by decide)) HD.out).mono ?_
  rintro e w4 ⟨x4, y4, rfl, h4, b4⟩
  obtain ⟨p4, g4, rfl, -⟩ := h4.1.open'
  obtain ⟨q4, l4, rfl, -⟩ := RdS.open' h4.2
  have bb := below2Z b4 (bl_newZ w4 (.cells #[.slice p4 s9.e.length g4, .slice q4 s9.s.length l4] 25))
  replace V := Lib.hid (V.out.later bb)
  replace C1 := Lib.hid (C1.out.later bb)
  replace C2 := Lib.hid (C2.out.later bb)
  replace C3 := Lib.hid (C3.out.later bb)
  replace HB := Lib.hid (below2Z HB.out bb)
  have X4 := Lib.hid (h4.later (bl_newZ w4 (.cells #[.slice p4 s9.e.length g4, .slice q4 s9.s.length l4] 25)))
  have C4 := Lib.hid (cellsAt_made (w := w4) (cs := #[.slice p4 s9.e.length g4, .slice q4 s9.s.length l4]) (vs := [.slice p4 s9.e.length g4, .slice q4 s9.s.length l4]) rfl 25 rfl)
  clear bb b4 h4
  obtain ⟨c0, c1⟩ := twoM C1.out
  obtain ⟨f0, f1, f2, f3, f4, f5, f6, f7⟩ := eightT C2.out
  obtain ⟨d0, d1⟩ := twoM C3.out
  obtain ⟨r0, r1⟩ := twoM C4.out
  go_upto_region 5 with fail
  generalize hW : w4.alloc (.cells #[.slice p4 s9.e.length g4, .slice q4 s9.s.length l4] 25) = W4 at HB V C1 C2 C3 X4 C4 c0 c1 d0 d1 f0 f1 f2 f3 f4 f5 f6 f7 r0 r1 ⊢
  generalize hP : w4.heap.size = P at C4 r0 r1 ⊢
  clear hW hP
  go_wp2_with fail
  refine (rstsame_any V.out X4.out ES9).mono ?_
  rintro e w4 ⟨rfl, b4⟩
  replace HB := Lib.hid (below2Z HB.out b4)
  clear b4
  go_wp2_with fail
  refine (live14 _).mono ?_
  rintro e w5 ⟨rfl, b5⟩
  replace HB := Lib.hid (below2Z HB.out b5)
  clear b5
  go_wp2_with fail
  go_ret
  exact ⟨rfl, HB.out⟩

set_option maxHeartbeats 6400000 in
set_option maxRecDepth 100000 in
theorem smay_7 {w : World} {x y : Value} {s : Sta} (h : StAt w x y s) (k : Int) (u o st : List UInt8) (id a b c : Int) (p q : List UInt8) (hs : fewSta s = true) (hm : stMay s = true) (he : shortEv ⟨k, u, o, id, ⟨a, b, c, st⟩⟩ = true) (h1 : p.length ≤ 40) (h2 : q.length ≤ 40) {s9 : Sta} (hd : stApply s ⟨k, u, o, id, ⟨a, b, c, st⟩⟩ = (s9, 0)) (hz : staSame s s9 = false) :
    Calls Tryz.prog 5 #[.agg #[x, y], .agg #[.int .i64 k, .string ⟨u.toArray⟩, .string ⟨o.toArray⟩, .int .i64 id, .int .i64 a, .int .i64 b, .int .i64 c, .string ⟨st.toArray⟩], .agg #[.string ⟨p.toArray⟩, .string ⟨q.toArray⟩]] w fun e w' => e = .returned (.bool true) ∧ Below w.heap.size w w' := by
  have hov := stOK_may (stApply_may hd)
  have hm9 := stApply_may hd
  have hl9 := st_len hd
  obtain ⟨T, hT⟩ : ∃ T, stTouch ⟨k, u, o, id, ⟨a, b, c, st⟩⟩ = T := ⟨_, rfl⟩
  have hTl : T.length ≤ 2 := hT ▸ stTouch_len ⟨k, u, o, id, ⟨a, b, c, st⟩⟩
  have hle : p ∉ T → seOf s9.s p = seOf s.s p ∧ ∀ q, roGet s9.e p q = roGet s.e p q := fun h => st_leaves hd (by rw [hT]; exact h)
  have HO9 := Lib.hid hov
  have HM9 := Lib.hid hm9
  have HL9 := Lib.hid hl9
  have HT := Lib.hid hT
  have HTL := Lib.hid hTl
  have HLE := Lib.hid hle
  clear hov hm9 hl9 hT hTl hle
  obtain ⟨ax, cx, rfl, -⟩ := h.1.open'
  obtain ⟨ay, cy, rfl, -⟩ := RdS.open' h.2
  have b0 := bl_newZ w (.cells #[.slice ax s.e.length cx, .slice ay s.s.length cy] 25)
  have b00 := bl_newZ (w.alloc (.cells #[.slice ax s.e.length cx, .slice ay s.s.length cy] 25)) (.cells #[.int .i64 k, .string ⟨u.toArray⟩, .string ⟨o.toArray⟩, .int .i64 id, .int .i64 a, .int .i64 b, .int .i64 c, .string ⟨st.toArray⟩] 29)
  have b000 := bl_newZ ((w.alloc (.cells #[.slice ax s.e.length cx, .slice ay s.s.length cy] 25)).alloc (.cells #[.int .i64 k, .string ⟨u.toArray⟩, .string ⟨o.toArray⟩, .int .i64 id, .int .i64 a, .int .i64 b, .int .i64 c, .string ⟨st.toArray⟩] 29)) (.cells #[.string ⟨p.toArray⟩, .string ⟨q.toArray⟩] 47)
  have HB := Lib.hid (below2Z (below2Z b0 b00) b000)
  have C1 := Lib.hid (((cellsAt_made (w := w) (cs := #[.slice ax s.e.length cx, .slice ay s.s.length cy]) (vs := [.slice ax s.e.length cx, .slice ay s.s.length cy]) rfl 25 rfl).later b00).later b000)
  have C2 := Lib.hid ((cellsAt_made (w := w.alloc (.cells #[.slice ax s.e.length cx, .slice ay s.s.length cy] 25)) (cs := #[.int .i64 k, .string ⟨u.toArray⟩, .string ⟨o.toArray⟩, .int .i64 id, .int .i64 a, .int .i64 b, .int .i64 c, .string ⟨st.toArray⟩]) (vs := evVals ⟨k, u, o, id, ⟨a, b, c, st⟩⟩) rfl 29 (B := w.heap.size + 1) (by simp)).later b000)
  have C3 := Lib.hid (cellsAt_made (w := (w.alloc (.cells #[.slice ax s.e.length cx, .slice ay s.s.length cy] 25)).alloc (.cells #[.int .i64 k, .string ⟨u.toArray⟩, .string ⟨o.toArray⟩, .int .i64 id, .int .i64 a, .int .i64 b, .int .i64 c, .string ⟨st.toArray⟩] 29)) (cs := #[.string ⟨p.toArray⟩, .string ⟨q.toArray⟩]) (vs := [.string ⟨p.toArray⟩, .string ⟨q.toArray⟩]) rfl 47 (B := w.heap.size + 1 + 1) (by simp))
  have V := Lib.hid (h.later HB.out)
  clear b0 b00 b000 h
  have H1 := Lib.hid hs
  have HS := Lib.hid (fewSta_getM hs)
  have HM := Lib.hid hm
  have H3 := Lib.hid he
  have HE := Lib.hid (shortEv_get he)
  have HD := Lib.hid hd
  have tp : decide ((40 : Int) < (p.length : Int)) = false := by rw [decide_eq_false_iff_not]; omega
  have tq : decide ((40 : Int) < (q.length : Int)) = false := by rw [decide_eq_false_iff_not]; omega
  have HZ := Lib.hid hz
  have t9 : (((0 : Nat) : Int) != 0) = false := by decide
  clear hd hs hm he
  obtain ⟨c0, c1⟩ := twoM C1.out
  obtain ⟨f0, f1, f2, f3, f4, f5, f6, f7⟩ := eightT C2.out
  obtain ⟨d0, d1⟩ := twoM C3.out
  go_enter Tryz.func5, Tryz.ntmps5
  go_wp2_with fail
  clear c0 c1 d0 d1 f0 f1 f2 f3 f4 f5 f6 f7
  refine (fewst_any V.out H1).mono ?_
  rintro e w1 ⟨rfl, b1⟩
  replace V := Lib.hid (V.out.later b1)
  replace C1 := Lib.hid (C1.out.later b1)
  replace C2 := Lib.hid (C2.out.later b1)
  replace C3 := Lib.hid (C3.out.later b1)
  replace HB := Lib.hid (below2Z HB.out b1)
  clear b1
  obtain ⟨c0, c1⟩ := twoM C1.out
  obtain ⟨f0, f1, f2, f3, f4, f5, f6, f7⟩ := eightT C2.out
  obtain ⟨d0, d1⟩ := twoM C3.out
  go_wp2_with fail
  clear c0 c1 d0 d1 f0 f1 f2 f3 f4 f5 f6 f7
  refine (rstmay_any V.out HS.out.1 (Nat.le_trans HS.out.2.1 (by decide)) HS.out.2.2.1 HM).mono ?_
  rintro e w2 ⟨rfl, b2⟩
  replace V := Lib.hid (V.out.later b2)
  replace C1 := Lib.hid (C1.out.later b2)
  replace C2 := Lib.hid (C2.out.later b2)
  replace C3 := Lib.hid (C3.out.later b2)
  replace HB := Lib.hid (below2Z HB.out b2)
  clear b2
  obtain ⟨c0, c1⟩ := twoM C1.out
  obtain ⟨f0, f1, f2, f3, f4, f5, f6, f7⟩ := eightT C2.out
  obtain ⟨d0, d1⟩ := twoM C3.out
  go_wp2_with fail
  clear c0 c1 d0 d1 f0 f1 f2 f3 f4 f5 f6 f7
  refine (short14_any k u o st id a b c H3 _).mono ?_
  rintro e w3 ⟨rfl, b3⟩
  replace V := Lib.hid (V.out.later b3)
  replace C1 := Lib.hid (C1.out.later b3)
  replace C2 := Lib.hid (C2.out.later b3)
  replace C3 := Lib.hid (C3.out.later b3)
  replace HB := Lib.hid (below2Z HB.out b3)
  clear b3
  obtain ⟨c0, c1⟩ := twoM C1.out
  obtain ⟨f0, f1, f2, f3, f4, f5, f6, f7⟩ := eightT C2.out
  obtain ⟨d0, d1⟩ := twoM C3.out
  go_wp2_with fail
  clear c0 c1 d0 d1 f0 f1 f2 f3 f4 f5 f6 f7
  refine (stdo_any (t' := s9) V.out HS.out.1 (by have := HS.out.2.1; omega) HS.out.2.2.1 ⟨k, u, o, id, ⟨a, b, c, st⟩⟩ (by have := HE.out.1; exact Nat.le_trans this (by decide)) (by have := HE.out.2.1; exact Nat.le_trans this (by decide)) (by have := HE.out.2.2; exact Nat.le_trans this (by decide)) HD.out).mono ?_
  rintro e w4 ⟨x4, y4, rfl, h4, b4⟩
  obtain ⟨p4, g4, rfl, -⟩ := h4.1.open'
  obtain ⟨q4, l4, rfl, -⟩ := RdS.open' h4.2
  have bb := below2Z b4 (bl_newZ w4 (.cells #[.slice p4 s9.e.length g4, .slice q4 s9.s.length l4] 25))
  replace V := Lib.hid (V.out.later bb)
  replace C1 := Lib.hid (C1.out.later bb)
  replace C2 := Lib.hid (C2.out.later bb)
  replace C3 := Lib.hid (C3.out.later bb)
  replace HB := Lib.hid (below2Z HB.out bb)
  have X4 := Lib.hid (h4.later (bl_newZ w4 (.cells #[.slice p4 s9.e.length g4, .slice q4 s9.s.length l4] 25)))
  have C4 := Lib.hid (cellsAt_made (w := w4) (cs := #[.slice p4 s9.e.length g4, .slice q4 s9.s.length l4]) (vs := [.slice p4 s9.e.length g4, .slice q4 s9.s.length l4]) rfl 25 rfl)
  clear bb b4 h4
  obtain ⟨c0, c1⟩ := twoM C1.out
  obtain ⟨f0, f1, f2, f3, f4, f5, f6, f7⟩ := eightT C2.out
  obtain ⟨d0, d1⟩ := twoM C3.out
  obtain ⟨r0, r1⟩ := twoM C4.out
  go_upto_region 6 with fail
  generalize hW : w4.alloc (.cells #[.slice p4 s9.e.length g4, .slice q4 s9.s.length l4] 25) = W4 at HB V C1 C2 C3 X4 C4 c0 c1 d0 d1 f0 f1 f2 f3 f4 f5 f6 f7 r0 r1 ⊢
  generalize hP : w4.heap.size = P at C4 r0 r1 ⊢
  clear hW hP
  go_wp2_with fail
  clear c0 c1 d0 d1 f0 f1 f2 f3 f4 f5 f6 f7 r0 r1
  refine (stmay_any X4.out HO9.out.1 HO9.out.2 HM9).mono ?_
  rintro e w4 ⟨rfl, b4⟩
  replace V := Lib.hid (V.out.later b4)
  replace C1 := Lib.hid (C1.out.later b4)
  replace C2 := Lib.hid (C2.out.later b4)
  replace C3 := Lib.hid (C3.out.later b4)
  replace X4 := Lib.hid (X4.out.later b4)
  replace C4 := Lib.hid (C4.out.later b4)
  replace HB := Lib.hid (below2Z HB.out b4)
  clear b4
  obtain ⟨c0, c1⟩ := twoM C1.out
  obtain ⟨f0, f1, f2, f3, f4, f5, f6, f7⟩ := eightT C2.out
  obtain ⟨d0, d1⟩ := twoM C3.out
  obtain ⟨r0, r1⟩ := twoM C4.out
  go_wp2_with fail
  clear c0 c1 d0 d1 f0 f1 f2 f3 f4 f5 f6 f7 r0 r1
  refine (stsame_any V.out X4.out HZ).mono ?_
  rintro e w5 ⟨rfl, b5⟩
  replace V := Lib.hid (V.out.later b5)
  replace C1 := Lib.hid (C1.out.later b5)
  replace C2 := Lib.hid (C2.out.later b5)
  replace C3 := Lib.hid (C3.out.later b5)
  replace X4 := Lib.hid (X4.out.later b5)
  replace C4 := Lib.hid (C4.out.later b5)
  replace HB := Lib.hid (below2Z HB.out b5)
  clear b5
  obtain ⟨c0, c1⟩ := twoM C1.out
  obtain ⟨f0, f1, f2, f3, f4, f5, f6, f7⟩ := eightT C2.out
  obtain ⟨d0, d1⟩ := twoM C3.out
  obtain ⟨r0, r1⟩ := twoM C4.out
  go_wp2_with fail
  clear c0 c1 d0 d1 f0 f1 f2 f3 f4 f5 f6 f7 r0 r1
  refine (touch_any ⟨k, u, o, id, ⟨a, b, c, st⟩⟩ _).mono ?_
  rintro e w6 ⟨v6, rfl, hv6, b6⟩
  replace V := Lib.hid (V.out.later b6)
  replace C1 := Lib.hid (C1.out.later b6)
  replace C2 := Lib.hid (C2.out.later b6)
  replace C3 := Lib.hid (C3.out.later b6)
  replace X4 := Lib.hid (X4.out.later b6)
  replace C4 := Lib.hid (C4.out.later b6)
  replace HB := Lib.hid (below2Z HB.out b6)
  rw [HT.out] at hv6
  have T6 := Lib.hid hv6
  obtain ⟨za, zk, rfl, -⟩ := T6.out
  clear hv6
  clear b6
  have HTL2 := HTL.out
  go_wp2_with fail
  go_loopw [10] (fun i wr => ∃ j : Nat, j ≤ T.length ∧ i = .int .i64 j ∧ Hid (Below w6.heap.size w6 wr) ∧ Hid (∀ i, i < j → T.getD i [] ≠ p)) (fun i _ => T.length - (intOf i).toNat)
  case atStart => exact ⟨0, by omega, rfl, Below.refl _ _, fun i h => absurd h (by omega)⟩
  case round =>
    obtain ⟨j, hj, rfl, HN, HA⟩ := hrel
    replace V := Lib.hid (V.out.later HN.out)
    replace C1 := Lib.hid (C1.out.later HN.out)
    replace C2 := Lib.hid (C2.out.later HN.out)
    replace C3 := Lib.hid (C3.out.later HN.out)
    replace X4 := Lib.hid (X4.out.later HN.out)
    replace C4 := Lib.hid (C4.out.later HN.out)
    by_cases hlt : j < T.length
    · obtain ⟨bt, ot, e1, ht⟩ := text_at T6.out HN.out hlt
      subst e1
      obtain ⟨z, hz9⟩ : ∃ z, T.getD j [] = z := ⟨_, rfl⟩
      rw [hz9] at ht
      obtain ⟨d0, d1⟩ := twoM C3.out
      by_cases hzp : z = p
      · have s0 : (z == p) = true := seqM hzp
        go_wp2_with fail
        go_region
        go_wp2_with fail
        refine (live14 _).mono ?_
        rintro e wl ⟨rfl, bl⟩
        go_wp2_with fail
        go_ret
        exact ⟨rfl, below2Z HB.out (below2Z HN.out.drew bl)⟩
      · have s0 : (z == p) = false := sneM hzp
        have HA2 : Hid (∀ i, i < j + 1 → T.getD i [] ≠ p) := Lib.hid (fun i hi => by
          by_cases h : i < j
          · exact HA.out i h
          · obtain rfl : i = j := by omega
            rw [hz9]; exact hzp)
        go_wp2_with fail
        go_region
        go_wp2_with fail
        go_roundw
        case rel => exact ⟨j + 1, by omega, by go_num, HN.out.drew, HA2⟩
        case measure => simp [intOf]; omega
    · obtain rfl : j = T.length := by omega
      replace HB := Lib.hid (below2Z HB.out HN.out)
      have HP : Hid (p ∉ T) := Lib.hid (fun hp => by
        obtain ⟨i, hi, e⟩ := List.getElem_of_mem hp
        refine HA.out i hi ?_
        rw [List.getD_eq_getElem?_getD, List.getElem?_eq_getElem hi]; exact e)
      obtain ⟨e8, e9⟩ := HLE.out HP.out
      obtain ⟨⟨i1, i2, i3, i4, i5⟩, hi⟩ : ∃ r, roGet s.e p q = r := ⟨_, rfl⟩
      have G2 := Lib.hid hi
      have G1 : Hid (roGet s9.e p q = ⟨i1, i2, i3, i4, i5⟩) := Lib.hid ((e9 q).trans hi)
      have E8 := Lib.hid e8
      have heq : ∀ w : World, (binOp .eql 51 (.agg #[.bool i1, .bool i2, .bool i3, .bool i4, .bool i5]) (.agg #[.bool i1, .bool i2, .bool i3, .bool i4, .bool i5])).run Tryz.prog w = .ok (.bool true) w := fun w => by rw [item_eql, itSame_self]
      clear e8 e9 hi HLE HP HA
      go_upto_region 14 with fail
      have D := Lib.hid (show smQ wr w.heap.size P (w.heap.size + 1 + 1) (.slice ax s.e.length cx) (.slice ay s.s.length cy) (.slice p4 s9.e.length g4) (.slice q4 s9.s.length l4) (.string ⟨p.toArray⟩) (.string ⟨q.toArray⟩) from ⟨C1.out, C4.out, C3.out⟩)
      clear C1 C2 C3 C4
      have g0q : ∀ X, smQ X w.heap.size P (w.heap.size + 1 + 1) (.slice ax s.e.length cx) (.slice ay s.s.length cy) (.slice p4 s9.e.length g4) (.slice q4 s9.s.length l4) (.string ⟨p.toArray⟩) (.string ⟨q.toArray⟩) → X.cell? ⟨w.heap.size, 0, none⟩ = some (.slice ax s.e.length cx) := fun X hx => (twoM hx.1).1
      have g1q : ∀ X, smQ X w.heap.size P (w.heap.size + 1 + 1) (.slice ax s.e.length cx) (.slice ay s.s.length cy) (.slice p4 s9.e.length g4) (.slice q4 s9.s.length l4) (.string ⟨p.toArray⟩) (.string ⟨q.toArray⟩) → X.cell? ⟨w.heap.size, 1, none⟩ = some (.slice ay s.s.length cy) := fun X hx => (twoM hx.1).2
      have v0q : ∀ X, smQ X w.heap.size P (w.heap.size + 1 + 1) (.slice ax s.e.length cx) (.slice ay s.s.length cy) (.slice p4 s9.e.length g4) (.slice q4 s9.s.length l4) (.string ⟨p.toArray⟩) (.string ⟨q.toArray⟩) → X.cell? ⟨P, 0, none⟩ = some (.slice p4 s9.e.length g4) := fun X hx => (twoM hx.2.1).1
      have v1q : ∀ X, smQ X w.heap.size P (w.heap.size + 1 + 1) (.slice ax s.e.length cx) (.slice ay s.s.length cy) (.slice p4 s9.e.length g4) (.slice q4 s9.s.length l4) (.string ⟨p.toArray⟩) (.string ⟨q.toArray⟩) → X.cell? ⟨P, 1, none⟩ = some (.slice q4 s9.s.length l4) := fun X hx => (twoM hx.2.1).2
      have r0q : ∀ X, smQ X w.heap.size P (w.heap.size + 1 + 1) (.slice ax s.e.length cx) (.slice ay s.s.length cy) (.slice p4 s9.e.length g4) (.slice q4 s9.s.length l4) (.string ⟨p.toArray⟩) (.string ⟨q.toArray⟩) → X.cell? ⟨w.heap.size + 1 + 1, 0, none⟩ = some (.string ⟨p.toArray⟩) := fun X hx => (twoM hx.2.2).1
      have r1q : ∀ X, smQ X w.heap.size P (w.heap.size + 1 + 1) (.slice ax s.e.length cx) (.slice ay s.s.length cy) (.slice p4 s9.e.length g4) (.slice q4 s9.s.length l4) (.string ⟨p.toArray⟩) (.string ⟨q.toArray⟩) → X.cell? ⟨w.heap.size + 1 + 1, 1, none⟩ = some (.string ⟨q.toArray⟩) := fun X hx => (twoM hx.2.2).2
      refine wp_region_held_drew (S := (fun X => smQ X w.heap.size P (w.heap.size + 1 + 1) (.slice ax s.e.length cx) (.slice ay s.s.length cy) (.slice p4 s9.e.length g4) (.slice q4 s9.s.length l4) (.string ⟨p.toArray⟩) (.string ⟨q.toArray⟩))) (by kernel_rfl) ?_ (fun hHeld => ?_)
      · exact smQ_up (Below.refl _ _).drew D.out
      refine wpAnyH_take (i := 0) (oi := { dst := some 80, op := Op.fieldAddr 25 (Operand.tmp 7) 1, type := 0, pos := "law.go:70", after := #[], guard := none }) (v := ?_) rfl (by as_aux_lemma => kernel_rfl) (by as_aux_lemma => kernel_rfl) (by as_aux_lemma => kernel_rfl) (fun _ _ _ h => h) (Or.inl ⟨by rfl, ?_⟩) (by assumption) ?_
      rotate_left
      · intro w' hSw
        try dsimp only at hSw
        go_simp
        try with_reducible rfl
      try simp only [Act.put, List.setIfInBounds_toArray, List.set_cons_zero, List.set_cons_succ]
      refine wpAnyH_take (i := 1) (oi := { dst := some 81, op := Op.load 23 (Operand.tmp 80), type := 23, pos := "law.go:70", after := #[{ on := 0, ground := Ground.data }], guard := none }) (v := ?_) rfl (by as_aux_lemma => kernel_rfl) (by as_aux_lemma => kernel_rfl) (by as_aux_lemma => kernel_rfl) (fun _ _ _ h => h) (Or.inl ⟨by rfl, ?_⟩) (by assumption) ?_
      rotate_left
      · intro w' hSw
        try dsimp only at hSw
        go_simp
        try with_reducible rfl
      try simp only [Act.put, List.setIfInBounds_toArray, List.set_cons_zero, List.set_cons_succ]
      refine wpAnyH_take (i := 2) (oi := { dst := some 82, op := Op.indexAddr 47 (Operand.tmp 5) (Operand.const (Value.int IntKind.i64 0)), type := 0, pos := "law.go:70", after := #[], guard := none }) (v := ?_) rfl (by as_aux_lemma => kernel_rfl) (by as_aux_lemma => kernel_rfl) (by as_aux_lemma => kernel_rfl) (fun _ _ _ h => h) (Or.inl ⟨by rfl, ?_⟩) (by assumption) ?_
      rotate_left
      · intro w' hSw
        try dsimp only at hSw
        go_simp
        try with_reducible rfl
      try simp only [Act.put, List.setIfInBounds_toArray, List.set_cons_zero, List.set_cons_succ]
      refine wpAnyH_take (i := 3) (oi := { dst := some 83, op := Op.load 9 (Operand.tmp 82), type := 9, pos := "law.go:70", after := #[{ on := 2, ground := Ground.data }], guard := none }) (v := ?_) rfl (by as_aux_lemma => kernel_rfl) (by as_aux_lemma => kernel_rfl) (by as_aux_lemma => kernel_rfl) (fun _ _ _ h => h) (Or.inl ⟨by rfl, ?_⟩) (by assumption) ?_
      rotate_left
      · intro w' hSw
        try dsimp only at hSw
        go_simp
        try with_reducible rfl
      try simp only [Act.put, List.setIfInBounds_toArray, List.set_cons_zero, List.set_cons_succ]
      refine wpAnyH_take (i := 5) (oi := { dst := some 85, op := Op.fieldAddr 25 (Operand.tmp 3) 1, type := 0, pos := "law.go:70", after := #[], guard := none }) (v := ?_) rfl (by as_aux_lemma => kernel_rfl) (by as_aux_lemma => kernel_rfl) (by as_aux_lemma => kernel_rfl) (fun _ _ _ h => h) (Or.inl ⟨by rfl, ?_⟩) (by assumption) ?_
      rotate_left
      · intro w' hSw
        try dsimp only at hSw
        go_simp
        try with_reducible rfl
      try simp only [Act.put, List.setIfInBounds_toArray, List.set_cons_zero, List.set_cons_succ]
      refine wpAnyH_take (i := 6) (oi := { dst := some 86, op := Op.load 23 (Operand.tmp 85), type := 23, pos := "law.go:70", after := #[{ on := 5, ground := Ground.data }], guard := none }) (v := ?_) rfl (by as_aux_lemma => kernel_rfl) (by as_aux_lemma => kernel_rfl) (by as_aux_lemma => kernel_rfl) (fun _ _ _ h => h) (Or.inl ⟨by rfl, ?_⟩) (by assumption) ?_
      rotate_left
      · intro w' hSw
        try dsimp only at hSw
        go_simp
        try with_reducible rfl
      try simp only [Act.put, List.setIfInBounds_toArray, List.set_cons_zero, List.set_cons_succ]
      refine wpAnyH_take (i := 7) (oi := { dst := some 87, op := Op.indexAddr 47 (Operand.tmp 5) (Operand.const (Value.int IntKind.i64 0)), type := 0, pos := "law.go:70", after := #[], guard := none }) (v := ?_) rfl (by as_aux_lemma => kernel_rfl) (by as_aux_lemma => kernel_rfl) (by as_aux_lemma => kernel_rfl) (fun _ _ _ h => h) (Or.inl ⟨by rfl, ?_⟩) (by assumption) ?_
      rotate_left
      · intro w' hSw
        try dsimp only at hSw
        go_simp
        try with_reducible rfl
      try simp only [Act.put, List.setIfInBounds_toArray, List.set_cons_zero, List.set_cons_succ]
      refine wpAnyH_take (i := 8) (oi := { dst := some 88, op := Op.load 9 (Operand.tmp 87), type := 9, pos := "law.go:70", after := #[{ on := 7, ground := Ground.data }], guard := none }) (v := ?_) rfl (by as_aux_lemma => kernel_rfl) (by as_aux_lemma => kernel_rfl) (by as_aux_lemma => kernel_rfl) (fun _ _ _ h => h) (Or.inl ⟨by rfl, ?_⟩) (by assumption) ?_
      rotate_left
      · intro w' hSw
        try dsimp only at hSw
        go_simp
        try with_reducible rfl
      try simp only [Act.put, List.setIfInBounds_toArray, List.set_cons_zero, List.set_cons_succ]
      refine wpAnyH_ready (rs := [4]) (by as_aux_lemma => kernel_rfl) (by simp) ?_
      refine AllReadyH.cons (o := { dst := some 84, op := Op.call { callee := Callee.value (Operand.func 28), args := #[Operand.tmp 81, Operand.tmp 83], argTypes := #[23, 9] }, type := 23, pos := "law.go:70", after := #[{ on := 1, ground := Ground.data }, { on := 3, ground := Ground.data }], guard := none }) rfl (fun Kx hK => ?_) AllReadyH.nil
      go_simp
      refine (rsof_any (X4.out.2.later (Below.refl _ _).drew) (Nat.le_trans HL9.out (by decide)) p).mono ?_
      rintro e z1 ⟨v1, rfl, hv1, b19⟩
      have K1 := Lib.hid (below2Z (Below.refl _ _).drew b19)
      have D1 := Lib.hid (smQ_up K1.out D.out)
      rw [E8.out] at hv1
      have Y1 := Lib.hid (hv1.rd sesOK)
      obtain ⟨ya1, yk1, rfl, -⟩ := RdS.open' Y1.out
      clear hv1
      clear b19
      go_wp2_with fail
      refine hK.out _ _ ?_ (fun hHeld2 => ?_)
      · exact D1.out
      clear hK Kx hHeld
      have hHeld := hHeld2
      clear hHeld2
      try simp only [Act.put, List.setIfInBounds_toArray, List.set_cons_zero, List.set_cons_succ]
      refine wpAnyH_ready (rs := [9]) (by as_aux_lemma => kernel_rfl) (by simp) ?_
      refine AllReadyH.cons (o := { dst := some 89, op := Op.call { callee := Callee.value (Operand.func 28), args := #[Operand.tmp 86, Operand.tmp 88], argTypes := #[23, 9] }, type := 23, pos := "law.go:70", after := #[{ on := 6, ground := Ground.data }, { on := 8, ground := Ground.data }, { on := 4, ground := Ground.chain }], guard := none }) rfl (fun Kx hK => ?_) AllReadyH.nil
      go_simp
      refine (rsof_any (V.out.2.later K1.out) (Nat.le_trans HS.out.2.2.2 (by decide)) p).mono ?_
      rintro e z2 ⟨v2, rfl, hv2, b29⟩
      have K2 := Lib.hid (below2Z K1.out b29)
      have D2 := Lib.hid (smQ_up K2.out D.out)
      replace Y1 := Lib.hid (RdS.later Y1.out b29)
      have Y2 := Lib.hid (hv2.rd sesOK)
      obtain ⟨ya2, yk2, rfl, -⟩ := RdS.open' Y2.out
      clear hv2
      clear b29
      go_wp2_with fail
      refine hK.out _ _ ?_ (fun hHeld2 => ?_)
      · exact D2.out
      clear hK Kx hHeld
      have hHeld := hHeld2
      clear hHeld2
      try simp only [Act.put, List.setIfInBounds_toArray, List.set_cons_zero, List.set_cons_succ]
      refine wpAnyH_ready (rs := [10]) (by as_aux_lemma => kernel_rfl) (by simp) ?_
      refine AllReadyH.cons (o := { dst := some 90, op := Op.call { callee := Callee.value (Operand.func 27), args := #[Operand.tmp 84, Operand.tmp 89], argTypes := #[23, 23] }, type := 4, pos := "law.go:70", after := #[{ on := 4, ground := Ground.data }, { on := 9, ground := Ground.data }, { on := 9, ground := Ground.chain }], guard := none }) rfl (fun Kx hK => ?_) AllReadyH.nil
      go_simp
      refine (rssame_any Y1.out Y2.out (Lib.hid (sessSame_self _))).mono ?_
      rintro e z3 ⟨rfl, b39⟩
      have K3 := Lib.hid (below2Z K2.out b39)
      have D3 := Lib.hid (smQ_up K3.out D.out)
      clear Y1 Y2
      clear b39
      go_wp2_with fail
      refine hK.out _ _ ?_ (fun hHeld2 => ?_)
      · exact D3.out
      clear hK Kx hHeld
      have hHeld := hHeld2
      clear hHeld2
      try simp only [Act.put, List.setIfInBounds_toArray, List.set_cons_zero, List.set_cons_succ]
      refine wpAnyH_take (i := 11) (oi := { dst := some 91, op := Op.move (Operand.tmp 90), type := 4, pos := "law.go:70", after := #[{ on := 10, ground := Ground.data }, { on := 10, ground := Ground.chain }], guard := none }) (v := ?_) rfl (by as_aux_lemma => kernel_rfl) (by as_aux_lemma => kernel_rfl) (by as_aux_lemma => kernel_rfl) (fun _ _ _ h => h) (Or.inl ⟨by rfl, ?_⟩) (by assumption) ?_
      rotate_left
      · intro w' hSw
        try dsimp only at hSw
        go_simp
        try with_reducible rfl
      try simp only [Act.put, List.setIfInBounds_toArray, List.set_cons_zero, List.set_cons_succ]
      refine wpAnyH_take (i := 12) (oi := { dst := some 92, op := Op.fieldAddr 25 (Operand.tmp 7) 0, type := 0, pos := "law.go:70", after := #[{ on := 11, ground := Ground.guard }], guard := some (11, true) }) (v := ?_) rfl (by as_aux_lemma => kernel_rfl) (by as_aux_lemma => kernel_rfl) (by as_aux_lemma => kernel_rfl) (fun _ _ _ h => h) (Or.inl ⟨by rfl, ?_⟩) (by assumption) ?_
      rotate_left
      · intro w' hSw
        try dsimp only at hSw
        go_simp
        try with_reducible rfl
      try simp only [Act.put, List.setIfInBounds_toArray, List.set_cons_zero, List.set_cons_succ]
      refine wpAnyH_take (i := 13) (oi := { dst := some 93, op := Op.load 22 (Operand.tmp 92), type := 22, pos := "law.go:70", after := #[{ on := 12, ground := Ground.data }, { on := 11, ground := Ground.guard }], guard := some (11, true) }) (v := ?_) rfl (by as_aux_lemma => kernel_rfl) (by as_aux_lemma => kernel_rfl) (by as_aux_lemma => kernel_rfl) (fun _ _ _ h => h) (Or.inl ⟨by rfl, ?_⟩) (by assumption) ?_
      rotate_left
      · intro w' hSw
        try dsimp only at hSw
        go_simp
        try with_reducible rfl
      try simp only [Act.put, List.setIfInBounds_toArray, List.set_cons_zero, List.set_cons_succ]
      refine wpAnyH_take (i := 14) (oi := { dst := some 94, op := Op.indexAddr 47 (Operand.tmp 5) (Operand.const (Value.int IntKind.i64 0)), type := 0, pos := "law.go:70", after := #[{ on := 11, ground := Ground.guard }], guard := some (11, true) }) (v := ?_) rfl (by as_aux_lemma => kernel_rfl) (by as_aux_lemma => kernel_rfl) (by as_aux_lemma => kernel_rfl) (fun _ _ _ h => h) (Or.inl ⟨by rfl, ?_⟩) (by assumption) ?_
      rotate_left
      · intro w' hSw
        try dsimp only at hSw
        go_simp
        try with_reducible rfl
      try simp only [Act.put, List.setIfInBounds_toArray, List.set_cons_zero, List.set_cons_succ]
      refine wpAnyH_take (i := 15) (oi := { dst := some 95, op := Op.load 9 (Operand.tmp 94), type := 9, pos := "law.go:70", after := #[{ on := 14, ground := Ground.data }, { on := 11, ground := Ground.guard }], guard := some (11, true) }) (v := ?_) rfl (by as_aux_lemma => kernel_rfl) (by as_aux_lemma => kernel_rfl) (by as_aux_lemma => kernel_rfl) (fun _ _ _ h => h) (Or.inl ⟨by rfl, ?_⟩) (by assumption) ?_
      rotate_left
      · intro w' hSw
        try dsimp only at hSw
        go_simp
        try with_reducible rfl
      try simp only [Act.put, List.setIfInBounds_toArray, List.set_cons_zero, List.set_cons_succ]
      refine wpAnyH_take (i := 16) (oi := { dst := some 96, op := Op.indexAddr 47 (Operand.tmp 5) (Operand.const (Value.int IntKind.i64 1)), type := 0, pos := "law.go:70", after := #[{ on := 11, ground := Ground.guard }], guard := some (11, true) }) (v := ?_) rfl (by as_aux_lemma => kernel_rfl) (by as_aux_lemma => kernel_rfl) (by as_aux_lemma => kernel_rfl) (fun _ _ _ h => h) (Or.inl ⟨by rfl, ?_⟩) (by assumption) ?_
      rotate_left
      · intro w' hSw
        try dsimp only at hSw
        go_simp
        try with_reducible rfl
      try simp only [Act.put, List.setIfInBounds_toArray, List.set_cons_zero, List.set_cons_succ]
      refine wpAnyH_take (i := 17) (oi := { dst := some 97, op := Op.load 9 (Operand.tmp 96), type := 9, pos := "law.go:70", after := #[{ on := 16, ground := Ground.data }, { on := 11, ground := Ground.guard }], guard := some (11, true) }) (v := ?_) rfl (by as_aux_lemma => kernel_rfl) (by as_aux_lemma => kernel_rfl) (by as_aux_lemma => kernel_rfl) (fun _ _ _ h => h) (Or.inl ⟨by rfl, ?_⟩) (by assumption) ?_
      rotate_left
      · intro w' hSw
        try dsimp only at hSw
        go_simp
        try with_reducible rfl
      try simp only [Act.put, List.setIfInBounds_toArray, List.set_cons_zero, List.set_cons_succ]
      refine wpAnyH_take (i := 19) (oi := { dst := some 99, op := Op.fieldAddr 25 (Operand.tmp 3) 0, type := 0, pos := "law.go:70", after := #[{ on := 11, ground := Ground.guard }], guard := some (11, true) }) (v := ?_) rfl (by as_aux_lemma => kernel_rfl) (by as_aux_lemma => kernel_rfl) (by as_aux_lemma => kernel_rfl) (fun _ _ _ h => h) (Or.inl ⟨by rfl, ?_⟩) (by assumption) ?_
      rotate_left
      · intro w' hSw
        try dsimp only at hSw
        go_simp
        try with_reducible rfl
      try simp only [Act.put, List.setIfInBounds_toArray, List.set_cons_zero, List.set_cons_succ]
      refine wpAnyH_take (i := 20) (oi := { dst := some 100, op := Op.load 22 (Operand.tmp 99), type := 22, pos := "law.go:70", after := #[{ on := 19, ground := Ground.data }, { on := 11, ground := Ground.guard }], guard := some (11, true) }) (v := ?_) rfl (by as_aux_lemma => kernel_rfl) (by as_aux_lemma => kernel_rfl) (by as_aux_lemma => kernel_rfl) (fun _ _ _ h => h) (Or.inl ⟨by rfl, ?_⟩) (by assumption) ?_
      rotate_left
      · intro w' hSw
        try dsimp only at hSw
        go_simp
        try with_reducible rfl
      try simp only [Act.put, List.setIfInBounds_toArray, List.set_cons_zero, List.set_cons_succ]
      refine wpAnyH_take (i := 21) (oi := { dst := some 101, op := Op.indexAddr 47 (Operand.tmp 5) (Operand.const (Value.int IntKind.i64 0)), type := 0, pos := "law.go:70", after := #[{ on := 11, ground := Ground.guard }], guard := some (11, true) }) (v := ?_) rfl (by as_aux_lemma => kernel_rfl) (by as_aux_lemma => kernel_rfl) (by as_aux_lemma => kernel_rfl) (fun _ _ _ h => h) (Or.inl ⟨by rfl, ?_⟩) (by assumption) ?_
      rotate_left
      · intro w' hSw
        try dsimp only at hSw
        go_simp
        try with_reducible rfl
      try simp only [Act.put, List.setIfInBounds_toArray, List.set_cons_zero, List.set_cons_succ]
      refine wpAnyH_take (i := 22) (oi := { dst := some 102, op := Op.load 9 (Operand.tmp 101), type := 9, pos := "law.go:70", after := #[{ on := 21, ground := Ground.data }, { on := 11, ground := Ground.guard }], guard := some (11, true) }) (v := ?_) rfl (by as_aux_lemma => kernel_rfl) (by as_aux_lemma => kernel_rfl) (by as_aux_lemma => kernel_rfl) (fun _ _ _ h => h) (Or.inl ⟨by rfl, ?_⟩) (by assumption) ?_
      rotate_left
      · intro w' hSw
        try dsimp only at hSw
        go_simp
        try with_reducible rfl
      try simp only [Act.put, List.setIfInBounds_toArray, List.set_cons_zero, List.set_cons_succ]
      refine wpAnyH_take (i := 23) (oi := { dst := some 103, op := Op.indexAddr 47 (Operand.tmp 5) (Operand.const (Value.int IntKind.i64 1)), type := 0, pos := "law.go:70", after := #[{ on := 11, ground := Ground.guard }], guard := some (11, true) }) (v := ?_) rfl (by as_aux_lemma => kernel_rfl) (by as_aux_lemma => kernel_rfl) (by as_aux_lemma => kernel_rfl) (fun _ _ _ h => h) (Or.inl ⟨by rfl, ?_⟩) (by assumption) ?_
      rotate_left
      · intro w' hSw
        try dsimp only at hSw
        go_simp
        try with_reducible rfl
      try simp only [Act.put, List.setIfInBounds_toArray, List.set_cons_zero, List.set_cons_succ]
      refine wpAnyH_take (i := 24) (oi := { dst := some 104, op := Op.load 9 (Operand.tmp 103), type := 9, pos := "law.go:70", after := #[{ on := 23, ground := Ground.data }, { on := 11, ground := Ground.guard }], guard := some (11, true) }) (v := ?_) rfl (by as_aux_lemma => kernel_rfl) (by as_aux_lemma => kernel_rfl) (by as_aux_lemma => kernel_rfl) (fun _ _ _ h => h) (Or.inl ⟨by rfl, ?_⟩) (by assumption) ?_
      rotate_left
      · intro w' hSw
        try dsimp only at hSw
        go_simp
        try with_reducible rfl
      try simp only [Act.put, List.setIfInBounds_toArray, List.set_cons_zero, List.set_cons_succ]
      refine wpAnyH_ready (rs := [18]) (by as_aux_lemma => kernel_rfl) (by simp) ?_
      refine AllReadyH.cons (o := { dst := some 98, op := Op.call { callee := Callee.value (Operand.func 29), args := #[Operand.tmp 93, Operand.tmp 95, Operand.tmp 97], argTypes := #[22, 9, 9] }, type := 51, pos := "law.go:70", after := #[{ on := 13, ground := Ground.data }, { on := 15, ground := Ground.data }, { on := 17, ground := Ground.data }, { on := 11, ground := Ground.chain }, { on := 11, ground := Ground.guard }], guard := some (11, true) }) rfl (fun Kx hK => ?_) AllReadyH.nil
      go_simp
      refine (rget8_eq (X4.out.1.later K3.out) p q G1).mono ?_
      rintro e z4 ⟨rfl, b49⟩
      have K4 := Lib.hid (below2Z K3.out b49)
      have D4 := Lib.hid (smQ_up K4.out D.out)
      clear b49
      go_wp2_with fail
      refine hK.out _ _ ?_ (fun hHeld2 => ?_)
      · exact D4.out
      clear hK Kx hHeld
      have hHeld := hHeld2
      clear hHeld2
      try simp only [Act.put, List.setIfInBounds_toArray, List.set_cons_zero, List.set_cons_succ]
      refine wpAnyH_ready (rs := [25]) (by as_aux_lemma => kernel_rfl) (by simp) ?_
      refine AllReadyH.cons (o := { dst := some 105, op := Op.call { callee := Callee.value (Operand.func 29), args := #[Operand.tmp 100, Operand.tmp 102, Operand.tmp 104], argTypes := #[22, 9, 9] }, type := 51, pos := "law.go:70", after := #[{ on := 20, ground := Ground.data }, { on := 22, ground := Ground.data }, { on := 24, ground := Ground.data }, { on := 18, ground := Ground.chain }, { on := 11, ground := Ground.guard }], guard := some (11, true) }) rfl (fun Kx hK => ?_) AllReadyH.nil
      go_simp
      refine (rget8_eq (V.out.1.later K4.out) p q G2).mono ?_
      rintro e z5 ⟨rfl, b59⟩
      have K5 := Lib.hid (below2Z K4.out b59)
      have D5 := Lib.hid (smQ_up K5.out D.out)
      clear b59
      go_wp2_with fail
      refine hK.out _ _ ?_ (fun hHeld2 => ?_)
      · exact D5.out
      clear hK Kx hHeld
      have hHeld := hHeld2
      clear hHeld2
      try simp only [Act.put, List.setIfInBounds_toArray, List.set_cons_zero, List.set_cons_succ]
      refine wpAnyH_take (i := 26) (oi := { dst := some 106, op := Op.binOp BinOp.eql 51 (Operand.tmp 98) (Operand.tmp 105) 51, type := 4, pos := "law.go:70", after := #[{ on := 18, ground := Ground.data }, { on := 25, ground := Ground.data }, { on := 11, ground := Ground.guard }], guard := some (11, true) }) (v := ?_) rfl (by as_aux_lemma => kernel_rfl) (by as_aux_lemma => kernel_rfl) (by as_aux_lemma => kernel_rfl) (fun _ _ _ h => h) (Or.inl ⟨by rfl, ?_⟩) (by assumption) ?_
      rotate_left
      · intro w' hSw
        try dsimp only at hSw
        go_simp
        try with_reducible rfl
      try simp only [Act.put, List.setIfInBounds_toArray, List.set_cons_zero, List.set_cons_succ]
      refine wpAnyH_take (i := 27) (oi := { dst := some 107, op := Op.pick (Operand.tmp 91) (Operand.tmp 106) (Operand.const (Value.bool false)), type := 4, pos := "law.go:70", after := #[{ on := 11, ground := Ground.data }, { on := 26, ground := Ground.data }], guard := none }) (v := ?_) rfl (by as_aux_lemma => kernel_rfl) (by as_aux_lemma => kernel_rfl) (by as_aux_lemma => kernel_rfl) (fun _ _ _ h => h) (Or.inl ⟨by rfl, ?_⟩) (by assumption) ?_
      rotate_left
      · intro w' hSw
        try dsimp only at hSw
        go_simp
        try with_reducible rfl
      try simp only [Act.put, List.setIfInBounds_toArray, List.set_cons_zero, List.set_cons_succ]
      refine wpAnyH_take (i := 28) (oi := { dst := some 108, op := Op.move (Operand.tmp 107), type := 4, pos := "law.go:70", after := #[{ on := 27, ground := Ground.data }, { on := 25, ground := Ground.chain }], guard := none }) (v := ?_) rfl (by as_aux_lemma => kernel_rfl) (by as_aux_lemma => kernel_rfl) (by as_aux_lemma => kernel_rfl) (fun _ _ _ h => h) (Or.inl ⟨by rfl, ?_⟩) (by assumption) ?_
      rotate_left
      · intro w' hSw
        try dsimp only at hSw
        go_simp
        try with_reducible rfl
      try simp only [Act.put, List.setIfInBounds_toArray, List.set_cons_zero, List.set_cons_succ]
      refine wpAnyH_ready (rs := [29]) (by as_aux_lemma => kernel_rfl) (by simp) ?_
      refine AllReadyH.cons (o := { dst := some 109, op := Op.call { callee := Callee.value (Operand.func 14), args := #[], argTypes := #[] }, type := 4, pos := "law.go:70", after := #[{ on := 28, ground := Ground.chain }, { on := 28, ground := Ground.guard }], guard := some (28, true) }) rfl (fun Kx hK => ?_) AllReadyH.nil
      go_simp
      refine (live14 _).mono ?_
      rintro e z6 ⟨rfl, b69⟩
      have K6 := Lib.hid (below2Z K5.out b69)
      have D6 := Lib.hid (smQ_up K6.out D.out)
      clear b69
      go_wp2_with fail
      refine hK.out _ _ ?_ (fun hHeld2 => ?_)
      · exact D6.out
      clear hK Kx hHeld
      have hHeld := hHeld2
      clear hHeld2
      try simp only [Act.put, List.setIfInBounds_toArray, List.set_cons_zero, List.set_cons_succ]
      refine wpAnyH_take (i := 30) (oi := { dst := some 110, op := Op.pick (Operand.tmp 108) (Operand.tmp 109) (Operand.const (Value.bool false)), type := 4, pos := "law.go:70", after := #[{ on := 28, ground := Ground.data }, { on := 29, ground := Ground.data }], guard := none }) (v := ?_) rfl (by as_aux_lemma => kernel_rfl) (by as_aux_lemma => kernel_rfl) (by as_aux_lemma => kernel_rfl) (fun _ _ _ h => h) (Or.inl ⟨by rfl, ?_⟩) (by assumption) ?_
      rotate_left
      · intro w' hSw
        try dsimp only at hSw
        go_simp
        try with_reducible rfl
      try simp only [Act.put, List.setIfInBounds_toArray, List.set_cons_zero, List.set_cons_succ]
      refine wpAnyH_take (i := 31) (oi := { dst := some 6, op := Op.assign (Operand.tmp 110), type := 4, pos := "law.go:70", after := #[{ on := 30, ground := Ground.data }, { on := 29, ground := Ground.chain }, { on := 0, ground := Ground.phase }, { on := 1, ground := Ground.phase }, { on := 2, ground := Ground.phase }, { on := 3, ground := Ground.phase }, { on := 4, ground := Ground.phase }, { on := 5, ground := Ground.phase }, { on := 6, ground := Ground.phase }, { on := 7, ground := Ground.phase }, { on := 8, ground := Ground.phase }, { on := 9, ground := Ground.phase }, { on := 10, ground := Ground.phase }, { on := 11, ground := Ground.phase }, { on := 12, ground := Ground.phase }, { on := 13, ground := Ground.phase }, { on := 14, ground := Ground.phase }, { on := 15, ground := Ground.phase }, { on := 16, ground := Ground.phase }, { on := 17, ground := Ground.phase }, { on := 18, ground := Ground.phase }, { on := 19, ground := Ground.phase }, { on := 20, ground := Ground.phase }, { on := 21, ground := Ground.phase }, { on := 22, ground := Ground.phase }, { on := 23, ground := Ground.phase }, { on := 24, ground := Ground.phase }, { on := 25, ground := Ground.phase }, { on := 26, ground := Ground.phase }, { on := 27, ground := Ground.phase }, { on := 28, ground := Ground.phase }, { on := 29, ground := Ground.phase }, { on := 30, ground := Ground.phase }], guard := none }) (v := ?_) rfl (by as_aux_lemma => kernel_rfl) (by as_aux_lemma => kernel_rfl) (by as_aux_lemma => kernel_rfl) (fun _ _ _ h => h) (Or.inl ⟨by rfl, ?_⟩) (by assumption) ?_
      rotate_left
      · intro w' hSw
        try dsimp only at hSw
        go_simp
        try with_reducible rfl
      try simp only [Act.put, List.setIfInBounds_toArray, List.set_cons_zero, List.set_cons_succ]
      refine wpAnyH_done (by kernel_rfl) ?_ _
      replace HB := Lib.hid (below2Z HB.out K6.out)
      go_wp2_with fail
      go_ret
      exact ⟨rfl, HB.out⟩

set_option maxHeartbeats 6400000 in
set_option maxRecDepth 100000 in
theorem smay_8 {w : World} {x y : Value} {s : Sta} (h : StAt w x y s) (k : Int) (u o st : List UInt8) (id a b c : Int) (p q : List UInt8) (hs : fewSta s = true) (hm : stMay s = true) (he : shortEv ⟨k, u, o, id, ⟨a, b, c, st⟩⟩ = true) (h1 : p.length ≤ 40) (h2 : q.length ≤ 40) {s9 : Sta} (hd : stApply s ⟨k, u, o, id, ⟨a, b, c, st⟩⟩ = (s9, 0)) (hz : staSame s s9 = true) (h7 : k = 7) :
    Calls Tryz.prog 5 #[.agg #[x, y], .agg #[.int .i64 k, .string ⟨u.toArray⟩, .string ⟨o.toArray⟩, .int .i64 id, .int .i64 a, .int .i64 b, .int .i64 c, .string ⟨st.toArray⟩], .agg #[.string ⟨p.toArray⟩, .string ⟨q.toArray⟩]] w fun e w' => e = .returned (.bool true) ∧ Below w.heap.size w w' := by
  have hov := stOK_may (stApply_may hd)
  have hm9 := stApply_may hd
  have hl9 := st_len hd
  obtain ⟨T, hT⟩ : ∃ T, stTouch ⟨k, u, o, id, ⟨a, b, c, st⟩⟩ = T := ⟨_, rfl⟩
  have hTl : T.length ≤ 2 := hT ▸ stTouch_len ⟨k, u, o, id, ⟨a, b, c, st⟩⟩
  have hle : p ∉ T → seOf s9.s p = seOf s.s p ∧ ∀ q, roGet s9.e p q = roGet s.e p q := fun h => st_leaves hd (by rw [hT]; exact h)
  have HO9 := Lib.hid hov
  have HM9 := Lib.hid hm9
  have HL9 := Lib.hid hl9
  have HT := Lib.hid hT
  have HTL := Lib.hid hTl
  have HLE := Lib.hid hle
  clear hov hm9 hl9 hT hTl hle
  obtain ⟨ax, cx, rfl, -⟩ := h.1.open'
  obtain ⟨ay, cy, rfl, -⟩ := RdS.open' h.2
  have b0 := bl_newZ w (.cells #[.slice ax s.e.length cx, .slice ay s.s.length cy] 25)
  have b00 := bl_newZ (w.alloc (.cells #[.slice ax s.e.length cx, .slice ay s.s.length cy] 25)) (.cells #[.int .i64 k, .string ⟨u.toArray⟩, .string ⟨o.toArray⟩, .int .i64 id, .int .i64 a, .int .i64 b, .int .i64 c, .string ⟨st.toArray⟩] 29)
  have b000 := bl_newZ ((w.alloc (.cells #[.slice ax s.e.length cx, .slice ay s.s.length cy] 25)).alloc (.cells #[.int .i64 k, .string ⟨u.toArray⟩, .string ⟨o.toArray⟩, .int .i64 id, .int .i64 a, .int .i64 b, .int .i64 c, .string ⟨st.toArray⟩] 29)) (.cells #[.string ⟨p.toArray⟩, .string ⟨q.toArray⟩] 47)
  have HB := Lib.hid (below2Z (below2Z b0 b00) b000)
  have C1 := Lib.hid (((cellsAt_made (w := w) (cs := #[.slice ax s.e.length cx, .slice ay s.s.length cy]) (vs := [.slice ax s.e.length cx, .slice ay s.s.length cy]) rfl 25 rfl).later b00).later b000)
  have C2 := Lib.hid ((cellsAt_made (w := w.alloc (.cells #[.slice ax s.e.length cx, .slice ay s.s.length cy] 25)) (cs := #[.int .i64 k, .string ⟨u.toArray⟩, .string ⟨o.toArray⟩, .int .i64 id, .int .i64 a, .int .i64 b, .int .i64 c, .string ⟨st.toArray⟩]) (vs := evVals ⟨k, u, o, id, ⟨a, b, c, st⟩⟩) rfl 29 (B := w.heap.size + 1) (by simp)).later b000)
  have C3 := Lib.hid (cellsAt_made (w := (w.alloc (.cells #[.slice ax s.e.length cx, .slice ay s.s.length cy] 25)).alloc (.cells #[.int .i64 k, .string ⟨u.toArray⟩, .string ⟨o.toArray⟩, .int .i64 id, .int .i64 a, .int .i64 b, .int .i64 c, .string ⟨st.toArray⟩] 29)) (cs := #[.string ⟨p.toArray⟩, .string ⟨q.toArray⟩]) (vs := [.string ⟨p.toArray⟩, .string ⟨q.toArray⟩]) rfl 47 (B := w.heap.size + 1 + 1) (by simp))
  have V := Lib.hid (h.later HB.out)
  clear b0 b00 b000 h
  have H1 := Lib.hid hs
  have HS := Lib.hid (fewSta_getM hs)
  have HM := Lib.hid hm
  have H3 := Lib.hid he
  have HE := Lib.hid (shortEv_get he)
  have HD := Lib.hid hd
  have tp : decide ((40 : Int) < (p.length : Int)) = false := by rw [decide_eq_false_iff_not]; omega
  have tq : decide ((40 : Int) < (q.length : Int)) = false := by rw [decide_eq_false_iff_not]; omega
  have HZ := Lib.hid hz
  have tk : (k != 7) = false := by rw [bne_eq_false_iff_eq]; exact h7
  clear h7
  have t9 : (((0 : Nat) : Int) != 0) = false := by decide
  clear hd hs hm he
  obtain ⟨c0, c1⟩ := twoM C1.out
  obtain ⟨f0, f1, f2, f3, f4, f5, f6, f7⟩ := eightT C2.out
  obtain ⟨d0, d1⟩ := twoM C3.out
  go_enter Tryz.func5, Tryz.ntmps5
  go_wp2_with fail
  clear c0 c1 d0 d1 f0 f1 f2 f3 f4 f5 f6 f7
  refine (fewst_any V.out H1).mono ?_
  rintro e w1 ⟨rfl, b1⟩
  replace V := Lib.hid (V.out.later b1)
  replace C1 := Lib.hid (C1.out.later b1)
  replace C2 := Lib.hid (C2.out.later b1)
  replace C3 := Lib.hid (C3.out.later b1)
  replace HB := Lib.hid (below2Z HB.out b1)
  clear b1
  obtain ⟨c0, c1⟩ := twoM C1.out
  obtain ⟨f0, f1, f2, f3, f4, f5, f6, f7⟩ := eightT C2.out
  obtain ⟨d0, d1⟩ := twoM C3.out
  go_wp2_with fail
  clear c0 c1 d0 d1 f0 f1 f2 f3 f4 f5 f6 f7
  refine (rstmay_any V.out HS.out.1 (Nat.le_trans HS.out.2.1 (by decide)) HS.out.2.2.1 HM).mono ?_
  rintro e w2 ⟨rfl, b2⟩
  replace V := Lib.hid (V.out.later b2)
  replace C1 := Lib.hid (C1.out.later b2)
  replace C2 := Lib.hid (C2.out.later b2)
  replace C3 := Lib.hid (C3.out.later b2)
  replace HB := Lib.hid (below2Z HB.out b2)
  clear b2
  obtain ⟨c0, c1⟩ := twoM C1.out
  obtain ⟨f0, f1, f2, f3, f4, f5, f6, f7⟩ := eightT C2.out
  obtain ⟨d0, d1⟩ := twoM C3.out
  go_wp2_with fail
  clear c0 c1 d0 d1 f0 f1 f2 f3 f4 f5 f6 f7
  refine (short14_any k u o st id a b c H3 _).mono ?_
  rintro e w3 ⟨rfl, b3⟩
  replace V := Lib.hid (V.out.later b3)
  replace C1 := Lib.hid (C1.out.later b3)
  replace C2 := Lib.hid (C2.out.later b3)
  replace C3 := Lib.hid (C3.out.later b3)
  replace HB := Lib.hid (below2Z HB.out b3)
  clear b3
  obtain ⟨c0, c1⟩ := twoM C1.out
  obtain ⟨f0, f1, f2, f3, f4, f5, f6, f7⟩ := eightT C2.out
  obtain ⟨d0, d1⟩ := twoM C3.out
  go_wp2_with fail
  clear c0 c1 d0 d1 f0 f1 f2 f3 f4 f5 f6 f7
  refine (stdo_any (t' := s9) V.out HS.out.1 (by have := HS.out.2.1; omega) HS.out.2.2.1 ⟨k, u, o, id, ⟨a, b, c, st⟩⟩ (by have := HE.out.1; exact Nat.le_trans this (by decide)) (by have := HE.out.2.1; exact Nat.le_trans this (by decide)) (by have := HE.out.2.2; exact Nat.le_trans this (by decide)) HD.out).mono ?_
  rintro e w4 ⟨x4, y4, rfl, h4, b4⟩
  obtain ⟨p4, g4, rfl, -⟩ := h4.1.open'
  obtain ⟨q4, l4, rfl, -⟩ := RdS.open' h4.2
  have bb := below2Z b4 (bl_newZ w4 (.cells #[.slice p4 s9.e.length g4, .slice q4 s9.s.length l4] 25))
  replace V := Lib.hid (V.out.later bb)
  replace C1 := Lib.hid (C1.out.later bb)
  replace C2 := Lib.hid (C2.out.later bb)
  replace C3 := Lib.hid (C3.out.later bb)
  replace HB := Lib.hid (below2Z HB.out bb)
  have X4 := Lib.hid (h4.later (bl_newZ w4 (.cells #[.slice p4 s9.e.length g4, .slice q4 s9.s.length l4] 25)))
  have C4 := Lib.hid (cellsAt_made (w := w4) (cs := #[.slice p4 s9.e.length g4, .slice q4 s9.s.length l4]) (vs := [.slice p4 s9.e.length g4, .slice q4 s9.s.length l4]) rfl 25 rfl)
  clear bb b4 h4
  obtain ⟨c0, c1⟩ := twoM C1.out
  obtain ⟨f0, f1, f2, f3, f4, f5, f6, f7⟩ := eightT C2.out
  obtain ⟨d0, d1⟩ := twoM C3.out
  obtain ⟨r0, r1⟩ := twoM C4.out
  go_upto_region 6 with fail
  generalize hW : w4.alloc (.cells #[.slice p4 s9.e.length g4, .slice q4 s9.s.length l4] 25) = W4 at HB V C1 C2 C3 X4 C4 c0 c1 d0 d1 f0 f1 f2 f3 f4 f5 f6 f7 r0 r1 ⊢
  generalize hP : w4.heap.size = P at C4 r0 r1 ⊢
  clear hW hP
  go_wp2_with fail
  clear c0 c1 d0 d1 f0 f1 f2 f3 f4 f5 f6 f7 r0 r1
  refine (stmay_any X4.out HO9.out.1 HO9.out.2 HM9).mono ?_
  rintro e w4 ⟨rfl, b4⟩
  replace V := Lib.hid (V.out.later b4)
  replace C1 := Lib.hid (C1.out.later b4)
  replace C2 := Lib.hid (C2.out.later b4)
  replace C3 := Lib.hid (C3.out.later b4)
  replace X4 := Lib.hid (X4.out.later b4)
  replace C4 := Lib.hid (C4.out.later b4)
  replace HB := Lib.hid (below2Z HB.out b4)
  clear b4
  obtain ⟨c0, c1⟩ := twoM C1.out
  obtain ⟨f0, f1, f2, f3, f4, f5, f6, f7⟩ := eightT C2.out
  obtain ⟨d0, d1⟩ := twoM C3.out
  obtain ⟨r0, r1⟩ := twoM C4.out
  go_wp2_with fail
  clear c0 c1 d0 d1 f0 f1 f2 f3 f4 f5 f6 f7 r0 r1
  refine (stsame_any V.out X4.out HZ).mono ?_
  rintro e w5 ⟨rfl, b5⟩
  replace V := Lib.hid (V.out.later b5)
  replace C1 := Lib.hid (C1.out.later b5)
  replace C2 := Lib.hid (C2.out.later b5)
  replace C3 := Lib.hid (C3.out.later b5)
  replace X4 := Lib.hid (X4.out.later b5)
  replace C4 := Lib.hid (C4.out.later b5)
  replace HB := Lib.hid (below2Z HB.out b5)
  clear b5
  obtain ⟨c0, c1⟩ := twoM C1.out
  obtain ⟨f0, f1, f2, f3, f4, f5, f6, f7⟩ := eightT C2.out
  obtain ⟨d0, d1⟩ := twoM C3.out
  obtain ⟨r0, r1⟩ := twoM C4.out
  go_wp2_with fail
  clear c0 c1 d0 d1 f0 f1 f2 f3 f4 f5 f6 f7 r0 r1
  refine (touch_any ⟨k, u, o, id, ⟨a, b, c, st⟩⟩ _).mono ?_
  rintro e w6 ⟨v6, rfl, hv6, b6⟩
  replace V := Lib.hid (V.out.later b6)
  replace C1 := Lib.hid (C1.out.later b6)
  replace C2 := Lib.hid (C2.out.later b6)
  replace C3 := Lib.hid (C3.out.later b6)
  replace X4 := Lib.hid (X4.out.later b6)
  replace C4 := Lib.hid (C4.out.later b6)
  replace HB := Lib.hid (below2Z HB.out b6)
  rw [HT.out] at hv6
  have T6 := Lib.hid hv6
  obtain ⟨za, zk, rfl, -⟩ := T6.out
  clear hv6
  clear b6
  have HTL2 := HTL.out
  go_wp2_with fail
  go_loopw [10] (fun i wr => ∃ j : Nat, j ≤ T.length ∧ i = .int .i64 j ∧ Hid (Below w6.heap.size w6 wr) ∧ Hid (∀ i, i < j → T.getD i [] ≠ p)) (fun i _ => T.length - (intOf i).toNat)
  case atStart => exact ⟨0, by omega, rfl, Below.refl _ _, fun i h => absurd h (by omega)⟩
  case round =>
    obtain ⟨j, hj, rfl, HN, HA⟩ := hrel
    replace V := Lib.hid (V.out.later HN.out)
    replace C1 := Lib.hid (C1.out.later HN.out)
    replace C2 := Lib.hid (C2.out.later HN.out)
    replace C3 := Lib.hid (C3.out.later HN.out)
    replace X4 := Lib.hid (X4.out.later HN.out)
    replace C4 := Lib.hid (C4.out.later HN.out)
    by_cases hlt : j < T.length
    · obtain ⟨bt, ot, e1, ht⟩ := text_at T6.out HN.out hlt
      subst e1
      obtain ⟨z, hz9⟩ : ∃ z, T.getD j [] = z := ⟨_, rfl⟩
      rw [hz9] at ht
      obtain ⟨d0, d1⟩ := twoM C3.out
      by_cases hzp : z = p
      · have s0 : (z == p) = true := seqM hzp
        go_wp2_with fail
        go_region
        go_wp2_with fail
        refine (live14 _).mono ?_
        rintro e wl ⟨rfl, bl⟩
        go_wp2_with fail
        go_ret
        exact ⟨rfl, below2Z HB.out (below2Z HN.out.drew bl)⟩
      · have s0 : (z == p) = false := sneM hzp
        have HA2 : Hid (∀ i, i < j + 1 → T.getD i [] ≠ p) := Lib.hid (fun i hi => by
          by_cases h : i < j
          · exact HA.out i h
          · obtain rfl : i = j := by omega
            rw [hz9]; exact hzp)
        go_wp2_with fail
        go_region
        go_wp2_with fail
        go_roundw
        case rel => exact ⟨j + 1, by omega, by go_num, HN.out.drew, HA2⟩
        case measure => simp [intOf]; omega
    · obtain rfl : j = T.length := by omega
      replace HB := Lib.hid (below2Z HB.out HN.out)
      have HP : Hid (p ∉ T) := Lib.hid (fun hp => by
        obtain ⟨i, hi, e⟩ := List.getElem_of_mem hp
        refine HA.out i hi ?_
        rw [List.getD_eq_getElem?_getD, List.getElem?_eq_getElem hi]; exact e)
      obtain ⟨e8, e9⟩ := HLE.out HP.out
      obtain ⟨⟨i1, i2, i3, i4, i5⟩, hi⟩ : ∃ r, roGet s.e p q = r := ⟨_, rfl⟩
      have G2 := Lib.hid hi
      have G1 : Hid (roGet s9.e p q = ⟨i1, i2, i3, i4, i5⟩) := Lib.hid ((e9 q).trans hi)
      have E8 := Lib.hid e8
      have heq : ∀ w : World, (binOp .eql 51 (.agg #[.bool i1, .bool i2, .bool i3, .bool i4, .bool i5]) (.agg #[.bool i1, .bool i2, .bool i3, .bool i4, .bool i5])).run Tryz.prog w = .ok (.bool true) w := fun w => by rw [item_eql, itSame_self]
      clear e8 e9 hi HLE HP HA
      go_upto_region 14 with fail
      have D := Lib.hid (show smQ wr w.heap.size P (w.heap.size + 1 + 1) (.slice ax s.e.length cx) (.slice ay s.s.length cy) (.slice p4 s9.e.length g4) (.slice q4 s9.s.length l4) (.string ⟨p.toArray⟩) (.string ⟨q.toArray⟩) from ⟨C1.out, C4.out, C3.out⟩)
      clear C1 C2 C3 C4
      have g0q : ∀ X, smQ X w.heap.size P (w.heap.size + 1 + 1) (.slice ax s.e.length cx) (.slice ay s.s.length cy) (.slice p4 s9.e.length g4) (.slice q4 s9.s.length l4) (.string ⟨p.toArray⟩) (.string ⟨q.toArray⟩) → X.cell? ⟨w.heap.size, 0, none⟩ = some (.slice ax s.e.length cx) := fun X hx => (twoM hx.1).1
      have g1q : ∀ X, smQ X w.heap.size P (w.heap.size + 1 + 1) (.slice ax s.e.length cx) (.slice ay s.s.length cy) (.slice p4 s9.e.length g4) (.slice q4 s9.s.length l4) (.string ⟨p.toArray⟩) (.string ⟨q.toArray⟩) → X.cell? ⟨w.heap.size, 1, none⟩ = some (.slice ay s.s.length cy) := fun X hx => (twoM hx.1).2
      have v0q : ∀ X, smQ X w.heap.size P (w.heap.size + 1 + 1) (.slice ax s.e.length cx) (.slice ay s.s.length cy) (.slice p4 s9.e.length g4) (.slice q4 s9.s.length l4) (.string ⟨p.toArray⟩) (.string ⟨q.toArray⟩) → X.cell? ⟨P, 0, none⟩ = some (.slice p4 s9.e.length g4) := fun X hx => (twoM hx.2.1).1
      have v1q : ∀ X, smQ X w.heap.size P (w.heap.size + 1 + 1) (.slice ax s.e.length cx) (.slice ay s.s.length cy) (.slice p4 s9.e.length g4) (.slice q4 s9.s.length l4) (.string ⟨p.toArray⟩) (.string ⟨q.toArray⟩) → X.cell? ⟨P, 1, none⟩ = some (.slice q4 s9.s.length l4) := fun X hx => (twoM hx.2.1).2
      have r0q : ∀ X, smQ X w.heap.size P (w.heap.size + 1 + 1) (.slice ax s.e.length cx) (.slice ay s.s.length cy) (.slice p4 s9.e.length g4) (.slice q4 s9.s.length l4) (.string ⟨p.toArray⟩) (.string ⟨q.toArray⟩) → X.cell? ⟨w.heap.size + 1 + 1, 0, none⟩ = some (.string ⟨p.toArray⟩) := fun X hx => (twoM hx.2.2).1
      have r1q : ∀ X, smQ X w.heap.size P (w.heap.size + 1 + 1) (.slice ax s.e.length cx) (.slice ay s.s.length cy) (.slice p4 s9.e.length g4) (.slice q4 s9.s.length l4) (.string ⟨p.toArray⟩) (.string ⟨q.toArray⟩) → X.cell? ⟨w.heap.size + 1 + 1, 1, none⟩ = some (.string ⟨q.toArray⟩) := fun X hx => (twoM hx.2.2).2
      refine wp_region_held_drew (S := (fun X => smQ X w.heap.size P (w.heap.size + 1 + 1) (.slice ax s.e.length cx) (.slice ay s.s.length cy) (.slice p4 s9.e.length g4) (.slice q4 s9.s.length l4) (.string ⟨p.toArray⟩) (.string ⟨q.toArray⟩))) (by kernel_rfl) ?_ (fun hHeld => ?_)
      · exact smQ_up (Below.refl _ _).drew D.out
      refine wpAnyH_take (i := 0) (oi := { dst := some 80, op := Op.fieldAddr 25 (Operand.tmp 7) 1, type := 0, pos := "law.go:70", after := #[], guard := none }) (v := ?_) rfl (by as_aux_lemma => kernel_rfl) (by as_aux_lemma => kernel_rfl) (by as_aux_lemma => kernel_rfl) (fun _ _ _ h => h) (Or.inl ⟨by rfl, ?_⟩) (by assumption) ?_
      rotate_left
      · intro w' hSw
        try dsimp only at hSw
        go_simp
        try with_reducible rfl
      try simp only [Act.put, List.setIfInBounds_toArray, List.set_cons_zero, List.set_cons_succ]
      refine wpAnyH_take (i := 1) (oi := { dst := some 81, op := Op.load 23 (Operand.tmp 80), type := 23, pos := "law.go:70", after := #[{ on := 0, ground := Ground.data }], guard := none }) (v := ?_) rfl (by as_aux_lemma => kernel_rfl) (by as_aux_lemma => kernel_rfl) (by as_aux_lemma => kernel_rfl) (fun _ _ _ h => h) (Or.inl ⟨by rfl, ?_⟩) (by assumption) ?_
      rotate_left
      · intro w' hSw
        try dsimp only at hSw
        go_simp
        try with_reducible rfl
      try simp only [Act.put, List.setIfInBounds_toArray, List.set_cons_zero, List.set_cons_succ]
      refine wpAnyH_take (i := 2) (oi := { dst := some 82, op := Op.indexAddr 47 (Operand.tmp 5) (Operand.const (Value.int IntKind.i64 0)), type := 0, pos := "law.go:70", after := #[], guard := none }) (v := ?_) rfl (by as_aux_lemma => kernel_rfl) (by as_aux_lemma => kernel_rfl) (by as_aux_lemma => kernel_rfl) (fun _ _ _ h => h) (Or.inl ⟨by rfl, ?_⟩) (by assumption) ?_
      rotate_left
      · intro w' hSw
        try dsimp only at hSw
        go_simp
        try with_reducible rfl
      try simp only [Act.put, List.setIfInBounds_toArray, List.set_cons_zero, List.set_cons_succ]
      refine wpAnyH_take (i := 3) (oi := { dst := some 83, op := Op.load 9 (Operand.tmp 82), type := 9, pos := "law.go:70", after := #[{ on := 2, ground := Ground.data }], guard := none }) (v := ?_) rfl (by as_aux_lemma => kernel_rfl) (by as_aux_lemma => kernel_rfl) (by as_aux_lemma => kernel_rfl) (fun _ _ _ h => h) (Or.inl ⟨by rfl, ?_⟩) (by assumption) ?_
      rotate_left
      · intro w' hSw
        try dsimp only at hSw
        go_simp
        try with_reducible rfl
      try simp only [Act.put, List.setIfInBounds_toArray, List.set_cons_zero, List.set_cons_succ]
      refine wpAnyH_take (i := 5) (oi := { dst := some 85, op := Op.fieldAddr 25 (Operand.tmp 3) 1, type := 0, pos := "law.go:70", after := #[], guard := none }) (v := ?_) rfl (by as_aux_lemma => kernel_rfl) (by as_aux_lemma => kernel_rfl) (by as_aux_lemma => kernel_rfl) (fun _ _ _ h => h) (Or.inl ⟨by rfl, ?_⟩) (by assumption) ?_
      rotate_left
      · intro w' hSw
        try dsimp only at hSw
        go_simp
        try with_reducible rfl
      try simp only [Act.put, List.setIfInBounds_toArray, List.set_cons_zero, List.set_cons_succ]
      refine wpAnyH_take (i := 6) (oi := { dst := some 86, op := Op.load 23 (Operand.tmp 85), type := 23, pos := "law.go:70", after := #[{ on := 5, ground := Ground.data }], guard := none }) (v := ?_) rfl (by as_aux_lemma => kernel_rfl) (by as_aux_lemma => kernel_rfl) (by as_aux_lemma => kernel_rfl) (fun _ _ _ h => h) (Or.inl ⟨by rfl, ?_⟩) (by assumption) ?_
      rotate_left
      · intro w' hSw
        try dsimp only at hSw
        go_simp
        try with_reducible rfl
      try simp only [Act.put, List.setIfInBounds_toArray, List.set_cons_zero, List.set_cons_succ]
      refine wpAnyH_take (i := 7) (oi := { dst := some 87, op := Op.indexAddr 47 (Operand.tmp 5) (Operand.const (Value.int IntKind.i64 0)), type := 0, pos := "law.go:70", after := #[], guard := none }) (v := ?_) rfl (by as_aux_lemma => kernel_rfl) (by as_aux_lemma => kernel_rfl) (by as_aux_lemma => kernel_rfl) (fun _ _ _ h => h) (Or.inl ⟨by rfl, ?_⟩) (by assumption) ?_
      rotate_left
      · intro w' hSw
        try dsimp only at hSw
        go_simp
        try with_reducible rfl
      try simp only [Act.put, List.setIfInBounds_toArray, List.set_cons_zero, List.set_cons_succ]
      refine wpAnyH_take (i := 8) (oi := { dst := some 88, op := Op.load 9 (Operand.tmp 87), type := 9, pos := "law.go:70", after := #[{ on := 7, ground := Ground.data }], guard := none }) (v := ?_) rfl (by as_aux_lemma => kernel_rfl) (by as_aux_lemma => kernel_rfl) (by as_aux_lemma => kernel_rfl) (fun _ _ _ h => h) (Or.inl ⟨by rfl, ?_⟩) (by assumption) ?_
      rotate_left
      · intro w' hSw
        try dsimp only at hSw
        go_simp
        try with_reducible rfl
      try simp only [Act.put, List.setIfInBounds_toArray, List.set_cons_zero, List.set_cons_succ]
      refine wpAnyH_ready (rs := [4]) (by as_aux_lemma => kernel_rfl) (by simp) ?_
      refine AllReadyH.cons (o := { dst := some 84, op := Op.call { callee := Callee.value (Operand.func 28), args := #[Operand.tmp 81, Operand.tmp 83], argTypes := #[23, 9] }, type := 23, pos := "law.go:70", after := #[{ on := 1, ground := Ground.data }, { on := 3, ground := Ground.data }], guard := none }) rfl (fun Kx hK => ?_) AllReadyH.nil
      go_simp
      refine (rsof_any (X4.out.2.later (Below.refl _ _).drew) (Nat.le_trans HL9.out (by decide)) p).mono ?_
      rintro e z1 ⟨v1, rfl, hv1, b19⟩
      have K1 := Lib.hid (below2Z (Below.refl _ _).drew b19)
      have D1 := Lib.hid (smQ_up K1.out D.out)
      rw [E8.out] at hv1
      have Y1 := Lib.hid (hv1.rd sesOK)
      obtain ⟨ya1, yk1, rfl, -⟩ := RdS.open' Y1.out
      clear hv1
      clear b19
      go_wp2_with fail
      refine hK.out _ _ ?_ (fun hHeld2 => ?_)
      · exact D1.out
      clear hK Kx hHeld
      have hHeld := hHeld2
      clear hHeld2
      try simp only [Act.put, List.setIfInBounds_toArray, List.set_cons_zero, List.set_cons_succ]
      refine wpAnyH_ready (rs := [9]) (by as_aux_lemma => kernel_rfl) (by simp) ?_
      refine AllReadyH.cons (o := { dst := some 89, op := Op.call { callee := Callee.value (Operand.func 28), args := #[Operand.tmp 86, Operand.tmp 88], argTypes := #[23, 9] }, type := 23, pos := "law.go:70", after := #[{ on := 6, ground := Ground.data }, { on := 8, ground := Ground.data }, { on := 4, ground := Ground.chain }], guard := none }) rfl (fun Kx hK => ?_) AllReadyH.nil
      go_simp
      refine (rsof_any (V.out.2.later K1.out) (Nat.le_trans HS.out.2.2.2 (by decide)) p).mono ?_
      rintro e z2 ⟨v2, rfl, hv2, b29⟩
      have K2 := Lib.hid (below2Z K1.out b29)
      have D2 := Lib.hid (smQ_up K2.out D.out)
      replace Y1 := Lib.hid (RdS.later Y1.out b29)
      have Y2 := Lib.hid (hv2.rd sesOK)
      obtain ⟨ya2, yk2, rfl, -⟩ := RdS.open' Y2.out
      clear hv2
      clear b29
      go_wp2_with fail
      refine hK.out _ _ ?_ (fun hHeld2 => ?_)
      · exact D2.out
      clear hK Kx hHeld
      have hHeld := hHeld2
      clear hHeld2
      try simp only [Act.put, List.setIfInBounds_toArray, List.set_cons_zero, List.set_cons_succ]
      refine wpAnyH_ready (rs := [10]) (by as_aux_lemma => kernel_rfl) (by simp) ?_
      refine AllReadyH.cons (o := { dst := some 90, op := Op.call { callee := Callee.value (Operand.func 27), args := #[Operand.tmp 84, Operand.tmp 89], argTypes := #[23, 23] }, type := 4, pos := "law.go:70", after := #[{ on := 4, ground := Ground.data }, { on := 9, ground := Ground.data }, { on := 9, ground := Ground.chain }], guard := none }) rfl (fun Kx hK => ?_) AllReadyH.nil
      go_simp
      refine (rssame_any Y1.out Y2.out (Lib.hid (sessSame_self _))).mono ?_
      rintro e z3 ⟨rfl, b39⟩
      have K3 := Lib.hid (below2Z K2.out b39)
      have D3 := Lib.hid (smQ_up K3.out D.out)
      clear Y1 Y2
      clear b39
      go_wp2_with fail
      refine hK.out _ _ ?_ (fun hHeld2 => ?_)
      · exact D3.out
      clear hK Kx hHeld
      have hHeld := hHeld2
      clear hHeld2
      try simp only [Act.put, List.setIfInBounds_toArray, List.set_cons_zero, List.set_cons_succ]
      refine wpAnyH_take (i := 11) (oi := { dst := some 91, op := Op.move (Operand.tmp 90), type := 4, pos := "law.go:70", after := #[{ on := 10, ground := Ground.data }, { on := 10, ground := Ground.chain }], guard := none }) (v := ?_) rfl (by as_aux_lemma => kernel_rfl) (by as_aux_lemma => kernel_rfl) (by as_aux_lemma => kernel_rfl) (fun _ _ _ h => h) (Or.inl ⟨by rfl, ?_⟩) (by assumption) ?_
      rotate_left
      · intro w' hSw
        try dsimp only at hSw
        go_simp
        try with_reducible rfl
      try simp only [Act.put, List.setIfInBounds_toArray, List.set_cons_zero, List.set_cons_succ]
      refine wpAnyH_take (i := 12) (oi := { dst := some 92, op := Op.fieldAddr 25 (Operand.tmp 7) 0, type := 0, pos := "law.go:70", after := #[{ on := 11, ground := Ground.guard }], guard := some (11, true) }) (v := ?_) rfl (by as_aux_lemma => kernel_rfl) (by as_aux_lemma => kernel_rfl) (by as_aux_lemma => kernel_rfl) (fun _ _ _ h => h) (Or.inl ⟨by rfl, ?_⟩) (by assumption) ?_
      rotate_left
      · intro w' hSw
        try dsimp only at hSw
        go_simp
        try with_reducible rfl
      try simp only [Act.put, List.setIfInBounds_toArray, List.set_cons_zero, List.set_cons_succ]
      refine wpAnyH_take (i := 13) (oi := { dst := some 93, op := Op.load 22 (Operand.tmp 92), type := 22, pos := "law.go:70", after := #[{ on := 12, ground := Ground.data }, { on := 11, ground := Ground.guard }], guard := some (11, true) }) (v := ?_) rfl (by as_aux_lemma => kernel_rfl) (by as_aux_lemma => kernel_rfl) (by as_aux_lemma => kernel_rfl) (fun _ _ _ h => h) (Or.inl ⟨by rfl, ?_⟩) (by assumption) ?_
      rotate_left
      · intro w' hSw
        try dsimp only at hSw
        go_simp
        try with_reducible rfl
      try simp only [Act.put, List.setIfInBounds_toArray, List.set_cons_zero, List.set_cons_succ]
      refine wpAnyH_take (i := 14) (oi := { dst := some 94, op := Op.indexAddr 47 (Operand.tmp 5) (Operand.const (Value.int IntKind.i64 0)), type := 0, pos := "law.go:70", after := #[{ on := 11, ground := Ground.guard }], guard := some (11, true) }) (v := ?_) rfl (by as_aux_lemma => kernel_rfl) (by as_aux_lemma => kernel_rfl) (by as_aux_lemma => kernel_rfl) (fun _ _ _ h => h) (Or.inl ⟨by rfl, ?_⟩) (by assumption) ?_
      rotate_left
      · intro w' hSw
        try dsimp only at hSw
        go_simp
        try with_reducible rfl
      try simp only [Act.put, List.setIfInBounds_toArray, List.set_cons_zero, List.set_cons_succ]
      refine wpAnyH_take (i := 15) (oi := { dst := some 95, op := Op.load 9 (Operand.tmp 94), type := 9, pos := "law.go:70", after := #[{ on := 14, ground := Ground.data }, { on := 11, ground := Ground.guard }], guard := some (11, true) }) (v := ?_) rfl (by as_aux_lemma => kernel_rfl) (by as_aux_lemma => kernel_rfl) (by as_aux_lemma => kernel_rfl) (fun _ _ _ h => h) (Or.inl ⟨by rfl, ?_⟩) (by assumption) ?_
      rotate_left
      · intro w' hSw
        try dsimp only at hSw
        go_simp
        try with_reducible rfl
      try simp only [Act.put, List.setIfInBounds_toArray, List.set_cons_zero, List.set_cons_succ]
      refine wpAnyH_take (i := 16) (oi := { dst := some 96, op := Op.indexAddr 47 (Operand.tmp 5) (Operand.const (Value.int IntKind.i64 1)), type := 0, pos := "law.go:70", after := #[{ on := 11, ground := Ground.guard }], guard := some (11, true) }) (v := ?_) rfl (by as_aux_lemma => kernel_rfl) (by as_aux_lemma => kernel_rfl) (by as_aux_lemma => kernel_rfl) (fun _ _ _ h => h) (Or.inl ⟨by rfl, ?_⟩) (by assumption) ?_
      rotate_left
      · intro w' hSw
        try dsimp only at hSw
        go_simp
        try with_reducible rfl
      try simp only [Act.put, List.setIfInBounds_toArray, List.set_cons_zero, List.set_cons_succ]
      refine wpAnyH_take (i := 17) (oi := { dst := some 97, op := Op.load 9 (Operand.tmp 96), type := 9, pos := "law.go:70", after := #[{ on := 16, ground := Ground.data }, { on := 11, ground := Ground.guard }], guard := some (11, true) }) (v := ?_) rfl (by as_aux_lemma => kernel_rfl) (by as_aux_lemma => kernel_rfl) (by as_aux_lemma => kernel_rfl) (fun _ _ _ h => h) (Or.inl ⟨by rfl, ?_⟩) (by assumption) ?_
      rotate_left
      · intro w' hSw
        try dsimp only at hSw
        go_simp
        try with_reducible rfl
      try simp only [Act.put, List.setIfInBounds_toArray, List.set_cons_zero, List.set_cons_succ]
      refine wpAnyH_take (i := 19) (oi := { dst := some 99, op := Op.fieldAddr 25 (Operand.tmp 3) 0, type := 0, pos := "law.go:70", after := #[{ on := 11, ground := Ground.guard }], guard := some (11, true) }) (v := ?_) rfl (by as_aux_lemma => kernel_rfl) (by as_aux_lemma => kernel_rfl) (by as_aux_lemma => kernel_rfl) (fun _ _ _ h => h) (Or.inl ⟨by rfl, ?_⟩) (by assumption) ?_
      rotate_left
      · intro w' hSw
        try dsimp only at hSw
        go_simp
        try with_reducible rfl
      try simp only [Act.put, List.setIfInBounds_toArray, List.set_cons_zero, List.set_cons_succ]
      refine wpAnyH_take (i := 20) (oi := { dst := some 100, op := Op.load 22 (Operand.tmp 99), type := 22, pos := "law.go:70", after := #[{ on := 19, ground := Ground.data }, { on := 11, ground := Ground.guard }], guard := some (11, true) }) (v := ?_) rfl (by as_aux_lemma => kernel_rfl) (by as_aux_lemma => kernel_rfl) (by as_aux_lemma => kernel_rfl) (fun _ _ _ h => h) (Or.inl ⟨by rfl, ?_⟩) (by assumption) ?_
      rotate_left
      · intro w' hSw
        try dsimp only at hSw
        go_simp
        try with_reducible rfl
      try simp only [Act.put, List.setIfInBounds_toArray, List.set_cons_zero, List.set_cons_succ]
      refine wpAnyH_take (i := 21) (oi := { dst := some 101, op := Op.indexAddr 47 (Operand.tmp 5) (Operand.const (Value.int IntKind.i64 0)), type := 0, pos := "law.go:70", after := #[{ on := 11, ground := Ground.guard }], guard := some (11, true) }) (v := ?_) rfl (by as_aux_lemma => kernel_rfl) (by as_aux_lemma => kernel_rfl) (by as_aux_lemma => kernel_rfl) (fun _ _ _ h => h) (Or.inl ⟨by rfl, ?_⟩) (by assumption) ?_
      rotate_left
      · intro w' hSw
        try dsimp only at hSw
        go_simp
        try with_reducible rfl
      try simp only [Act.put, List.setIfInBounds_toArray, List.set_cons_zero, List.set_cons_succ]
      refine wpAnyH_take (i := 22) (oi := { dst := some 102, op := Op.load 9 (Operand.tmp 101), type := 9, pos := "law.go:70", after := #[{ on := 21, ground := Ground.data }, { on := 11, ground := Ground.guard }], guard := some (11, true) }) (v := ?_) rfl (by as_aux_lemma => kernel_rfl) (by as_aux_lemma => kernel_rfl) (by as_aux_lemma => kernel_rfl) (fun _ _ _ h => h) (Or.inl ⟨by rfl, ?_⟩) (by assumption) ?_
      rotate_left
      · intro w' hSw
        try dsimp only at hSw
        go_simp
        try with_reducible rfl
      try simp only [Act.put, List.setIfInBounds_toArray, List.set_cons_zero, List.set_cons_succ]
      refine wpAnyH_take (i := 23) (oi := { dst := some 103, op := Op.indexAddr 47 (Operand.tmp 5) (Operand.const (Value.int IntKind.i64 1)), type := 0, pos := "law.go:70", after := #[{ on := 11, ground := Ground.guard }], guard := some (11, true) }) (v := ?_) rfl (by as_aux_lemma => kernel_rfl) (by as_aux_lemma => kernel_rfl) (by as_aux_lemma => kernel_rfl) (fun _ _ _ h => h) (Or.inl ⟨by rfl, ?_⟩) (by assumption) ?_
      rotate_left
      · intro w' hSw
        try dsimp only at hSw
        go_simp
        try with_reducible rfl
      try simp only [Act.put, List.setIfInBounds_toArray, List.set_cons_zero, List.set_cons_succ]
      refine wpAnyH_take (i := 24) (oi := { dst := some 104, op := Op.load 9 (Operand.tmp 103), type := 9, pos := "law.go:70", after := #[{ on := 23, ground := Ground.data }, { on := 11, ground := Ground.guard }], guard := some (11, true) }) (v := ?_) rfl (by as_aux_lemma => kernel_rfl) (by as_aux_lemma => kernel_rfl) (by as_aux_lemma => kernel_rfl) (fun _ _ _ h => h) (Or.inl ⟨by rfl, ?_⟩) (by assumption) ?_
      rotate_left
      · intro w' hSw
        try dsimp only at hSw
        go_simp
        try with_reducible rfl
      try simp only [Act.put, List.setIfInBounds_toArray, List.set_cons_zero, List.set_cons_succ]
      refine wpAnyH_ready (rs := [18]) (by as_aux_lemma => kernel_rfl) (by simp) ?_
      refine AllReadyH.cons (o := { dst := some 98, op := Op.call { callee := Callee.value (Operand.func 29), args := #[Operand.tmp 93, Operand.tmp 95, Operand.tmp 97], argTypes := #[22, 9, 9] }, type := 51, pos := "law.go:70", after := #[{ on := 13, ground := Ground.data }, { on := 15, ground := Ground.data }, { on := 17, ground := Ground.data }, { on := 11, ground := Ground.chain }, { on := 11, ground := Ground.guard }], guard := some (11, true) }) rfl (fun Kx hK => ?_) AllReadyH.nil
      go_simp
      refine (rget8_eq (X4.out.1.later K3.out) p q G1).mono ?_
      rintro e z4 ⟨rfl, b49⟩
      have K4 := Lib.hid (below2Z K3.out b49)
      have D4 := Lib.hid (smQ_up K4.out D.out)
      clear b49
      go_wp2_with fail
      refine hK.out _ _ ?_ (fun hHeld2 => ?_)
      · exact D4.out
      clear hK Kx hHeld
      have hHeld := hHeld2
      clear hHeld2
      try simp only [Act.put, List.setIfInBounds_toArray, List.set_cons_zero, List.set_cons_succ]
      refine wpAnyH_ready (rs := [25]) (by as_aux_lemma => kernel_rfl) (by simp) ?_
      refine AllReadyH.cons (o := { dst := some 105, op := Op.call { callee := Callee.value (Operand.func 29), args := #[Operand.tmp 100, Operand.tmp 102, Operand.tmp 104], argTypes := #[22, 9, 9] }, type := 51, pos := "law.go:70", after := #[{ on := 20, ground := Ground.data }, { on := 22, ground := Ground.data }, { on := 24, ground := Ground.data }, { on := 18, ground := Ground.chain }, { on := 11, ground := Ground.guard }], guard := some (11, true) }) rfl (fun Kx hK => ?_) AllReadyH.nil
      go_simp
      refine (rget8_eq (V.out.1.later K4.out) p q G2).mono ?_
      rintro e z5 ⟨rfl, b59⟩
      have K5 := Lib.hid (below2Z K4.out b59)
      have D5 := Lib.hid (smQ_up K5.out D.out)
      clear b59
      go_wp2_with fail
      refine hK.out _ _ ?_ (fun hHeld2 => ?_)
      · exact D5.out
      clear hK Kx hHeld
      have hHeld := hHeld2
      clear hHeld2
      try simp only [Act.put, List.setIfInBounds_toArray, List.set_cons_zero, List.set_cons_succ]
      refine wpAnyH_take (i := 26) (oi := { dst := some 106, op := Op.binOp BinOp.eql 51 (Operand.tmp 98) (Operand.tmp 105) 51, type := 4, pos := "law.go:70", after := #[{ on := 18, ground := Ground.data }, { on := 25, ground := Ground.data }, { on := 11, ground := Ground.guard }], guard := some (11, true) }) (v := ?_) rfl (by as_aux_lemma => kernel_rfl) (by as_aux_lemma => kernel_rfl) (by as_aux_lemma => kernel_rfl) (fun _ _ _ h => h) (Or.inl ⟨by rfl, ?_⟩) (by assumption) ?_
      rotate_left
      · intro w' hSw
        try dsimp only at hSw
        go_simp
        try with_reducible rfl
      try simp only [Act.put, List.setIfInBounds_toArray, List.set_cons_zero, List.set_cons_succ]
      refine wpAnyH_take (i := 27) (oi := { dst := some 107, op := Op.pick (Operand.tmp 91) (Operand.tmp 106) (Operand.const (Value.bool false)), type := 4, pos := "law.go:70", after := #[{ on := 11, ground := Ground.data }, { on := 26, ground := Ground.data }], guard := none }) (v := ?_) rfl (by as_aux_lemma => kernel_rfl) (by as_aux_lemma => kernel_rfl) (by as_aux_lemma => kernel_rfl) (fun _ _ _ h => h) (Or.inl ⟨by rfl, ?_⟩) (by assumption) ?_
      rotate_left
      · intro w' hSw
        try dsimp only at hSw
        go_simp
        try with_reducible rfl
      try simp only [Act.put, List.setIfInBounds_toArray, List.set_cons_zero, List.set_cons_succ]
      refine wpAnyH_take (i := 28) (oi := { dst := some 108, op := Op.move (Operand.tmp 107), type := 4, pos := "law.go:70", after := #[{ on := 27, ground := Ground.data }, { on := 25, ground := Ground.chain }], guard := none }) (v := ?_) rfl (by as_aux_lemma => kernel_rfl) (by as_aux_lemma => kernel_rfl) (by as_aux_lemma => kernel_rfl) (fun _ _ _ h => h) (Or.inl ⟨by rfl, ?_⟩) (by assumption) ?_
      rotate_left
      · intro w' hSw
        try dsimp only at hSw
        go_simp
        try with_reducible rfl
      try simp only [Act.put, List.setIfInBounds_toArray, List.set_cons_zero, List.set_cons_succ]
      refine wpAnyH_ready (rs := [29]) (by as_aux_lemma => kernel_rfl) (by simp) ?_
      refine AllReadyH.cons (o := { dst := some 109, op := Op.call { callee := Callee.value (Operand.func 14), args := #[], argTypes := #[] }, type := 4, pos := "law.go:70", after := #[{ on := 28, ground := Ground.chain }, { on := 28, ground := Ground.guard }], guard := some (28, true) }) rfl (fun Kx hK => ?_) AllReadyH.nil
      go_simp
      refine (live14 _).mono ?_
      rintro e z6 ⟨rfl, b69⟩
      have K6 := Lib.hid (below2Z K5.out b69)
      have D6 := Lib.hid (smQ_up K6.out D.out)
      clear b69
      go_wp2_with fail
      refine hK.out _ _ ?_ (fun hHeld2 => ?_)
      · exact D6.out
      clear hK Kx hHeld
      have hHeld := hHeld2
      clear hHeld2
      try simp only [Act.put, List.setIfInBounds_toArray, List.set_cons_zero, List.set_cons_succ]
      refine wpAnyH_take (i := 30) (oi := { dst := some 110, op := Op.pick (Operand.tmp 108) (Operand.tmp 109) (Operand.const (Value.bool false)), type := 4, pos := "law.go:70", after := #[{ on := 28, ground := Ground.data }, { on := 29, ground := Ground.data }], guard := none }) (v := ?_) rfl (by as_aux_lemma => kernel_rfl) (by as_aux_lemma => kernel_rfl) (by as_aux_lemma => kernel_rfl) (fun _ _ _ h => h) (Or.inl ⟨by rfl, ?_⟩) (by assumption) ?_
      rotate_left
      · intro w' hSw
        try dsimp only at hSw
        go_simp
        try with_reducible rfl
      try simp only [Act.put, List.setIfInBounds_toArray, List.set_cons_zero, List.set_cons_succ]
      refine wpAnyH_take (i := 31) (oi := { dst := some 6, op := Op.assign (Operand.tmp 110), type := 4, pos := "law.go:70", after := #[{ on := 30, ground := Ground.data }, { on := 29, ground := Ground.chain }, { on := 0, ground := Ground.phase }, { on := 1, ground := Ground.phase }, { on := 2, ground := Ground.phase }, { on := 3, ground := Ground.phase }, { on := 4, ground := Ground.phase }, { on := 5, ground := Ground.phase }, { on := 6, ground := Ground.phase }, { on := 7, ground := Ground.phase }, { on := 8, ground := Ground.phase }, { on := 9, ground := Ground.phase }, { on := 10, ground := Ground.phase }, { on := 11, ground := Ground.phase }, { on := 12, ground := Ground.phase }, { on := 13, ground := Ground.phase }, { on := 14, ground := Ground.phase }, { on := 15, ground := Ground.phase }, { on := 16, ground := Ground.phase }, { on := 17, ground := Ground.phase }, { on := 18, ground := Ground.phase }, { on := 19, ground := Ground.phase }, { on := 20, ground := Ground.phase }, { on := 21, ground := Ground.phase }, { on := 22, ground := Ground.phase }, { on := 23, ground := Ground.phase }, { on := 24, ground := Ground.phase }, { on := 25, ground := Ground.phase }, { on := 26, ground := Ground.phase }, { on := 27, ground := Ground.phase }, { on := 28, ground := Ground.phase }, { on := 29, ground := Ground.phase }, { on := 30, ground := Ground.phase }], guard := none }) (v := ?_) rfl (by as_aux_lemma => kernel_rfl) (by as_aux_lemma => kernel_rfl) (by as_aux_lemma => kernel_rfl) (fun _ _ _ h => h) (Or.inl ⟨by rfl, ?_⟩) (by assumption) ?_
      rotate_left
      · intro w' hSw
        try dsimp only at hSw
        go_simp
        try with_reducible rfl
      try simp only [Act.put, List.setIfInBounds_toArray, List.set_cons_zero, List.set_cons_succ]
      refine wpAnyH_done (by kernel_rfl) ?_ _
      replace HB := Lib.hid (below2Z HB.out K6.out)
      go_wp2_with fail
      go_ret
      exact ⟨rfl, HB.out⟩

theorem walkStateMay {w : World} {x y : Value} {s : Sta} (h : StAt w x y s) (_ : ∀ r ∈ s.s, SesFit r) (e : Ev) (_ : evFit e) (zs : List (List UInt8)) (hz : zs.length = 2 ∧ ∀ z ∈ zs, z.length ≤ maxLen) :
    Calls Tryz.prog 5 #[.agg #[x, y], .agg #[.int .i64 e.k, .string ⟨e.u.toArray⟩, .string ⟨e.o.toArray⟩, .int .i64 e.id, .int .i64 e.v.sh, .int .i64 e.v.pr, .int .i64 e.v.si, .string ⟨e.v.st.toArray⟩], .agg (zs.map (fun z => Value.string ⟨z.toArray⟩)).toArray] w fun z w' => z = .returned (.bool true) ∧ Below w.heap.size w w' := by
  match zs, hz.1 with
  | [p, q], _ =>
    show Calls Tryz.prog 5 #[.agg #[x, y], .agg #[.int .i64 e.k, .string ⟨e.u.toArray⟩, .string ⟨e.o.toArray⟩, .int .i64 e.id, .int .i64 e.v.sh, .int .i64 e.v.pr, .int .i64 e.v.si, .string ⟨e.v.st.toArray⟩], .agg #[.string ⟨p.toArray⟩, .string ⟨q.toArray⟩]] w _
    cases hs : fewSta s with
    | false => exact smay_1 h e.k e.u e.o e.v.st e.id e.v.sh e.v.pr e.v.si p q hs
    | true =>
      cases hm : stMay s with
      | false => exact smay_2 h e.k e.u e.o e.v.st e.id e.v.sh e.v.pr e.v.si p q hs hm
      | true =>
        cases he : shortEv e with
        | false => exact smay_3 h e.k e.u e.o e.v.st e.id e.v.sh e.v.pr e.v.si p q hs hm he
        | true =>
          by_cases h1 : p.length ≤ 40
          · by_cases h2 : q.length ≤ 40
            · obtain ⟨s9, n, hd⟩ : ∃ s9 n, stApply s e = (s9, n) := ⟨_, _, rfl⟩
              by_cases hn : n = 0
              · subst hn
                cases hz : staSame s s9 with
                | false => exact smay_7 h e.k e.u e.o e.v.st e.id e.v.sh e.v.pr e.v.si p q hs hm he h1 h2 hd hz
                | true =>
                  have h7 : e.k = 7 := Classical.byContradiction fun h => by rw [st_moves hd h] at hz; cases hz
                  exact smay_8 h e.k e.u e.o e.v.st e.id e.v.sh e.v.pr e.v.si p q hs hm he h1 h2 hd hz h7
              · exact smay_6 h e.k e.u e.o e.v.st e.id e.v.sh e.v.pr e.v.si p q hs hm he h1 h2 hd hn
            · exact smay_5 h e.k e.u e.o e.v.st e.id e.v.sh e.v.pr e.v.si p q hs hm he h1 h2
          · exact smay_4 h e.k e.u e.o e.v.st e.id e.v.sh e.v.pr e.v.si p q hs hm he h1

end Go.Proofs.YtdilcckoapaimaaGreat

end

section

/-
  THE FRAME OF THE PROOF OF StateMay: for every input the law returns true, and each argument reads behind the call as it read before. No condition.
-/
namespace Go.Proofs.YtdilcckoapaimaaGreat.stateMay
open Go.ChangeShapes Go.WideShapes Go.ChangeAt Go.RowKit
open Go.ChangeMaps (open_string shut_string)
set_option linter.unusedVariables false

theorem own : ownKnob Tryz.prog.godebug = none := by kernel_rfl
theorem laidOut : laidOutB Tryz.prog = true := by kernel_rfl

set_option maxRecDepth 100000 in
theorem lifted (os : Os) (started : os.Started) (H : Type) (enc : TypeId × Value → H) :
    ReturnsInHanded {} Tryz.checked os 5 .any (Rows.stateMaySpec.pre6 enc Tryz.prog Tryz.f5 Rows.stateMayRow.domain false) (Rows.stateMaySpec.post enc Tryz.prog Tryz.f5 false true false false) := by
  refine returnsInHanded_of_change (C := Tryz.checked) own started (by kernel_rfl) Tryz.func5
    (ChangeSpec.witness6 (enc := enc) (C := Tryz.checked) false ⟨#[], #[.agg #[.slice none 0 0, .slice none 0 0], .agg #[.int .i64 0, .string ByteArray.empty, .string ByteArray.empty, .int .i64 0, .int .i64 0, .int .i64 0, .int .i64 0, .string ByteArray.empty], .agg #[.string ByteArray.empty, .string ByteArray.empty]], []⟩ 8 (by kernel_rfl) (by kernel_rfl) (by kernel_rfl) (by kernel_rfl)) ?_
  intro W base args ds gs before hval0 hW hcnd _
  have hval : ∀ (j : Nat) t v, Tryz.f5.params[j]? = some t → args[j]? = some v → Value.okWide Tryz.prog W .any base t v := hval0
  have hW' := hW
  obtain ⟨p, q, hA0, hV, rfl, hfz, hnd⟩ := hW
  have hA : DataW.TrodAll enc Tryz.prog W 0 (fun _ => true) true Tryz.f5.params.toList args.toList ds p := hA0
  rw [Tryz.params5] at hA hval
  obtain ⟨v0, vs0, d0, ds0, p0, q0, hargs, rfl, rfl, h0, r0⟩ := trodAll_cons hA
  obtain ⟨v1, vs1, d1, ds1, p1, q1, rfl, rfl, rfl, h1, r1⟩ := trodAll_cons r0
  obtain ⟨v2, vs2, d2, ds2, p2, q2, rfl, rfl, rfl, h2, r2⟩ := trodAll_cons r1
  obtain ⟨rfl, rfl, rfl⟩ := trodAll_nil r2
  obtain rfl : args = #[v0, v1, v2] := by cases args; simp_all
  obtain ⟨rfl, rfl⟩ := trodVars_none hV
  have k0 := h0
  have lt0 : ∀ x ∈ p0, x.block < W.heap.size := by obtain ⟨m, hm⟩ := k0; exact DataW.trod_lt m _ _ _ hm
  obtain ⟨x0, y0, l0, rfl, w0, f0⟩ := open_sta (hval 0 25 v0 rfl rfl) h0
  have k1 := h1
  have lt1 : ∀ x ∈ p1, x.block < W.heap.size := by obtain ⟨m, hm⟩ := k1; exact DataW.trod_lt m _ _ _ hm
  obtain ⟨a1, rfl, w1⟩ := open_ev (hval 1 29 v1 rfl rfl) h1
  have k2 := h2
  have lt2 : ∀ x ∈ p2, x.block < W.heap.size := by obtain ⟨m, hm⟩ := k2; exact DataW.trod_lt m _ _ _ hm
  obtain ⟨z2, rfl, w2⟩ := open_strs_array Tryz.underlying47 Tryz.underlying9 (by kernel_rfl) (by kernel_rfl) (hval 2 47 v2 rfl rfl) h2
  clear hA0 hval0
  refine (walkStateMay (w := W) w0 f0 a1 w1 z2 w2).mono fun e W' ⟨he, bel⟩ => ?_
  subst he
  exact ⟨_, rfl, _, _, _, [], _, [], hW', trodAll_mk1 (shut_bool Tryz.underlying4 _), (trodAll_cons_mk (Below.trod laidOut (by kernel_rfl) (of_decide_eq_true (by kernel_rfl)) k0 bel lt0) (trodAll_cons_mk (Below.trod laidOut (by kernel_rfl) (of_decide_eq_true (by kernel_rfl)) k1 bel lt1) (trodAll_cons_mk (Below.trod laidOut (by kernel_rfl) (of_decide_eq_true (by kernel_rfl)) k2 bel lt2) trodAll_mk0))), rfl, bel.frame _, fun h => by cases h⟩

theorem over : Rows.stateMayRow.holds Tryz.pinned (OpenSpec.ofChange Rows.stateMaySpec) :=
  OpenClaim.holds_of_wide 5 Tryz.f5 rfl rfl rfl rfl rfl rfl rfl ⟨rfl, rfl, rfl, rfl, rfl⟩ rfl rfl rfl rfl rfl (by kernel_rfl) Tryz.func5 (by kernel_rfl)
    (of_decide_eq_true (by kernel_rfl)) (by unfold Func.isWrapper; first | (rw [if_pos (by decide +kernel)]; kernel_rfl) | (rw [if_neg (by decide +kernel)]; exact ⟨rfl, rfl⟩))
    (fun os started H enc _ => lifted os started H enc)

/-- THE STATEMENT. -/
theorem proved : Rows.StateMaySaid := over
#print axioms proved
end Go.Proofs.YtdilcckoapaimaaGreat.stateMay

end
