/-
  THE PROOF OF StateApplies: for every input the law returns true, and each argument reads behind the call as it read before. No condition.
-/
import Derived.Test.YtdilcckoapaimaaGreatD10
import Derived.Test.YtdilcckoapaimaaGreatD13
import Derived.Test.YtdilcckoapaimaaGreatD07
import Derived.BigRegion
import Derived.Deep.RegionHeld
import Derived.Deep.DeepCutAuto
import Derived.Deep.CutBlock
import Derived.Test.YtdilcckoapaimaaGreatD06
import Derived.Test.YtdilcckoapaimaaGreatRows
import Derived.ProofKit
import Derived.OpenShut
import Derived.ShutString
import Derived.ChangeOld
import Derived.SliceStrings
import Derived.Lib.SmallJoins

section

/-
  THE WALK OF StateApplies.
-/
namespace Go.Proofs.YtdilcckoapaimaaGreat
open Go.RowKit

theorem twoC {X : World} {B : Nat} {p q : Value} (h : CellsAt X B 0 [p, q]) : X.cell? ⟨B, 0, none⟩ = some p ∧ X.cell? ⟨B, 1, none⟩ = some q := by
  have h0 := h 0 _ rfl
  have h1 := h 1 _ rfl
  simp only [Nat.zero_add] at h0 h1
  exact ⟨h0, h1⟩

theorem few_shortM {l : List Ses} (h : fewSes l = true) : ShortS l := fun s hs => by
  have := (few_get h).2 s hs
  omega

theorem fewSta_get {t : Sta} (h : fewSta t = true) : ShortE t.e ∧ t.e.length ≤ 80 ∧ ShortS t.s ∧ t.s.length ≤ 50 := by
  unfold fewSta at h
  rw [Bool.and_eq_true] at h
  exact ⟨fewR_short h.1, (fewR_get h.1).1, few_shortM h.2, (few_get h.2).1⟩

/-- The five blocks that the last statement reads. -/
def saQ (X : World) (A B C P Q : Nat) (x y x2 y2 p1 p2 q1 q2 : Value) (e : Ev) : Prop :=
  CellsAt X A 0 [x, y] ∧ CellsAt X B 0 [x2, y2] ∧ CellsAt X C 0 (evVals e) ∧ CellsAt X P 0 [p1, p2] ∧ CellsAt X Q 0 [q1, q2]

theorem saQ_up {W X : World} {A B C P Q : Nat} {x y x2 y2 p1 p2 q1 q2 : Value} {e : Ev} (hb : Below W.heap.size W X) (h : saQ W A B C P Q x y x2 y2 p1 p2 q1 q2 e) : saQ X A B C P Q x y x2 y2 p1 p2 q1 q2 e :=
  ⟨h.1.later hb, h.2.1.later hb, h.2.2.1.later hb, h.2.2.2.1.later hb, h.2.2.2.2.later hb⟩

set_option maxHeartbeats 6400000 in
set_option maxRecDepth 100000 in
theorem sapp_1 {w : World} {x y x2 y2 : Value} {s t : Sta} (h : StAt w x y s) (h2 : StAt w x2 y2 t) (k : Int) (u o st : List UInt8) (id a b c : Int) (hs : fewSta s = false) :
    Calls Tryz.prog 3 #[.agg #[x, y], .agg #[x2, y2], .agg #[.int .i64 k, .string ⟨u.toArray⟩, .string ⟨o.toArray⟩, .int .i64 id, .int .i64 a, .int .i64 b, .int .i64 c, .string ⟨st.toArray⟩]] w fun e w' => e = .returned (.bool true) ∧ Below w.heap.size w w' := by
  obtain ⟨ax, cx, rfl, -⟩ := h.1.open'
  obtain ⟨ay, cy, rfl, -⟩ := RdS.open' h.2
  obtain ⟨bx, dx, rfl, -⟩ := h2.1.open'
  obtain ⟨by_, dy, rfl, -⟩ := RdS.open' h2.2
  have b0 := bl_newZ w (.cells #[.slice ax s.e.length cx, .slice ay s.s.length cy] 25)
  have b00 := bl_newZ (w.alloc (.cells #[.slice ax s.e.length cx, .slice ay s.s.length cy] 25)) (.cells #[.slice bx t.e.length dx, .slice by_ t.s.length dy] 25)
  have b000 := bl_newZ ((w.alloc (.cells #[.slice ax s.e.length cx, .slice ay s.s.length cy] 25)).alloc (.cells #[.slice bx t.e.length dx, .slice by_ t.s.length dy] 25)) (.cells #[.int .i64 k, .string ⟨u.toArray⟩, .string ⟨o.toArray⟩, .int .i64 id, .int .i64 a, .int .i64 b, .int .i64 c, .string ⟨st.toArray⟩] 29)
  have HB := Lib.hid (below2Z (below2Z b0 b00) b000)
  have C1 := Lib.hid (((cellsAt_made (w := w) (cs := #[.slice ax s.e.length cx, .slice ay s.s.length cy]) (vs := [.slice ax s.e.length cx, .slice ay s.s.length cy]) rfl 25 rfl).later b00).later b000)
  have C2 := Lib.hid ((cellsAt_made (w := w.alloc (.cells #[.slice ax s.e.length cx, .slice ay s.s.length cy] 25)) (cs := #[.slice bx t.e.length dx, .slice by_ t.s.length dy]) (vs := [.slice bx t.e.length dx, .slice by_ t.s.length dy]) rfl 25 (B := w.heap.size + 1) (by simp)).later b000)
  have C3 := Lib.hid (cellsAt_made (w := (w.alloc (.cells #[.slice ax s.e.length cx, .slice ay s.s.length cy] 25)).alloc (.cells #[.slice bx t.e.length dx, .slice by_ t.s.length dy] 25)) (cs := #[.int .i64 k, .string ⟨u.toArray⟩, .string ⟨o.toArray⟩, .int .i64 id, .int .i64 a, .int .i64 b, .int .i64 c, .string ⟨st.toArray⟩]) (vs := evVals ⟨k, u, o, id, ⟨a, b, c, st⟩⟩) rfl 29 (B := w.heap.size + 1 + 1) (by simp))
  have V := Lib.hid (h.later HB.out)
  have V2 := Lib.hid (h2.later HB.out)
  clear b0 b00 b000 h h2
  have H1 := Lib.hid hs
  obtain ⟨c0, c1⟩ := twoC C1.out
  obtain ⟨d0, d1⟩ := twoC C2.out
  obtain ⟨f0, f1, f2, f3, f4, f5, f6, f7⟩ := eightT C3.out
  go_enter Tryz.func3, Tryz.ntmps3
  go_wp2_with fail
  clear c0 c1 d0 d1 f0 f1 f2 f3 f4 f5 f6 f7
  refine (fewst_any V.out H1).mono ?_
  rintro e w1 ⟨rfl, b1⟩
  replace HB := Lib.hid (below2Z HB.out b1)
  clear b1
  go_wp2_with fail
  refine (live14 _).mono ?_
  rintro e w2 ⟨rfl, b2⟩
  replace HB := Lib.hid (below2Z HB.out b2)
  clear b2
  go_wp2_with fail
  go_ret
  exact ⟨rfl, HB.out⟩

set_option maxHeartbeats 6400000 in
set_option maxRecDepth 100000 in
theorem sapp_2 {w : World} {x y x2 y2 : Value} {s t : Sta} (h : StAt w x y s) (h2 : StAt w x2 y2 t) (k : Int) (u o st : List UInt8) (id a b c : Int) (hs : fewSta s = true) (ht : fewSta t = false) :
    Calls Tryz.prog 3 #[.agg #[x, y], .agg #[x2, y2], .agg #[.int .i64 k, .string ⟨u.toArray⟩, .string ⟨o.toArray⟩, .int .i64 id, .int .i64 a, .int .i64 b, .int .i64 c, .string ⟨st.toArray⟩]] w fun e w' => e = .returned (.bool true) ∧ Below w.heap.size w w' := by
  obtain ⟨ax, cx, rfl, -⟩ := h.1.open'
  obtain ⟨ay, cy, rfl, -⟩ := RdS.open' h.2
  obtain ⟨bx, dx, rfl, -⟩ := h2.1.open'
  obtain ⟨by_, dy, rfl, -⟩ := RdS.open' h2.2
  have b0 := bl_newZ w (.cells #[.slice ax s.e.length cx, .slice ay s.s.length cy] 25)
  have b00 := bl_newZ (w.alloc (.cells #[.slice ax s.e.length cx, .slice ay s.s.length cy] 25)) (.cells #[.slice bx t.e.length dx, .slice by_ t.s.length dy] 25)
  have b000 := bl_newZ ((w.alloc (.cells #[.slice ax s.e.length cx, .slice ay s.s.length cy] 25)).alloc (.cells #[.slice bx t.e.length dx, .slice by_ t.s.length dy] 25)) (.cells #[.int .i64 k, .string ⟨u.toArray⟩, .string ⟨o.toArray⟩, .int .i64 id, .int .i64 a, .int .i64 b, .int .i64 c, .string ⟨st.toArray⟩] 29)
  have HB := Lib.hid (below2Z (below2Z b0 b00) b000)
  have C1 := Lib.hid (((cellsAt_made (w := w) (cs := #[.slice ax s.e.length cx, .slice ay s.s.length cy]) (vs := [.slice ax s.e.length cx, .slice ay s.s.length cy]) rfl 25 rfl).later b00).later b000)
  have C2 := Lib.hid ((cellsAt_made (w := w.alloc (.cells #[.slice ax s.e.length cx, .slice ay s.s.length cy] 25)) (cs := #[.slice bx t.e.length dx, .slice by_ t.s.length dy]) (vs := [.slice bx t.e.length dx, .slice by_ t.s.length dy]) rfl 25 (B := w.heap.size + 1) (by simp)).later b000)
  have C3 := Lib.hid (cellsAt_made (w := (w.alloc (.cells #[.slice ax s.e.length cx, .slice ay s.s.length cy] 25)).alloc (.cells #[.slice bx t.e.length dx, .slice by_ t.s.length dy] 25)) (cs := #[.int .i64 k, .string ⟨u.toArray⟩, .string ⟨o.toArray⟩, .int .i64 id, .int .i64 a, .int .i64 b, .int .i64 c, .string ⟨st.toArray⟩]) (vs := evVals ⟨k, u, o, id, ⟨a, b, c, st⟩⟩) rfl 29 (B := w.heap.size + 1 + 1) (by simp))
  have V := Lib.hid (h.later HB.out)
  have V2 := Lib.hid (h2.later HB.out)
  clear b0 b00 b000 h h2
  have H1 := Lib.hid hs
  have H2 := Lib.hid ht
  obtain ⟨c0, c1⟩ := twoC C1.out
  obtain ⟨d0, d1⟩ := twoC C2.out
  obtain ⟨f0, f1, f2, f3, f4, f5, f6, f7⟩ := eightT C3.out
  go_enter Tryz.func3, Tryz.ntmps3
  go_wp2_with fail
  clear c0 c1 d0 d1 f0 f1 f2 f3 f4 f5 f6 f7
  refine (fewst_any V.out H1).mono ?_
  rintro e w1 ⟨rfl, b1⟩
  replace V := Lib.hid (V.out.later b1)
  replace V2 := Lib.hid (V2.out.later b1)
  replace C1 := Lib.hid (C1.out.later b1)
  replace C2 := Lib.hid (C2.out.later b1)
  replace C3 := Lib.hid (C3.out.later b1)
  replace HB := Lib.hid (below2Z HB.out b1)
  clear b1
  obtain ⟨c0, c1⟩ := twoC C1.out
  obtain ⟨d0, d1⟩ := twoC C2.out
  obtain ⟨f0, f1, f2, f3, f4, f5, f6, f7⟩ := eightT C3.out
  go_wp2_with fail
  clear c0 c1 d0 d1 f0 f1 f2 f3 f4 f5 f6 f7
  refine (fewst_any V2.out H2).mono ?_
  rintro e w2 ⟨rfl, b2⟩
  replace HB := Lib.hid (below2Z HB.out b2)
  clear b2
  go_wp2_with fail
  refine (live14 _).mono ?_
  rintro e w3 ⟨rfl, b3⟩
  replace HB := Lib.hid (below2Z HB.out b3)
  clear b3
  go_wp2_with fail
  go_ret
  exact ⟨rfl, HB.out⟩

set_option maxHeartbeats 6400000 in
set_option maxRecDepth 100000 in
theorem sapp_3 {w : World} {x y x2 y2 : Value} {s t : Sta} (h : StAt w x y s) (h2 : StAt w x2 y2 t) (k : Int) (u o st : List UInt8) (id a b c : Int) (hs : fewSta s = true) (ht : fewSta t = true) (he : shortEv ⟨k, u, o, id, ⟨a, b, c, st⟩⟩ = false) :
    Calls Tryz.prog 3 #[.agg #[x, y], .agg #[x2, y2], .agg #[.int .i64 k, .string ⟨u.toArray⟩, .string ⟨o.toArray⟩, .int .i64 id, .int .i64 a, .int .i64 b, .int .i64 c, .string ⟨st.toArray⟩]] w fun e w' => e = .returned (.bool true) ∧ Below w.heap.size w w' := by
  obtain ⟨ax, cx, rfl, -⟩ := h.1.open'
  obtain ⟨ay, cy, rfl, -⟩ := RdS.open' h.2
  obtain ⟨bx, dx, rfl, -⟩ := h2.1.open'
  obtain ⟨by_, dy, rfl, -⟩ := RdS.open' h2.2
  have b0 := bl_newZ w (.cells #[.slice ax s.e.length cx, .slice ay s.s.length cy] 25)
  have b00 := bl_newZ (w.alloc (.cells #[.slice ax s.e.length cx, .slice ay s.s.length cy] 25)) (.cells #[.slice bx t.e.length dx, .slice by_ t.s.length dy] 25)
  have b000 := bl_newZ ((w.alloc (.cells #[.slice ax s.e.length cx, .slice ay s.s.length cy] 25)).alloc (.cells #[.slice bx t.e.length dx, .slice by_ t.s.length dy] 25)) (.cells #[.int .i64 k, .string ⟨u.toArray⟩, .string ⟨o.toArray⟩, .int .i64 id, .int .i64 a, .int .i64 b, .int .i64 c, .string ⟨st.toArray⟩] 29)
  have HB := Lib.hid (below2Z (below2Z b0 b00) b000)
  have C1 := Lib.hid (((cellsAt_made (w := w) (cs := #[.slice ax s.e.length cx, .slice ay s.s.length cy]) (vs := [.slice ax s.e.length cx, .slice ay s.s.length cy]) rfl 25 rfl).later b00).later b000)
  have C2 := Lib.hid ((cellsAt_made (w := w.alloc (.cells #[.slice ax s.e.length cx, .slice ay s.s.length cy] 25)) (cs := #[.slice bx t.e.length dx, .slice by_ t.s.length dy]) (vs := [.slice bx t.e.length dx, .slice by_ t.s.length dy]) rfl 25 (B := w.heap.size + 1) (by simp)).later b000)
  have C3 := Lib.hid (cellsAt_made (w := (w.alloc (.cells #[.slice ax s.e.length cx, .slice ay s.s.length cy] 25)).alloc (.cells #[.slice bx t.e.length dx, .slice by_ t.s.length dy] 25)) (cs := #[.int .i64 k, .string ⟨u.toArray⟩, .string ⟨o.toArray⟩, .int .i64 id, .int .i64 a, .int .i64 b, .int .i64 c, .string ⟨st.toArray⟩]) (vs := evVals ⟨k, u, o, id, ⟨a, b, c, st⟩⟩) rfl 29 (B := w.heap.size + 1 + 1) (by simp))
  have V := Lib.hid (h.later HB.out)
  have V2 := Lib.hid (h2.later HB.out)
  clear b0 b00 b000 h h2
  have H1 := Lib.hid hs
  have H2 := Lib.hid ht
  have H3 := Lib.hid he
  obtain ⟨c0, c1⟩ := twoC C1.out
  obtain ⟨d0, d1⟩ := twoC C2.out
  obtain ⟨f0, f1, f2, f3, f4, f5, f6, f7⟩ := eightT C3.out
  go_enter Tryz.func3, Tryz.ntmps3
  go_wp2_with fail
  clear c0 c1 d0 d1 f0 f1 f2 f3 f4 f5 f6 f7
  refine (fewst_any V.out H1).mono ?_
  rintro e w1 ⟨rfl, b1⟩
  replace V := Lib.hid (V.out.later b1)
  replace V2 := Lib.hid (V2.out.later b1)
  replace C1 := Lib.hid (C1.out.later b1)
  replace C2 := Lib.hid (C2.out.later b1)
  replace C3 := Lib.hid (C3.out.later b1)
  replace HB := Lib.hid (below2Z HB.out b1)
  clear b1
  obtain ⟨c0, c1⟩ := twoC C1.out
  obtain ⟨d0, d1⟩ := twoC C2.out
  obtain ⟨f0, f1, f2, f3, f4, f5, f6, f7⟩ := eightT C3.out
  go_wp2_with fail
  clear c0 c1 d0 d1 f0 f1 f2 f3 f4 f5 f6 f7
  refine (fewst_any V2.out H2).mono ?_
  rintro e w2 ⟨rfl, b2⟩
  replace V := Lib.hid (V.out.later b2)
  replace V2 := Lib.hid (V2.out.later b2)
  replace C1 := Lib.hid (C1.out.later b2)
  replace C2 := Lib.hid (C2.out.later b2)
  replace C3 := Lib.hid (C3.out.later b2)
  replace HB := Lib.hid (below2Z HB.out b2)
  clear b2
  obtain ⟨c0, c1⟩ := twoC C1.out
  obtain ⟨d0, d1⟩ := twoC C2.out
  obtain ⟨f0, f1, f2, f3, f4, f5, f6, f7⟩ := eightT C3.out
  go_wp2_with fail
  clear c0 c1 d0 d1 f0 f1 f2 f3 f4 f5 f6 f7
  refine (short14_any k u o st id a b c H3 _).mono ?_
  rintro e w3 ⟨rfl, b3⟩
  replace HB := Lib.hid (below2Z HB.out b3)
  clear b3
  go_wp2_with fail
  refine (live14 _).mono ?_
  rintro e w4 ⟨rfl, b4⟩
  replace HB := Lib.hid (below2Z HB.out b4)
  clear b4
  go_wp2_with fail
  go_ret
  exact ⟨rfl, HB.out⟩

set_option maxHeartbeats 6400000 in
set_option maxRecDepth 100000 in
theorem sapp_4 {w : World} {x y x2 y2 : Value} {s t : Sta} (h : StAt w x y s) (h2 : StAt w x2 y2 t) (k : Int) (u o st : List UInt8) (id a b c : Int) (hs : fewSta s = true) (ht : fewSta t = true) (he : shortEv ⟨k, u, o, id, ⟨a, b, c, st⟩⟩ = true) :
    Calls Tryz.prog 3 #[.agg #[x, y], .agg #[x2, y2], .agg #[.int .i64 k, .string ⟨u.toArray⟩, .string ⟨o.toArray⟩, .int .i64 id, .int .i64 a, .int .i64 b, .int .i64 c, .string ⟨st.toArray⟩]] w fun e w' => e = .returned (.bool true) ∧ Below w.heap.size w w' := by
  obtain ⟨ax, cx, rfl, -⟩ := h.1.open'
  obtain ⟨ay, cy, rfl, -⟩ := RdS.open' h.2
  obtain ⟨bx, dx, rfl, -⟩ := h2.1.open'
  obtain ⟨by_, dy, rfl, -⟩ := RdS.open' h2.2
  have b0 := bl_newZ w (.cells #[.slice ax s.e.length cx, .slice ay s.s.length cy] 25)
  have b00 := bl_newZ (w.alloc (.cells #[.slice ax s.e.length cx, .slice ay s.s.length cy] 25)) (.cells #[.slice bx t.e.length dx, .slice by_ t.s.length dy] 25)
  have b000 := bl_newZ ((w.alloc (.cells #[.slice ax s.e.length cx, .slice ay s.s.length cy] 25)).alloc (.cells #[.slice bx t.e.length dx, .slice by_ t.s.length dy] 25)) (.cells #[.int .i64 k, .string ⟨u.toArray⟩, .string ⟨o.toArray⟩, .int .i64 id, .int .i64 a, .int .i64 b, .int .i64 c, .string ⟨st.toArray⟩] 29)
  have HB := Lib.hid (below2Z (below2Z b0 b00) b000)
  have C1 := Lib.hid (((cellsAt_made (w := w) (cs := #[.slice ax s.e.length cx, .slice ay s.s.length cy]) (vs := [.slice ax s.e.length cx, .slice ay s.s.length cy]) rfl 25 rfl).later b00).later b000)
  have C2 := Lib.hid ((cellsAt_made (w := w.alloc (.cells #[.slice ax s.e.length cx, .slice ay s.s.length cy] 25)) (cs := #[.slice bx t.e.length dx, .slice by_ t.s.length dy]) (vs := [.slice bx t.e.length dx, .slice by_ t.s.length dy]) rfl 25 (B := w.heap.size + 1) (by simp)).later b000)
  have C3 := Lib.hid (cellsAt_made (w := (w.alloc (.cells #[.slice ax s.e.length cx, .slice ay s.s.length cy] 25)).alloc (.cells #[.slice bx t.e.length dx, .slice by_ t.s.length dy] 25)) (cs := #[.int .i64 k, .string ⟨u.toArray⟩, .string ⟨o.toArray⟩, .int .i64 id, .int .i64 a, .int .i64 b, .int .i64 c, .string ⟨st.toArray⟩]) (vs := evVals ⟨k, u, o, id, ⟨a, b, c, st⟩⟩) rfl 29 (B := w.heap.size + 1 + 1) (by simp))
  have V := Lib.hid (h.later HB.out)
  have V2 := Lib.hid (h2.later HB.out)
  clear b0 b00 b000 h h2
  have H1 := Lib.hid hs
  have H2 := Lib.hid ht
  have H3 := Lib.hid he
  have HS := Lib.hid (fewSta_get hs)
  have HE := Lib.hid (shortEv_get he)
  obtain ⟨s9, n, hd⟩ : ∃ s9 n, stApply s ⟨k, u, o, id, ⟨a, b, c, st⟩⟩ = (s9, n) := ⟨_, _, rfl⟩
  have HD := Lib.hid hd
  obtain ⟨m, hm⟩ : ∃ m, stMay s = m := ⟨_, rfl⟩
  have HM := Lib.hid hm
  obtain ⟨z, hz⟩ : ∃ z, staSame s t = z := ⟨_, rfl⟩
  have HZ := Lib.hid hz
  have t2 : ((n : Int) == (n : Int)) = true := beq_self_eq_true _
  have t3 : (m == m) = true := beq_self_eq_true _
  have t4 : (z == z) = true := beq_self_eq_true _
  clear hd hm hz hs ht he
  obtain ⟨c0, c1⟩ := twoC C1.out
  obtain ⟨d0, d1⟩ := twoC C2.out
  obtain ⟨f0, f1, f2, f3, f4, f5, f6, f7⟩ := eightT C3.out
  go_enter Tryz.func3, Tryz.ntmps3
  go_wp2_with fail
  clear c0 c1 d0 d1 f0 f1 f2 f3 f4 f5 f6 f7
  refine (fewst_any V.out H1).mono ?_
  rintro e w1 ⟨rfl, b1⟩
  replace V := Lib.hid (V.out.later b1)
  replace V2 := Lib.hid (V2.out.later b1)
  replace C1 := Lib.hid (C1.out.later b1)
  replace C2 := Lib.hid (C2.out.later b1)
  replace C3 := Lib.hid (C3.out.later b1)
  replace HB := Lib.hid (below2Z HB.out b1)
  clear b1
  obtain ⟨c0, c1⟩ := twoC C1.out
  obtain ⟨d0, d1⟩ := twoC C2.out
  obtain ⟨f0, f1, f2, f3, f4, f5, f6, f7⟩ := eightT C3.out
  go_wp2_with fail
  clear c0 c1 d0 d1 f0 f1 f2 f3 f4 f5 f6 f7
  refine (fewst_any V2.out H2).mono ?_
  rintro e w2 ⟨rfl, b2⟩
  replace V := Lib.hid (V.out.later b2)
  replace V2 := Lib.hid (V2.out.later b2)
  replace C1 := Lib.hid (C1.out.later b2)
  replace C2 := Lib.hid (C2.out.later b2)
  replace C3 := Lib.hid (C3.out.later b2)
  replace HB := Lib.hid (below2Z HB.out b2)
  clear b2
  obtain ⟨c0, c1⟩ := twoC C1.out
  obtain ⟨d0, d1⟩ := twoC C2.out
  obtain ⟨f0, f1, f2, f3, f4, f5, f6, f7⟩ := eightT C3.out
  go_wp2_with fail
  clear c0 c1 d0 d1 f0 f1 f2 f3 f4 f5 f6 f7
  refine (short14_any k u o st id a b c H3 _).mono ?_
  rintro e w3 ⟨rfl, b3⟩
  replace V := Lib.hid (V.out.later b3)
  replace V2 := Lib.hid (V2.out.later b3)
  replace C1 := Lib.hid (C1.out.later b3)
  replace C2 := Lib.hid (C2.out.later b3)
  replace C3 := Lib.hid (C3.out.later b3)
  replace HB := Lib.hid (below2Z HB.out b3)
  clear b3
  obtain ⟨c0, c1⟩ := twoC C1.out
  obtain ⟨d0, d1⟩ := twoC C2.out
  obtain ⟨f0, f1, f2, f3, f4, f5, f6, f7⟩ := eightT C3.out
  go_wp2_with fail
  clear c0 c1 d0 d1 f0 f1 f2 f3 f4 f5 f6 f7
  refine (stdo_any (t' := s9) V.out HS.out.1 (by have := HS.out.2.1; omega) HS.out.2.2.1 ⟨k, u, o, id, ⟨a, b, c, st⟩⟩ (by have := HE.out.1; exact Nat.le_trans this (by decide)) (by have := HE.out.2.1; exact Nat.le_trans this (by decide)) (by have := HE.out.2.2; exact Nat.le_trans this (by decide)) HD.out).mono ?_
  rintro e w4 ⟨x4, y4, rfl, h4, b4⟩
  obtain ⟨p4, g4, rfl, -⟩ := h4.1.open'
  obtain ⟨q4, l4, rfl, -⟩ := RdS.open' h4.2
  have bb := below2Z b4 (bl_newZ w4 (.cells #[.slice p4 s9.e.length g4, .slice q4 s9.s.length l4] 25))
  replace V := Lib.hid (V.out.later bb)
  replace V2 := Lib.hid (V2.out.later bb)
  replace C1 := Lib.hid (C1.out.later bb)
  replace C2 := Lib.hid (C2.out.later bb)
  replace C3 := Lib.hid (C3.out.later bb)
  replace HB := Lib.hid (below2Z HB.out bb)
  have X4 := Lib.hid (h4.later (bl_newZ w4 (.cells #[.slice p4 s9.e.length g4, .slice q4 s9.s.length l4] 25)))
  have C4 := Lib.hid (cellsAt_made (w := w4) (cs := #[.slice p4 s9.e.length g4, .slice q4 s9.s.length l4]) (vs := [.slice p4 s9.e.length g4, .slice q4 s9.s.length l4]) rfl 25 rfl)
  clear bb b4 h4
  obtain ⟨c0, c1⟩ := twoC C1.out
  obtain ⟨d0, d1⟩ := twoC C2.out
  obtain ⟨f0, f1, f2, f3, f4, f5, f6, f7⟩ := eightT C3.out
  go_wp2_with fail
  generalize hW : w4.alloc (.cells #[.slice p4 s9.e.length g4, .slice q4 s9.s.length l4] 25) = W4 at HB V V2 C1 C2 C3 X4 C4 c0 c1 d0 d1 f0 f1 f2 f3 f4 f5 f6 f7 ⊢
  generalize hP : w4.heap.size = P at C4 ⊢
  clear hW hP
  clear c0 c1 d0 d1 f0 f1 f2 f3 f4 f5 f6 f7
  refine (rstdo_any (t' := s9) V.out HS.out.1 (by have := HS.out.2.1; omega) HS.out.2.2.1 ⟨k, u, o, id, ⟨a, b, c, st⟩⟩ (by have := HE.out.1; exact Nat.le_trans this (by decide)) (by have := HE.out.2.1; exact Nat.le_trans this (by decide)) (by have := HE.out.2.2; exact Nat.le_trans this (by decide)) HD.out).mono ?_
  rintro e w5 ⟨x5, y5, rfl, h5, b5⟩
  obtain ⟨p5, g5, rfl, -⟩ := h5.1.open'
  obtain ⟨q5, l5, rfl, -⟩ := RdS.open' h5.2
  have bb := below2Z b5 (bl_newZ w5 (.cells #[.slice p5 s9.e.length g5, .slice q5 s9.s.length l5] 25))
  replace V := Lib.hid (V.out.later bb)
  replace V2 := Lib.hid (V2.out.later bb)
  replace C1 := Lib.hid (C1.out.later bb)
  replace C2 := Lib.hid (C2.out.later bb)
  replace C3 := Lib.hid (C3.out.later bb)
  replace X4 := Lib.hid (X4.out.later bb)
  replace C4 := Lib.hid (C4.out.later bb)
  replace HB := Lib.hid (below2Z HB.out bb)
  have X5 := Lib.hid (h5.later (bl_newZ w5 (.cells #[.slice p5 s9.e.length g5, .slice q5 s9.s.length l5] 25)))
  have C5 := Lib.hid (cellsAt_made (w := w5) (cs := #[.slice p5 s9.e.length g5, .slice q5 s9.s.length l5]) (vs := [.slice p5 s9.e.length g5, .slice q5 s9.s.length l5]) rfl 25 rfl)
  clear bb b5 h5
  obtain ⟨c0, c1⟩ := twoC C1.out
  obtain ⟨d0, d1⟩ := twoC C2.out
  obtain ⟨f0, f1, f2, f3, f4, f5, f6, f7⟩ := eightT C3.out
  obtain ⟨r0, r1⟩ := twoC C4.out
  go_upto_region 5 with fail
  generalize hW : w5.alloc (.cells #[.slice p5 s9.e.length g5, .slice q5 s9.s.length l5] 25) = W5 at HB V V2 C1 C2 C3 X4 C4 X5 C5 c0 c1 d0 d1 f0 f1 f2 f3 f4 f5 f6 f7 r0 r1 ⊢
  generalize hQ : w5.heap.size = Q at C5 ⊢
  clear hW hQ c0 c1 d0 d1 f0 f1 f2 f3 f4 f5 f6 f7 r0 r1
  have D := Lib.hid (show saQ W5 w.heap.size (w.heap.size + 1) (w.heap.size + 1 + 1) P Q (.slice ax s.e.length cx) (.slice ay s.s.length cy) (.slice bx t.e.length dx) (.slice by_ t.s.length dy) (.slice p4 s9.e.length g4) (.slice q4 s9.s.length l4) (.slice p5 s9.e.length g5) (.slice q5 s9.s.length l5) ⟨k, u, o, id, ⟨a, b, c, st⟩⟩ from ⟨C1.out, C2.out, C3.out, C4.out, C5.out⟩)
  clear C1 C2 C3 C4 C5
  have g0q : ∀ X, saQ X w.heap.size (w.heap.size + 1) (w.heap.size + 1 + 1) P Q (.slice ax s.e.length cx) (.slice ay s.s.length cy) (.slice bx t.e.length dx) (.slice by_ t.s.length dy) (.slice p4 s9.e.length g4) (.slice q4 s9.s.length l4) (.slice p5 s9.e.length g5) (.slice q5 s9.s.length l5) ⟨k, u, o, id, ⟨a, b, c, st⟩⟩ → X.cell? ⟨w.heap.size, 0, none⟩ = some (.slice ax s.e.length cx) := fun X hx => (twoC hx.1).1
  have g1q : ∀ X, saQ X w.heap.size (w.heap.size + 1) (w.heap.size + 1 + 1) P Q (.slice ax s.e.length cx) (.slice ay s.s.length cy) (.slice bx t.e.length dx) (.slice by_ t.s.length dy) (.slice p4 s9.e.length g4) (.slice q4 s9.s.length l4) (.slice p5 s9.e.length g5) (.slice q5 s9.s.length l5) ⟨k, u, o, id, ⟨a, b, c, st⟩⟩ → X.cell? ⟨w.heap.size, 1, none⟩ = some (.slice ay s.s.length cy) := fun X hx => (twoC hx.1).2
  have j0q : ∀ X, saQ X w.heap.size (w.heap.size + 1) (w.heap.size + 1 + 1) P Q (.slice ax s.e.length cx) (.slice ay s.s.length cy) (.slice bx t.e.length dx) (.slice by_ t.s.length dy) (.slice p4 s9.e.length g4) (.slice q4 s9.s.length l4) (.slice p5 s9.e.length g5) (.slice q5 s9.s.length l5) ⟨k, u, o, id, ⟨a, b, c, st⟩⟩ → X.cell? ⟨w.heap.size + 1, 0, none⟩ = some (.slice bx t.e.length dx) := fun X hx => (twoC hx.2.1).1
  have j1q : ∀ X, saQ X w.heap.size (w.heap.size + 1) (w.heap.size + 1 + 1) P Q (.slice ax s.e.length cx) (.slice ay s.s.length cy) (.slice bx t.e.length dx) (.slice by_ t.s.length dy) (.slice p4 s9.e.length g4) (.slice q4 s9.s.length l4) (.slice p5 s9.e.length g5) (.slice q5 s9.s.length l5) ⟨k, u, o, id, ⟨a, b, c, st⟩⟩ → X.cell? ⟨w.heap.size + 1, 1, none⟩ = some (.slice by_ t.s.length dy) := fun X hx => (twoC hx.2.1).2
  have v0q : ∀ X, saQ X w.heap.size (w.heap.size + 1) (w.heap.size + 1 + 1) P Q (.slice ax s.e.length cx) (.slice ay s.s.length cy) (.slice bx t.e.length dx) (.slice by_ t.s.length dy) (.slice p4 s9.e.length g4) (.slice q4 s9.s.length l4) (.slice p5 s9.e.length g5) (.slice q5 s9.s.length l5) ⟨k, u, o, id, ⟨a, b, c, st⟩⟩ → X.cell? ⟨P, 0, none⟩ = some (.slice p4 s9.e.length g4) := fun X hx => (twoC hx.2.2.2.1).1
  have v1q : ∀ X, saQ X w.heap.size (w.heap.size + 1) (w.heap.size + 1 + 1) P Q (.slice ax s.e.length cx) (.slice ay s.s.length cy) (.slice bx t.e.length dx) (.slice by_ t.s.length dy) (.slice p4 s9.e.length g4) (.slice q4 s9.s.length l4) (.slice p5 s9.e.length g5) (.slice q5 s9.s.length l5) ⟨k, u, o, id, ⟨a, b, c, st⟩⟩ → X.cell? ⟨P, 1, none⟩ = some (.slice q4 s9.s.length l4) := fun X hx => (twoC hx.2.2.2.1).2
  have r0q : ∀ X, saQ X w.heap.size (w.heap.size + 1) (w.heap.size + 1 + 1) P Q (.slice ax s.e.length cx) (.slice ay s.s.length cy) (.slice bx t.e.length dx) (.slice by_ t.s.length dy) (.slice p4 s9.e.length g4) (.slice q4 s9.s.length l4) (.slice p5 s9.e.length g5) (.slice q5 s9.s.length l5) ⟨k, u, o, id, ⟨a, b, c, st⟩⟩ → X.cell? ⟨Q, 0, none⟩ = some (.slice p5 s9.e.length g5) := fun X hx => (twoC hx.2.2.2.2).1
  have r1q : ∀ X, saQ X w.heap.size (w.heap.size + 1) (w.heap.size + 1 + 1) P Q (.slice ax s.e.length cx) (.slice ay s.s.length cy) (.slice bx t.e.length dx) (.slice by_ t.s.length dy) (.slice p4 s9.e.length g4) (.slice q4 s9.s.length l4) (.slice p5 s9.e.length g5) (.slice q5 s9.s.length l5) ⟨k, u, o, id, ⟨a, b, c, st⟩⟩ → X.cell? ⟨Q, 1, none⟩ = some (.slice q5 s9.s.length l5) := fun X hx => (twoC hx.2.2.2.2).2
  have e0q : ∀ X, saQ X w.heap.size (w.heap.size + 1) (w.heap.size + 1 + 1) P Q (.slice ax s.e.length cx) (.slice ay s.s.length cy) (.slice bx t.e.length dx) (.slice by_ t.s.length dy) (.slice p4 s9.e.length g4) (.slice q4 s9.s.length l4) (.slice p5 s9.e.length g5) (.slice q5 s9.s.length l5) ⟨k, u, o, id, ⟨a, b, c, st⟩⟩ → X.cell? ⟨w.heap.size + 1 + 1, 0, none⟩ = some (.int .i64 k) := fun X hx => (eightT hx.2.2.1).1
  have e1q : ∀ X, saQ X w.heap.size (w.heap.size + 1) (w.heap.size + 1 + 1) P Q (.slice ax s.e.length cx) (.slice ay s.s.length cy) (.slice bx t.e.length dx) (.slice by_ t.s.length dy) (.slice p4 s9.e.length g4) (.slice q4 s9.s.length l4) (.slice p5 s9.e.length g5) (.slice q5 s9.s.length l5) ⟨k, u, o, id, ⟨a, b, c, st⟩⟩ → X.cell? ⟨w.heap.size + 1 + 1, 1, none⟩ = some (.string ⟨u.toArray⟩) := fun X hx => (eightT hx.2.2.1).2.1
  have e2q : ∀ X, saQ X w.heap.size (w.heap.size + 1) (w.heap.size + 1 + 1) P Q (.slice ax s.e.length cx) (.slice ay s.s.length cy) (.slice bx t.e.length dx) (.slice by_ t.s.length dy) (.slice p4 s9.e.length g4) (.slice q4 s9.s.length l4) (.slice p5 s9.e.length g5) (.slice q5 s9.s.length l5) ⟨k, u, o, id, ⟨a, b, c, st⟩⟩ → X.cell? ⟨w.heap.size + 1 + 1, 2, none⟩ = some (.string ⟨o.toArray⟩) := fun X hx => (eightT hx.2.2.1).2.2.1
  have e3q : ∀ X, saQ X w.heap.size (w.heap.size + 1) (w.heap.size + 1 + 1) P Q (.slice ax s.e.length cx) (.slice ay s.s.length cy) (.slice bx t.e.length dx) (.slice by_ t.s.length dy) (.slice p4 s9.e.length g4) (.slice q4 s9.s.length l4) (.slice p5 s9.e.length g5) (.slice q5 s9.s.length l5) ⟨k, u, o, id, ⟨a, b, c, st⟩⟩ → X.cell? ⟨w.heap.size + 1 + 1, 3, none⟩ = some (.int .i64 id) := fun X hx => (eightT hx.2.2.1).2.2.2.1
  have e4q : ∀ X, saQ X w.heap.size (w.heap.size + 1) (w.heap.size + 1 + 1) P Q (.slice ax s.e.length cx) (.slice ay s.s.length cy) (.slice bx t.e.length dx) (.slice by_ t.s.length dy) (.slice p4 s9.e.length g4) (.slice q4 s9.s.length l4) (.slice p5 s9.e.length g5) (.slice q5 s9.s.length l5) ⟨k, u, o, id, ⟨a, b, c, st⟩⟩ → X.cell? ⟨w.heap.size + 1 + 1, 4, none⟩ = some (.int .i64 a) := fun X hx => (eightT hx.2.2.1).2.2.2.2.1
  have e5q : ∀ X, saQ X w.heap.size (w.heap.size + 1) (w.heap.size + 1 + 1) P Q (.slice ax s.e.length cx) (.slice ay s.s.length cy) (.slice bx t.e.length dx) (.slice by_ t.s.length dy) (.slice p4 s9.e.length g4) (.slice q4 s9.s.length l4) (.slice p5 s9.e.length g5) (.slice q5 s9.s.length l5) ⟨k, u, o, id, ⟨a, b, c, st⟩⟩ → X.cell? ⟨w.heap.size + 1 + 1, 5, none⟩ = some (.int .i64 b) := fun X hx => (eightT hx.2.2.1).2.2.2.2.2.1
  have e6q : ∀ X, saQ X w.heap.size (w.heap.size + 1) (w.heap.size + 1 + 1) P Q (.slice ax s.e.length cx) (.slice ay s.s.length cy) (.slice bx t.e.length dx) (.slice by_ t.s.length dy) (.slice p4 s9.e.length g4) (.slice q4 s9.s.length l4) (.slice p5 s9.e.length g5) (.slice q5 s9.s.length l5) ⟨k, u, o, id, ⟨a, b, c, st⟩⟩ → X.cell? ⟨w.heap.size + 1 + 1, 6, none⟩ = some (.int .i64 c) := fun X hx => (eightT hx.2.2.1).2.2.2.2.2.2.1
  have e7q : ∀ X, saQ X w.heap.size (w.heap.size + 1) (w.heap.size + 1 + 1) P Q (.slice ax s.e.length cx) (.slice ay s.s.length cy) (.slice bx t.e.length dx) (.slice by_ t.s.length dy) (.slice p4 s9.e.length g4) (.slice q4 s9.s.length l4) (.slice p5 s9.e.length g5) (.slice q5 s9.s.length l5) ⟨k, u, o, id, ⟨a, b, c, st⟩⟩ → X.cell? ⟨w.heap.size + 1 + 1, 7, none⟩ = some (.string ⟨st.toArray⟩) := fun X hx => (eightT hx.2.2.1).2.2.2.2.2.2.2
  refine wp_region_held_drew (S := (fun X => saQ X w.heap.size (w.heap.size + 1) (w.heap.size + 1 + 1) P Q (.slice ax s.e.length cx) (.slice ay s.s.length cy) (.slice bx t.e.length dx) (.slice by_ t.s.length dy) (.slice p4 s9.e.length g4) (.slice q4 s9.s.length l4) (.slice p5 s9.e.length g5) (.slice q5 s9.s.length l5) ⟨k, u, o, id, ⟨a, b, c, st⟩⟩)) (by kernel_rfl) ?_ (fun hHeld => ?_)
  · exact saQ_up (Below.refl _ _).drew D.out
  refine wpAnyH_take (i := 0) (oi := { dst := some 37, op := Op.load 25 (Operand.tmp 7), type := 25, pos := "law.go:31", after := #[], guard := none }) (v := ?_) rfl (by as_aux_lemma => kernel_rfl) (by as_aux_lemma => kernel_rfl) (by as_aux_lemma => kernel_rfl) (fun _ _ _ h => h) (Or.inl ⟨by rfl, ?_⟩) (by assumption) ?_
  rotate_left
  · intro w' hSw
    try dsimp only at hSw
    go_simp
    try with_reducible rfl
  try simp only [Act.put, List.setIfInBounds_toArray, List.set_cons_zero, List.set_cons_succ]
  refine wpAnyH_take (i := 1) (oi := { dst := some 38, op := Op.load 25 (Operand.tmp 9), type := 25, pos := "law.go:31", after := #[], guard := none }) (v := ?_) rfl (by as_aux_lemma => kernel_rfl) (by as_aux_lemma => kernel_rfl) (by as_aux_lemma => kernel_rfl) (fun _ _ _ h => h) (Or.inl ⟨by rfl, ?_⟩) (by assumption) ?_
  rotate_left
  · intro w' hSw
    try dsimp only at hSw
    go_simp
    try with_reducible rfl
  try simp only [Act.put, List.setIfInBounds_toArray, List.set_cons_zero, List.set_cons_succ]
  refine wpAnyH_ready (rs := [2]) (by as_aux_lemma => kernel_rfl) (by simp) ?_
  refine AllReadyH.cons (o := { dst := some 39, op := Op.call { callee := Callee.value (Operand.func 17), args := #[Operand.tmp 37, Operand.tmp 38], argTypes := #[25, 25] }, type := 4, pos := "law.go:31", after := #[{ on := 0, ground := Ground.data }, { on := 1, ground := Ground.data }], guard := none }) rfl (fun Kx hK => ?_) AllReadyH.nil
  go_simp
  refine (rstsame_any (X4.out.later (Below.refl _ _).drew) (X5.out.later (Below.refl _ _).drew) (Lib.hid (staSame_self s9))).mono ?_
  rintro e z1 ⟨rfl, b19⟩
  have K1 := Lib.hid (below2Z (Below.refl _ _).drew b19)
  have D1 := Lib.hid (saQ_up K1.out D.out)
  clear b19
  go_wp2_with fail
  refine hK.out _ _ ?_ (fun hHeld2 => ?_)
  · exact D1.out
  clear hK Kx hHeld
  have hHeld := hHeld2
  clear hHeld2
  try simp only [Act.put, List.setIfInBounds_toArray, List.set_cons_zero, List.set_cons_succ]
  refine wpAnyH_take (i := 3) (oi := { dst := some 40, op := Op.move (Operand.tmp 39), type := 4, pos := "law.go:31", after := #[{ on := 2, ground := Ground.data }, { on := 2, ground := Ground.chain }], guard := none }) (v := ?_) rfl (by as_aux_lemma => kernel_rfl) (by as_aux_lemma => kernel_rfl) (by as_aux_lemma => kernel_rfl) (fun _ _ _ h => h) (Or.inl ⟨by rfl, ?_⟩) (by assumption) ?_
  rotate_left
  · intro w' hSw
    try dsimp only at hSw
    go_simp
    try with_reducible rfl
  try simp only [Act.put, List.setIfInBounds_toArray, List.set_cons_zero, List.set_cons_succ]
  refine wpAnyH_take (i := 4) (oi := { dst := some 41, op := Op.move (Operand.tmp 8), type := 33, pos := "law.go:31", after := #[{ on := 3, ground := Ground.guard }], guard := some (3, true) }) (v := ?_) rfl (by as_aux_lemma => kernel_rfl) (by as_aux_lemma => kernel_rfl) (by as_aux_lemma => kernel_rfl) (fun _ _ _ h => h) (Or.inl ⟨by rfl, ?_⟩) (by assumption) ?_
  rotate_left
  · intro w' hSw
    try dsimp only at hSw
    go_simp
    try with_reducible rfl
  try simp only [Act.put, List.setIfInBounds_toArray, List.set_cons_zero, List.set_cons_succ]
  refine wpAnyH_take (i := 5) (oi := { dst := some 42, op := Op.move (Operand.tmp 10), type := 33, pos := "law.go:31", after := #[{ on := 3, ground := Ground.guard }], guard := some (3, true) }) (v := ?_) rfl (by as_aux_lemma => kernel_rfl) (by as_aux_lemma => kernel_rfl) (by as_aux_lemma => kernel_rfl) (fun _ _ _ h => h) (Or.inl ⟨by rfl, ?_⟩) (by assumption) ?_
  rotate_left
  · intro w' hSw
    try dsimp only at hSw
    go_simp
    try with_reducible rfl
  try simp only [Act.put, List.setIfInBounds_toArray, List.set_cons_zero, List.set_cons_succ]
  refine wpAnyH_take (i := 6) (oi := { dst := some 43, op := Op.binOp BinOp.eql 33 (Operand.tmp 41) (Operand.tmp 42) 33, type := 4, pos := "law.go:31", after := #[{ on := 4, ground := Ground.data }, { on := 5, ground := Ground.data }, { on := 3, ground := Ground.guard }], guard := some (3, true) }) (v := ?_) rfl (by as_aux_lemma => kernel_rfl) (by as_aux_lemma => kernel_rfl) (by as_aux_lemma => kernel_rfl) (fun _ _ _ h => h) (Or.inl ⟨by rfl, ?_⟩) (by assumption) ?_
  rotate_left
  · intro w' hSw
    try dsimp only at hSw
    go_simp
    try with_reducible rfl
  try simp only [Act.put, List.setIfInBounds_toArray, List.set_cons_zero, List.set_cons_succ]
  refine wpAnyH_take (i := 7) (oi := { dst := some 44, op := Op.pick (Operand.tmp 40) (Operand.tmp 43) (Operand.const (Value.bool false)), type := 4, pos := "law.go:31", after := #[{ on := 3, ground := Ground.data }, { on := 6, ground := Ground.data }], guard := none }) (v := ?_) rfl (by as_aux_lemma => kernel_rfl) (by as_aux_lemma => kernel_rfl) (by as_aux_lemma => kernel_rfl) (fun _ _ _ h => h) (Or.inl ⟨by rfl, ?_⟩) (by assumption) ?_
  rotate_left
  · intro w' hSw
    try dsimp only at hSw
    go_simp
    try with_reducible rfl
  try simp only [Act.put, List.setIfInBounds_toArray, List.set_cons_zero, List.set_cons_succ]
  refine wpAnyH_take (i := 8) (oi := { dst := some 45, op := Op.move (Operand.tmp 44), type := 4, pos := "law.go:31", after := #[{ on := 7, ground := Ground.data }, { on := 3, ground := Ground.chain }], guard := none }) (v := ?_) rfl (by as_aux_lemma => kernel_rfl) (by as_aux_lemma => kernel_rfl) (by as_aux_lemma => kernel_rfl) (fun _ _ _ h => h) (Or.inl ⟨by rfl, ?_⟩) (by assumption) ?_
  rotate_left
  · intro w' hSw
    try dsimp only at hSw
    go_simp
    try with_reducible rfl
  try simp only [Act.put, List.setIfInBounds_toArray, List.set_cons_zero, List.set_cons_succ]
  refine wpAnyH_take (i := 9) (oi := { dst := some 46, op := Op.load 25 (Operand.tmp 3), type := 25, pos := "law.go:31", after := #[{ on := 8, ground := Ground.guard }], guard := some (8, true) }) (v := ?_) rfl (by as_aux_lemma => kernel_rfl) (by as_aux_lemma => kernel_rfl) (by as_aux_lemma => kernel_rfl) (fun _ _ _ h => h) (Or.inl ⟨by rfl, ?_⟩) (by assumption) ?_
  rotate_left
  · intro w' hSw
    try dsimp only at hSw
    go_simp
    try with_reducible rfl
  try simp only [Act.put, List.setIfInBounds_toArray, List.set_cons_zero, List.set_cons_succ]
  refine wpAnyH_take (i := 11) (oi := { dst := some 48, op := Op.load 25 (Operand.tmp 3), type := 25, pos := "law.go:31", after := #[{ on := 8, ground := Ground.guard }], guard := some (8, true) }) (v := ?_) rfl (by as_aux_lemma => kernel_rfl) (by as_aux_lemma => kernel_rfl) (by as_aux_lemma => kernel_rfl) (fun _ _ _ h => h) (Or.inl ⟨by rfl, ?_⟩) (by assumption) ?_
  rotate_left
  · intro w' hSw
    try dsimp only at hSw
    go_simp
    try with_reducible rfl
  try simp only [Act.put, List.setIfInBounds_toArray, List.set_cons_zero, List.set_cons_succ]
  refine wpAnyH_ready (rs := [10]) (by as_aux_lemma => kernel_rfl) (by simp) ?_
  refine AllReadyH.cons (o := { dst := some 47, op := Op.call { callee := Callee.value (Operand.func 18), args := #[Operand.tmp 46], argTypes := #[25] }, type := 4, pos := "law.go:31", after := #[{ on := 9, ground := Ground.data }, { on := 8, ground := Ground.chain }, { on := 8, ground := Ground.guard }], guard := some (8, true) }) rfl (fun Kx hK => ?_) AllReadyH.nil
  go_simp
  refine (stmay_any (V.out.later K1.out) HS.out.1 HS.out.2.2.1 HM).mono ?_
  rintro e z2 ⟨rfl, b29⟩
  have K2 := Lib.hid (below2Z K1.out b29)
  have D2 := Lib.hid (saQ_up K2.out D.out)
  clear b29
  go_wp2_with fail
  refine hK.out _ _ ?_ (fun hHeld2 => ?_)
  · exact D2.out
  clear hK Kx hHeld
  have hHeld := hHeld2
  clear hHeld2
  try simp only [Act.put, List.setIfInBounds_toArray, List.set_cons_zero, List.set_cons_succ]
  refine wpAnyH_ready (rs := [12]) (by as_aux_lemma => kernel_rfl) (by simp) ?_
  refine AllReadyH.cons (o := { dst := some 49, op := Op.call { callee := Callee.value (Operand.func 19), args := #[Operand.tmp 48], argTypes := #[25] }, type := 4, pos := "law.go:31", after := #[{ on := 11, ground := Ground.data }, { on := 10, ground := Ground.chain }, { on := 8, ground := Ground.guard }], guard := some (8, true) }) rfl (fun Kx hK => ?_) AllReadyH.nil
  go_simp
  refine (rstmay_any (V.out.later K2.out) HS.out.1 (Nat.le_trans HS.out.2.1 (by decide)) HS.out.2.2.1 HM).mono ?_
  rintro e z3 ⟨rfl, b39⟩
  have K3 := Lib.hid (below2Z K2.out b39)
  have D3 := Lib.hid (saQ_up K3.out D.out)
  clear b39
  go_wp2_with fail
  refine hK.out _ _ ?_ (fun hHeld2 => ?_)
  · exact D3.out
  clear hK Kx hHeld
  have hHeld := hHeld2
  clear hHeld2
  try simp only [Act.put, List.setIfInBounds_toArray, List.set_cons_zero, List.set_cons_succ]
  refine wpAnyH_take (i := 13) (oi := { dst := some 50, op := Op.binOp BinOp.eql 4 (Operand.tmp 47) (Operand.tmp 49) 4, type := 4, pos := "law.go:31", after := #[{ on := 10, ground := Ground.data }, { on := 12, ground := Ground.data }, { on := 8, ground := Ground.guard }], guard := some (8, true) }) (v := ?_) rfl (by as_aux_lemma => kernel_rfl) (by as_aux_lemma => kernel_rfl) (by as_aux_lemma => kernel_rfl) (fun _ _ _ h => h) (Or.inl ⟨by rfl, ?_⟩) (by assumption) ?_
  rotate_left
  · intro w' hSw
    try dsimp only at hSw
    go_simp
    try with_reducible rfl
  try simp only [Act.put, List.setIfInBounds_toArray, List.set_cons_zero, List.set_cons_succ]
  refine wpAnyH_take (i := 14) (oi := { dst := some 51, op := Op.pick (Operand.tmp 45) (Operand.tmp 50) (Operand.const (Value.bool false)), type := 4, pos := "law.go:31", after := #[{ on := 8, ground := Ground.data }, { on := 13, ground := Ground.data }], guard := none }) (v := ?_) rfl (by as_aux_lemma => kernel_rfl) (by as_aux_lemma => kernel_rfl) (by as_aux_lemma => kernel_rfl) (fun _ _ _ h => h) (Or.inl ⟨by rfl, ?_⟩) (by assumption) ?_
  rotate_left
  · intro w' hSw
    try dsimp only at hSw
    go_simp
    try with_reducible rfl
  try simp only [Act.put, List.setIfInBounds_toArray, List.set_cons_zero, List.set_cons_succ]
  refine wpAnyH_take (i := 15) (oi := { dst := some 52, op := Op.move (Operand.tmp 51), type := 4, pos := "law.go:31", after := #[{ on := 14, ground := Ground.data }, { on := 12, ground := Ground.chain }], guard := none }) (v := ?_) rfl (by as_aux_lemma => kernel_rfl) (by as_aux_lemma => kernel_rfl) (by as_aux_lemma => kernel_rfl) (fun _ _ _ h => h) (Or.inl ⟨by rfl, ?_⟩) (by assumption) ?_
  rotate_left
  · intro w' hSw
    try dsimp only at hSw
    go_simp
    try with_reducible rfl
  try simp only [Act.put, List.setIfInBounds_toArray, List.set_cons_zero, List.set_cons_succ]
  refine wpAnyH_take (i := 16) (oi := { dst := some 53, op := Op.load 25 (Operand.tmp 3), type := 25, pos := "law.go:31", after := #[{ on := 15, ground := Ground.guard }], guard := some (15, true) }) (v := ?_) rfl (by as_aux_lemma => kernel_rfl) (by as_aux_lemma => kernel_rfl) (by as_aux_lemma => kernel_rfl) (fun _ _ _ h => h) (Or.inl ⟨by rfl, ?_⟩) (by assumption) ?_
  rotate_left
  · intro w' hSw
    try dsimp only at hSw
    go_simp
    try with_reducible rfl
  try simp only [Act.put, List.setIfInBounds_toArray, List.set_cons_zero, List.set_cons_succ]
  refine wpAnyH_take (i := 17) (oi := { dst := some 54, op := Op.load 25 (Operand.tmp 4), type := 25, pos := "law.go:31", after := #[{ on := 15, ground := Ground.guard }], guard := some (15, true) }) (v := ?_) rfl (by as_aux_lemma => kernel_rfl) (by as_aux_lemma => kernel_rfl) (by as_aux_lemma => kernel_rfl) (fun _ _ _ h => h) (Or.inl ⟨by rfl, ?_⟩) (by assumption) ?_
  rotate_left
  · intro w' hSw
    try dsimp only at hSw
    go_simp
    try with_reducible rfl
  try simp only [Act.put, List.setIfInBounds_toArray, List.set_cons_zero, List.set_cons_succ]
  refine wpAnyH_take (i := 19) (oi := { dst := some 56, op := Op.load 25 (Operand.tmp 3), type := 25, pos := "law.go:31", after := #[{ on := 15, ground := Ground.guard }], guard := some (15, true) }) (v := ?_) rfl (by as_aux_lemma => kernel_rfl) (by as_aux_lemma => kernel_rfl) (by as_aux_lemma => kernel_rfl) (fun _ _ _ h => h) (Or.inl ⟨by rfl, ?_⟩) (by assumption) ?_
  rotate_left
  · intro w' hSw
    try dsimp only at hSw
    go_simp
    try with_reducible rfl
  try simp only [Act.put, List.setIfInBounds_toArray, List.set_cons_zero, List.set_cons_succ]
  refine wpAnyH_take (i := 20) (oi := { dst := some 57, op := Op.load 25 (Operand.tmp 4), type := 25, pos := "law.go:31", after := #[{ on := 15, ground := Ground.guard }], guard := some (15, true) }) (v := ?_) rfl (by as_aux_lemma => kernel_rfl) (by as_aux_lemma => kernel_rfl) (by as_aux_lemma => kernel_rfl) (fun _ _ _ h => h) (Or.inl ⟨by rfl, ?_⟩) (by assumption) ?_
  rotate_left
  · intro w' hSw
    try dsimp only at hSw
    go_simp
    try with_reducible rfl
  try simp only [Act.put, List.setIfInBounds_toArray, List.set_cons_zero, List.set_cons_succ]
  refine wpAnyH_ready (rs := [18]) (by as_aux_lemma => kernel_rfl) (by simp) ?_
  refine AllReadyH.cons (o := { dst := some 55, op := Op.call { callee := Callee.value (Operand.func 20), args := #[Operand.tmp 53, Operand.tmp 54], argTypes := #[25, 25] }, type := 4, pos := "law.go:31", after := #[{ on := 16, ground := Ground.data }, { on := 17, ground := Ground.data }, { on := 15, ground := Ground.chain }, { on := 15, ground := Ground.guard }], guard := some (15, true) }) rfl (fun Kx hK => ?_) AllReadyH.nil
  go_simp
  refine (stsame_any (V.out.later K3.out) (V2.out.later K3.out) HZ).mono ?_
  rintro e z4 ⟨rfl, b49⟩
  have K4 := Lib.hid (below2Z K3.out b49)
  have D4 := Lib.hid (saQ_up K4.out D.out)
  clear b49
  go_wp2_with fail
  refine hK.out _ _ ?_ (fun hHeld2 => ?_)
  · exact D4.out
  clear hK Kx hHeld
  have hHeld := hHeld2
  clear hHeld2
  try simp only [Act.put, List.setIfInBounds_toArray, List.set_cons_zero, List.set_cons_succ]
  refine wpAnyH_ready (rs := [21]) (by as_aux_lemma => kernel_rfl) (by simp) ?_
  refine AllReadyH.cons (o := { dst := some 58, op := Op.call { callee := Callee.value (Operand.func 17), args := #[Operand.tmp 56, Operand.tmp 57], argTypes := #[25, 25] }, type := 4, pos := "law.go:31", after := #[{ on := 19, ground := Ground.data }, { on := 20, ground := Ground.data }, { on := 18, ground := Ground.chain }, { on := 15, ground := Ground.guard }], guard := some (15, true) }) rfl (fun Kx hK => ?_) AllReadyH.nil
  go_simp
  refine (rstsame_any (V.out.later K4.out) (V2.out.later K4.out) HZ).mono ?_
  rintro e z5 ⟨rfl, b59⟩
  have K5 := Lib.hid (below2Z K4.out b59)
  have D5 := Lib.hid (saQ_up K5.out D.out)
  clear b59
  go_wp2_with fail
  refine hK.out _ _ ?_ (fun hHeld2 => ?_)
  · exact D5.out
  clear hK Kx hHeld
  have hHeld := hHeld2
  clear hHeld2
  try simp only [Act.put, List.setIfInBounds_toArray, List.set_cons_zero, List.set_cons_succ]
  refine wpAnyH_take (i := 22) (oi := { dst := some 59, op := Op.binOp BinOp.eql 4 (Operand.tmp 55) (Operand.tmp 58) 4, type := 4, pos := "law.go:31", after := #[{ on := 18, ground := Ground.data }, { on := 21, ground := Ground.data }, { on := 15, ground := Ground.guard }], guard := some (15, true) }) (v := ?_) rfl (by as_aux_lemma => kernel_rfl) (by as_aux_lemma => kernel_rfl) (by as_aux_lemma => kernel_rfl) (fun _ _ _ h => h) (Or.inl ⟨by rfl, ?_⟩) (by assumption) ?_
  rotate_left
  · intro w' hSw
    try dsimp only at hSw
    go_simp
    try with_reducible rfl
  try simp only [Act.put, List.setIfInBounds_toArray, List.set_cons_zero, List.set_cons_succ]
  refine wpAnyH_take (i := 23) (oi := { dst := some 60, op := Op.pick (Operand.tmp 52) (Operand.tmp 59) (Operand.const (Value.bool false)), type := 4, pos := "law.go:31", after := #[{ on := 15, ground := Ground.data }, { on := 22, ground := Ground.data }], guard := none }) (v := ?_) rfl (by as_aux_lemma => kernel_rfl) (by as_aux_lemma => kernel_rfl) (by as_aux_lemma => kernel_rfl) (fun _ _ _ h => h) (Or.inl ⟨by rfl, ?_⟩) (by assumption) ?_
  rotate_left
  · intro w' hSw
    try dsimp only at hSw
    go_simp
    try with_reducible rfl
  try simp only [Act.put, List.setIfInBounds_toArray, List.set_cons_zero, List.set_cons_succ]
  refine wpAnyH_take (i := 24) (oi := { dst := some 61, op := Op.move (Operand.tmp 60), type := 4, pos := "law.go:31", after := #[{ on := 23, ground := Ground.data }, { on := 21, ground := Ground.chain }], guard := none }) (v := ?_) rfl (by as_aux_lemma => kernel_rfl) (by as_aux_lemma => kernel_rfl) (by as_aux_lemma => kernel_rfl) (fun _ _ _ h => h) (Or.inl ⟨by rfl, ?_⟩) (by assumption) ?_
  rotate_left
  · intro w' hSw
    try dsimp only at hSw
    go_simp
    try with_reducible rfl
  try simp only [Act.put, List.setIfInBounds_toArray, List.set_cons_zero, List.set_cons_succ]
  refine wpAnyH_take (i := 25) (oi := { dst := some 62, op := Op.load 29 (Operand.tmp 5), type := 29, pos := "law.go:31", after := #[{ on := 24, ground := Ground.guard }], guard := some (24, true) }) (v := ?_) rfl (by as_aux_lemma => kernel_rfl) (by as_aux_lemma => kernel_rfl) (by as_aux_lemma => kernel_rfl) (fun _ _ _ h => h) (Or.inl ⟨by rfl, ?_⟩) (by assumption) ?_
  rotate_left
  · intro w' hSw
    try dsimp only at hSw
    go_simp
    try with_reducible rfl
  try simp only [Act.put, List.setIfInBounds_toArray, List.set_cons_zero, List.set_cons_succ]
  refine wpAnyH_take (i := 27) (oi := { dst := some 64, op := Op.load 29 (Operand.tmp 5), type := 29, pos := "law.go:31", after := #[{ on := 24, ground := Ground.guard }], guard := some (24, true) }) (v := ?_) rfl (by as_aux_lemma => kernel_rfl) (by as_aux_lemma => kernel_rfl) (by as_aux_lemma => kernel_rfl) (fun _ _ _ h => h) (Or.inl ⟨by rfl, ?_⟩) (by assumption) ?_
  rotate_left
  · intro w' hSw
    try dsimp only at hSw
    go_simp
    try with_reducible rfl
  try simp only [Act.put, List.setIfInBounds_toArray, List.set_cons_zero, List.set_cons_succ]
  refine wpAnyH_ready (rs := [26]) (by as_aux_lemma => kernel_rfl) (by simp) ?_
  refine AllReadyH.cons (o := { dst := some 63, op := Op.call { callee := Callee.value (Operand.func 22), args := #[Operand.tmp 62], argTypes := #[29] }, type := 38, pos := "law.go:31", after := #[{ on := 25, ground := Ground.data }, { on := 24, ground := Ground.chain }, { on := 24, ground := Ground.guard }], guard := some (24, true) }) rfl (fun Kx hK => ?_) AllReadyH.nil
  go_simp
  refine (touch_any ⟨k, u, o, id, ⟨a, b, c, st⟩⟩ _).mono ?_
  rintro e z6 ⟨v6, rfl, hv6, b69⟩
  have K6 := Lib.hid (below2Z K5.out b69)
  have D6 := Lib.hid (saQ_up K6.out D.out)
  have T6 := Lib.hid hv6
  obtain ⟨za6, zk6, rfl, -⟩ := T6.out
  clear hv6
  clear b69
  go_wp2_with fail
  refine hK.out _ _ ?_ (fun hHeld2 => ?_)
  · exact D6.out
  clear hK Kx hHeld
  have hHeld := hHeld2
  clear hHeld2
  try simp only [Act.put, List.setIfInBounds_toArray, List.set_cons_zero, List.set_cons_succ]
  refine wpAnyH_ready (rs := [28]) (by as_aux_lemma => kernel_rfl) (by simp) ?_
  refine AllReadyH.cons (o := { dst := some 65, op := Op.call { callee := Callee.value (Operand.func 23), args := #[Operand.tmp 64], argTypes := #[29] }, type := 38, pos := "law.go:31", after := #[{ on := 27, ground := Ground.data }, { on := 26, ground := Ground.chain }, { on := 24, ground := Ground.guard }], guard := some (24, true) }) rfl (fun Kx hK => ?_) AllReadyH.nil
  go_simp
  refine (rtouch_any ⟨k, u, o, id, ⟨a, b, c, st⟩⟩ _).mono ?_
  rintro e z7 ⟨v7, rfl, hv7, b79⟩
  have K7 := Lib.hid (below2Z K6.out b79)
  have D7 := Lib.hid (saQ_up K7.out D.out)
  replace T6 := Lib.hid (T6.out.later b79)
  have T7 := Lib.hid hv7
  obtain ⟨za7, zk7, rfl, -⟩ := T7.out
  clear hv7
  clear b79
  go_wp2_with fail
  refine hK.out _ _ ?_ (fun hHeld2 => ?_)
  · exact D7.out
  clear hK Kx hHeld
  have hHeld := hHeld2
  clear hHeld2
  try simp only [Act.put, List.setIfInBounds_toArray, List.set_cons_zero, List.set_cons_succ]
  refine wpAnyH_ready (rs := [29]) (by as_aux_lemma => kernel_rfl) (by simp) ?_
  refine AllReadyH.cons (o := { dst := some 66, op := Op.call { callee := Callee.value (Operand.func 21), args := #[Operand.tmp 63, Operand.tmp 65], argTypes := #[38, 38] }, type := 4, pos := "law.go:31", after := #[{ on := 26, ground := Ground.data }, { on := 28, ground := Ground.data }, { on := 28, ground := Ground.chain }, { on := 24, ground := Ground.guard }], guard := some (24, true) }) rfl (fun Kx hK => ?_) AllReadyH.nil
  go_simp
  refine (same_yes T6.out T7.out (Nat.le_trans (stTouch_len _) (by decide))).mono ?_
  rintro e z8 ⟨rfl, b89⟩
  have K8 := Lib.hid (below2Z K7.out b89)
  have D8 := Lib.hid (saQ_up K8.out D.out)
  clear b89
  go_wp2_with fail
  refine hK.out _ _ ?_ (fun hHeld2 => ?_)
  · exact D8.out
  clear hK Kx hHeld
  have hHeld := hHeld2
  clear hHeld2
  try simp only [Act.put, List.setIfInBounds_toArray, List.set_cons_zero, List.set_cons_succ]
  refine wpAnyH_take (i := 30) (oi := { dst := some 67, op := Op.pick (Operand.tmp 61) (Operand.tmp 66) (Operand.const (Value.bool false)), type := 4, pos := "law.go:31", after := #[{ on := 24, ground := Ground.data }, { on := 29, ground := Ground.data }], guard := none }) (v := ?_) rfl (by as_aux_lemma => kernel_rfl) (by as_aux_lemma => kernel_rfl) (by as_aux_lemma => kernel_rfl) (fun _ _ _ h => h) (Or.inl ⟨by rfl, ?_⟩) (by assumption) ?_
  rotate_left
  · intro w' hSw
    try dsimp only at hSw
    go_simp
    try with_reducible rfl
  try simp only [Act.put, List.setIfInBounds_toArray, List.set_cons_zero, List.set_cons_succ]
  refine wpAnyH_take (i := 31) (oi := { dst := some 68, op := Op.move (Operand.tmp 67), type := 4, pos := "law.go:31", after := #[{ on := 30, ground := Ground.data }, { on := 29, ground := Ground.chain }], guard := none }) (v := ?_) rfl (by as_aux_lemma => kernel_rfl) (by as_aux_lemma => kernel_rfl) (by as_aux_lemma => kernel_rfl) (fun _ _ _ h => h) (Or.inl ⟨by rfl, ?_⟩) (by assumption) ?_
  rotate_left
  · intro w' hSw
    try dsimp only at hSw
    go_simp
    try with_reducible rfl
  try simp only [Act.put, List.setIfInBounds_toArray, List.set_cons_zero, List.set_cons_succ]
  refine wpAnyH_ready (rs := [32]) (by as_aux_lemma => kernel_rfl) (by simp) ?_
  refine AllReadyH.cons (o := { dst := some 69, op := Op.call { callee := Callee.value (Operand.func 14), args := #[], argTypes := #[] }, type := 4, pos := "law.go:31", after := #[{ on := 31, ground := Ground.chain }, { on := 31, ground := Ground.guard }], guard := some (31, true) }) rfl (fun Kx hK => ?_) AllReadyH.nil
  go_simp
  refine (live14 _).mono ?_
  rintro e z9 ⟨rfl, b99⟩
  have K9 := Lib.hid (below2Z K8.out b99)
  have D9 := Lib.hid (saQ_up K9.out D.out)
  clear b99
  go_wp2_with fail
  refine hK.out _ _ ?_ (fun hHeld2 => ?_)
  · exact D9.out
  clear hK Kx hHeld
  have hHeld := hHeld2
  clear hHeld2
  try simp only [Act.put, List.setIfInBounds_toArray, List.set_cons_zero, List.set_cons_succ]
  refine wpAnyH_take (i := 33) (oi := { dst := some 70, op := Op.pick (Operand.tmp 68) (Operand.tmp 69) (Operand.const (Value.bool false)), type := 4, pos := "law.go:31", after := #[{ on := 31, ground := Ground.data }, { on := 32, ground := Ground.data }], guard := none }) (v := ?_) rfl (by as_aux_lemma => kernel_rfl) (by as_aux_lemma => kernel_rfl) (by as_aux_lemma => kernel_rfl) (fun _ _ _ h => h) (Or.inl ⟨by rfl, ?_⟩) (by assumption) ?_
  rotate_left
  · intro w' hSw
    try dsimp only at hSw
    go_simp
    try with_reducible rfl
  try simp only [Act.put, List.setIfInBounds_toArray, List.set_cons_zero, List.set_cons_succ]
  refine wpAnyH_take (i := 34) (oi := { dst := some 6, op := Op.assign (Operand.tmp 70), type := 4, pos := "law.go:31", after := #[{ on := 33, ground := Ground.data }, { on := 32, ground := Ground.chain }, { on := 0, ground := Ground.phase }, { on := 1, ground := Ground.phase }, { on := 2, ground := Ground.phase }, { on := 3, ground := Ground.phase }, { on := 4, ground := Ground.phase }, { on := 5, ground := Ground.phase }, { on := 6, ground := Ground.phase }, { on := 7, ground := Ground.phase }, { on := 8, ground := Ground.phase }, { on := 9, ground := Ground.phase }, { on := 10, ground := Ground.phase }, { on := 11, ground := Ground.phase }, { on := 12, ground := Ground.phase }, { on := 13, ground := Ground.phase }, { on := 14, ground := Ground.phase }, { on := 15, ground := Ground.phase }, { on := 16, ground := Ground.phase }, { on := 17, ground := Ground.phase }, { on := 18, ground := Ground.phase }, { on := 19, ground := Ground.phase }, { on := 20, ground := Ground.phase }, { on := 21, ground := Ground.phase }, { on := 22, ground := Ground.phase }, { on := 23, ground := Ground.phase }, { on := 24, ground := Ground.phase }, { on := 25, ground := Ground.phase }, { on := 26, ground := Ground.phase }, { on := 27, ground := Ground.phase }, { on := 28, ground := Ground.phase }, { on := 29, ground := Ground.phase }, { on := 30, ground := Ground.phase }, { on := 31, ground := Ground.phase }, { on := 32, ground := Ground.phase }, { on := 33, ground := Ground.phase }], guard := none }) (v := ?_) rfl (by as_aux_lemma => kernel_rfl) (by as_aux_lemma => kernel_rfl) (by as_aux_lemma => kernel_rfl) (fun _ _ _ h => h) (Or.inl ⟨by rfl, ?_⟩) (by assumption) ?_
  rotate_left
  · intro w' hSw
    try dsimp only at hSw
    go_simp
    try with_reducible rfl
  try simp only [Act.put, List.setIfInBounds_toArray, List.set_cons_zero, List.set_cons_succ]
  refine wpAnyH_done (by kernel_rfl) ?_ _
  replace HB := Lib.hid (below2Z HB.out K9.out)
  go_wp2_with fail
  go_ret
  exact ⟨rfl, HB.out⟩

theorem walkStateApplies {w : World} {x y x2 y2 : Value} {s t : Sta} (h : StAt w x y s) (_ : ∀ r ∈ s.s, SesFit r) (h2 : StAt w x2 y2 t) (_ : ∀ r ∈ t.s, SesFit r) (e : Ev) (_ : evFit e) :
    Calls Tryz.prog 3 #[.agg #[x, y], .agg #[x2, y2], .agg #[.int .i64 e.k, .string ⟨e.u.toArray⟩, .string ⟨e.o.toArray⟩, .int .i64 e.id, .int .i64 e.v.sh, .int .i64 e.v.pr, .int .i64 e.v.si, .string ⟨e.v.st.toArray⟩]] w fun z w' => z = .returned (.bool true) ∧ Below w.heap.size w w' := by
  obtain ⟨k, u, o, id, ⟨a, b, c, st⟩⟩ := e
  cases hs : fewSta s with
  | false => exact sapp_1 h h2 k u o st id a b c hs
  | true =>
    cases ht : fewSta t with
    | false => exact sapp_2 h h2 k u o st id a b c hs ht
    | true =>
      cases he : shortEv ⟨k, u, o, id, ⟨a, b, c, st⟩⟩ with
      | false => exact sapp_3 h h2 k u o st id a b c hs ht he
      | true => exact sapp_4 h h2 k u o st id a b c hs ht he

end Go.Proofs.YtdilcckoapaimaaGreat

end

section

/-
  THE FRAME OF THE PROOF OF StateApplies: for every input the law returns true, and each argument reads behind the call as it read before. No condition.
-/
namespace Go.Proofs.YtdilcckoapaimaaGreat.stateApplies
open Go.ChangeShapes Go.WideShapes Go.ChangeAt Go.RowKit
open Go.ChangeMaps (open_string shut_string)
set_option linter.unusedVariables false

theorem own : ownKnob Tryz.prog.godebug = none := by kernel_rfl
theorem laidOut : laidOutB Tryz.prog = true := by kernel_rfl

set_option maxRecDepth 100000 in
theorem lifted (os : Os) (started : os.Started) (H : Type) (enc : TypeId × Value → H) :
    ReturnsInHanded {} Tryz.checked os 3 .any (Rows.stateAppliesSpec.pre6 enc Tryz.prog Tryz.f3 Rows.stateAppliesRow.domain false) (Rows.stateAppliesSpec.post enc Tryz.prog Tryz.f3 false true false false) := by
  refine returnsInHanded_of_change (C := Tryz.checked) own started (by kernel_rfl) Tryz.func3
    (ChangeSpec.witness6 (enc := enc) (C := Tryz.checked) false ⟨#[], #[.agg #[.slice none 0 0, .slice none 0 0], .agg #[.slice none 0 0, .slice none 0 0], .agg #[.int .i64 0, .string ByteArray.empty, .string ByteArray.empty, .int .i64 0, .int .i64 0, .int .i64 0, .int .i64 0, .string ByteArray.empty]], []⟩ 8 (by kernel_rfl) (by kernel_rfl) (by kernel_rfl) (by kernel_rfl)) ?_
  intro W base args ds gs before hval0 hW hcnd _
  have hval : ∀ (j : Nat) t v, Tryz.f3.params[j]? = some t → args[j]? = some v → Value.okWide Tryz.prog W .any base t v := hval0
  have hW' := hW
  obtain ⟨p, q, hA0, hV, rfl, hfz, hnd⟩ := hW
  have hA : DataW.TrodAll enc Tryz.prog W 0 (fun _ => true) true Tryz.f3.params.toList args.toList ds p := hA0
  rw [Tryz.params3] at hA hval
  obtain ⟨v0, vs0, d0, ds0, p0, q0, hargs, rfl, rfl, h0, r0⟩ := trodAll_cons hA
  obtain ⟨v1, vs1, d1, ds1, p1, q1, rfl, rfl, rfl, h1, r1⟩ := trodAll_cons r0
  obtain ⟨v2, vs2, d2, ds2, p2, q2, rfl, rfl, rfl, h2, r2⟩ := trodAll_cons r1
  obtain ⟨rfl, rfl, rfl⟩ := trodAll_nil r2
  obtain rfl : args = #[v0, v1, v2] := by cases args; simp_all
  obtain ⟨rfl, rfl⟩ := trodVars_none hV
  have k0 := h0
  have lt0 : ∀ x ∈ p0, x.block < W.heap.size := by obtain ⟨m, hm⟩ := k0; exact DataW.trod_lt m _ _ _ hm
  obtain ⟨x0, y0, l0, rfl, w0, f0⟩ := open_sta (hval 0 25 v0 rfl rfl) h0
  have k1 := h1
  have lt1 : ∀ x ∈ p1, x.block < W.heap.size := by obtain ⟨m, hm⟩ := k1; exact DataW.trod_lt m _ _ _ hm
  obtain ⟨x1, y1, l1, rfl, w1, f1⟩ := open_sta (hval 1 25 v1 rfl rfl) h1
  have k2 := h2
  have lt2 : ∀ x ∈ p2, x.block < W.heap.size := by obtain ⟨m, hm⟩ := k2; exact DataW.trod_lt m _ _ _ hm
  obtain ⟨a2, rfl, w2⟩ := open_ev (hval 2 29 v2 rfl rfl) h2
  clear hA0 hval0
  refine (walkStateApplies (w := W) w0 f0 w1 f1 a2 w2).mono fun e W' ⟨he, bel⟩ => ?_
  subst he
  exact ⟨_, rfl, _, _, _, [], _, [], hW', trodAll_mk1 (shut_bool Tryz.underlying4 _), (trodAll_cons_mk (Below.trod laidOut (by kernel_rfl) (of_decide_eq_true (by kernel_rfl)) k0 bel lt0) (trodAll_cons_mk (Below.trod laidOut (by kernel_rfl) (of_decide_eq_true (by kernel_rfl)) k1 bel lt1) (trodAll_cons_mk (Below.trod laidOut (by kernel_rfl) (of_decide_eq_true (by kernel_rfl)) k2 bel lt2) trodAll_mk0))), rfl, bel.frame _, fun h => by cases h⟩

theorem over : Rows.stateAppliesRow.holds Tryz.pinned (OpenSpec.ofChange Rows.stateAppliesSpec) :=
  OpenClaim.holds_of_wide 3 Tryz.f3 rfl rfl rfl rfl rfl rfl rfl ⟨rfl, rfl, rfl, rfl, rfl⟩ rfl rfl rfl rfl rfl (by kernel_rfl) Tryz.func3 (by kernel_rfl)
    (of_decide_eq_true (by kernel_rfl)) (by unfold Func.isWrapper; first | (rw [if_pos (by decide +kernel)]; kernel_rfl) | (rw [if_neg (by decide +kernel)]; exact ⟨rfl, rfl⟩))
    (fun os started H enc _ => lifted os started H enc)

/-- THE STATEMENT. -/
theorem proved : Rows.StateAppliesSaid := over
#print axioms proved
end Go.Proofs.YtdilcckoapaimaaGreat.stateApplies

end
