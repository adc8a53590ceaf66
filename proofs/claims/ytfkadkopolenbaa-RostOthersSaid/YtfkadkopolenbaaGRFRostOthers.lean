/-
  THE PROOF OF RostOthers: for every input the law returns true, and each argument reads behind the call as it read before. No condition.
-/
import Derived.Test.YtfkadkopolenbaaGR21
import Derived.Test.YtfkadkopolenbaaGR13
import Derived.Test.YtfkadkopolenbaaGR22
import Derived.Test.YtfkadkopolenbaaGR18
import Derived.Test.YtfkadkopolenbaaGR23
import Derived.Test.YtfkadkopolenbaaRows
import Derived.ProofKit
import Derived.OpenShut
import Derived.ShutString
import Derived.ChangeOld
import Derived.SliceStrings
import Derived.Lib.SmallJoins
import Derived.Test.YtfkadkopolenbaaGR24

section

/-
  THE WALK OF RostOthers.
-/
namespace Go.Proofs.Ytfkadkopolenbaa
open Go.RowKit

theorem threeO {X : World} {b : Nat} {k : Int} {u o : List UInt8} (h : CellsAt X b 0 (rmovVals ⟨k, u, o⟩)) : X.cell? ⟨b, 0, none⟩ = some (.int .i64 k) ∧ X.cell? ⟨b, 1, none⟩ = some (.string ⟨u.toArray⟩) ∧ X.cell? ⟨b, 2, none⟩ = some (.string ⟨o.toArray⟩) := by
  have h0 := h 0 _ rfl
  have h1 := h 1 _ rfl
  have h2 := h 2 _ rfl
  simp only [Nat.zero_add] at h0 h1 h2
  exact ⟨h0, h1, h2⟩

def poVals (p q : List UInt8) : List Value := [.string ⟨p.toArray⟩, .string ⟨q.toArray⟩]

theorem twoO {X : World} {b : Nat} {p q : List UInt8} (h : CellsAt X b 0 (poVals p q)) : X.cell? ⟨b, 0, none⟩ = some (.string ⟨p.toArray⟩) ∧ X.cell? ⟨b, 1, none⟩ = some (.string ⟨q.toArray⟩) := by
  have h0 := h 0 _ rfl
  have h1 := h 1 _ rfl
  simp only [Nat.zero_add] at h0 h1
  exact ⟨h0, h1⟩

theorem roDo_len {l m : List Ent} {k : Int} {u o : List UInt8} (h : roDo l k u o = (m, 0)) (hl : l.length ≤ 80) : m.length ≤ 4294967 := by
  obtain ⟨hm, _, _, _, _, _, a, b, _, _, rfl⟩ := roDo_ok h
  have hr : Rise l := hm.1
  have key : ∀ (t : List Ent) (x : Ent) (keep : Bool), Rise t → (roSet t x keep).length ≤ t.length + 1 := by
    intro t x keep ht
    cases keep with
    | true => rw [roSet_keep ht]; exact putO_le t x
    | false => rw [roSet_drop]; exact Nat.le_trans (dropO_le t x) (Nat.le_succ _)
  have h1 := key l ⟨u, o, a⟩ (!(suEmpty a && suEmpty b)) hr
  have h2 := key (roSet l ⟨u, o, a⟩ (!(suEmpty a && suEmpty b))) ⟨o, u, b⟩ (!(suEmpty a && suEmpty b)) (roSet_rise hr _ _)
  omega

theorem roWat_le (l : List Ent) (c : List UInt8) : (roWat l c).length ≤ l.length := by
  unfold roWat
  rw [List.length_map]
  exact List.length_filter_le _ _

theorem seqO {a b : List UInt8} (h : a = b) : (a == b) = true := by rw [beq_iff_eq]; exact h
theorem sneO {a b : List UInt8} (h : ¬ a = b) : (a == b) = false := by rw [beq_eq_false_iff_ne]; exact h

set_option maxHeartbeats 3200000 in
set_option maxRecDepth 100000 in
theorem roth_1 {w : World} {v : Value} {l : List Ent} (hv : Ents w v l) (k : Int) (u o p q : List UInt8) (hw : fewR l = false) :
    Calls Try.prog 6 #[v, .agg #[.int .i64 k, .string ⟨u.toArray⟩, .string ⟨o.toArray⟩], .agg #[.string ⟨p.toArray⟩, .string ⟨q.toArray⟩]] w fun e w' => e = .returned (.bool true) ∧ Below w.heap.size w w' := by
  have b0 := below2Z (bl_newZ w (.cells #[.int .i64 k, .string ⟨u.toArray⟩, .string ⟨o.toArray⟩] 33)) (bl_newZ (w.alloc (.cells #[.int .i64 k, .string ⟨u.toArray⟩, .string ⟨o.toArray⟩] 33)) (.cells #[.string ⟨p.toArray⟩, .string ⟨q.toArray⟩] 43))
  have HB := Lib.hid b0
  have C := Lib.hid ((cellsAt_made (w := w) (cs := #[.int .i64 k, .string ⟨u.toArray⟩, .string ⟨o.toArray⟩]) (vs := rmovVals ⟨k, u, o⟩) rfl 33 rfl).later (bl_newZ (w.alloc (.cells #[.int .i64 k, .string ⟨u.toArray⟩, .string ⟨o.toArray⟩] 33)) (.cells #[.string ⟨p.toArray⟩, .string ⟨q.toArray⟩] 43)))
  have D := Lib.hid (cellsAt_made (w := w.alloc (.cells #[.int .i64 k, .string ⟨u.toArray⟩, .string ⟨o.toArray⟩] 33)) (cs := #[.string ⟨p.toArray⟩, .string ⟨q.toArray⟩]) (vs := poVals p q) rfl 43 (B := w.heap.size + 1) (by simp))
  have V := Lib.hid (hv.later b0)
  have HF := Lib.hid (few8_any V.out (Lib.hid hw))
  obtain ⟨ao, cap, rfl, hm⟩ := hv.open'
  clear b0 hv
  obtain ⟨c0, c1, c2⟩ := threeO C.out
  obtain ⟨d0, d1⟩ := twoO D.out
  go_enter Try.func6, Try.ntmps6
  go_wp2_with fail
  refine HF.out.mono ?_
  rintro e w0 ⟨rfl, rfl⟩
  clear c0 c1 c2 d0 d1
  go_wp2_with fail
  refine (live8 _).mono ?_
  rintro e w1 ⟨rfl, b1⟩
  replace HB := Lib.hid (below2Z HB.out b1)
  clear b1
  go_wp2_with fail
  go_ret
  exact ⟨rfl, HB.out⟩

set_option maxHeartbeats 3200000 in
set_option maxRecDepth 100000 in
theorem roth_2 {w : World} {v : Value} {l : List Ent} (hv : Ents w v l) (k : Int) (u o p q : List UInt8) (hw : fewR l = true) (hm8 : roMayD l = false) :
    Calls Try.prog 6 #[v, .agg #[.int .i64 k, .string ⟨u.toArray⟩, .string ⟨o.toArray⟩], .agg #[.string ⟨p.toArray⟩, .string ⟨q.toArray⟩]] w fun e w' => e = .returned (.bool true) ∧ Below w.heap.size w w' := by
  have b0 := below2Z (bl_newZ w (.cells #[.int .i64 k, .string ⟨u.toArray⟩, .string ⟨o.toArray⟩] 33)) (bl_newZ (w.alloc (.cells #[.int .i64 k, .string ⟨u.toArray⟩, .string ⟨o.toArray⟩] 33)) (.cells #[.string ⟨p.toArray⟩, .string ⟨q.toArray⟩] 43))
  have HB := Lib.hid b0
  have C := Lib.hid ((cellsAt_made (w := w) (cs := #[.int .i64 k, .string ⟨u.toArray⟩, .string ⟨o.toArray⟩]) (vs := rmovVals ⟨k, u, o⟩) rfl 33 rfl).later (bl_newZ (w.alloc (.cells #[.int .i64 k, .string ⟨u.toArray⟩, .string ⟨o.toArray⟩] 33)) (.cells #[.string ⟨p.toArray⟩, .string ⟨q.toArray⟩] 43)))
  have D := Lib.hid (cellsAt_made (w := w.alloc (.cells #[.int .i64 k, .string ⟨u.toArray⟩, .string ⟨o.toArray⟩] 33)) (cs := #[.string ⟨p.toArray⟩, .string ⟨q.toArray⟩]) (vs := poVals p q) rfl 43 (B := w.heap.size + 1) (by simp))
  have V := Lib.hid (hv.later b0)
  have HF := Lib.hid (few8_any V.out (Lib.hid hw))
  have HL := (fewR_get hw).1
  have HS := Lib.hid (fewR_short hw)
  obtain ⟨ao, cap, rfl, hm⟩ := hv.open'
  clear b0 hv
  obtain ⟨c0, c1, c2⟩ := threeO C.out
  obtain ⟨d0, d1⟩ := twoO D.out
  have HM := Lib.hid hm8
  go_enter Try.func6, Try.ntmps6
  go_wp2_with fail
  refine HF.out.mono ?_
  rintro e w0 ⟨rfl, rfl⟩
  go_wp2_with fail
  refine (rmay8_any V.out HS.out (by omega) HM).mono ?_
  rintro e w1 ⟨rfl, b1⟩
  replace HB := Lib.hid (below2Z HB.out b1)
  clear b1
  go_wp2_with fail
  refine (live8 _).mono ?_
  rintro e w2 ⟨rfl, b2⟩
  replace HB := Lib.hid (below2Z HB.out b2)
  clear b2
  go_wp2_with fail
  go_ret
  exact ⟨rfl, HB.out⟩

set_option maxHeartbeats 3200000 in
set_option maxRecDepth 100000 in
theorem roth_3 {w : World} {v : Value} {l : List Ent} (hv : Ents w v l) (k : Int) (u o p q : List UInt8) (hw : fewR l = true) (hm8 : roMayD l = true) (h1 : ¬ u.length ≤ 40) :
    Calls Try.prog 6 #[v, .agg #[.int .i64 k, .string ⟨u.toArray⟩, .string ⟨o.toArray⟩], .agg #[.string ⟨p.toArray⟩, .string ⟨q.toArray⟩]] w fun e w' => e = .returned (.bool true) ∧ Below w.heap.size w w' := by
  have b0 := below2Z (bl_newZ w (.cells #[.int .i64 k, .string ⟨u.toArray⟩, .string ⟨o.toArray⟩] 33)) (bl_newZ (w.alloc (.cells #[.int .i64 k, .string ⟨u.toArray⟩, .string ⟨o.toArray⟩] 33)) (.cells #[.string ⟨p.toArray⟩, .string ⟨q.toArray⟩] 43))
  have HB := Lib.hid b0
  have C := Lib.hid ((cellsAt_made (w := w) (cs := #[.int .i64 k, .string ⟨u.toArray⟩, .string ⟨o.toArray⟩]) (vs := rmovVals ⟨k, u, o⟩) rfl 33 rfl).later (bl_newZ (w.alloc (.cells #[.int .i64 k, .string ⟨u.toArray⟩, .string ⟨o.toArray⟩] 33)) (.cells #[.string ⟨p.toArray⟩, .string ⟨q.toArray⟩] 43)))
  have D := Lib.hid (cellsAt_made (w := w.alloc (.cells #[.int .i64 k, .string ⟨u.toArray⟩, .string ⟨o.toArray⟩] 33)) (cs := #[.string ⟨p.toArray⟩, .string ⟨q.toArray⟩]) (vs := poVals p q) rfl 43 (B := w.heap.size + 1) (by simp))
  have V := Lib.hid (hv.later b0)
  have HF := Lib.hid (few8_any V.out (Lib.hid hw))
  have HL := (fewR_get hw).1
  have HS := Lib.hid (fewR_short hw)
  obtain ⟨ao, cap, rfl, hm⟩ := hv.open'
  clear b0 hv
  obtain ⟨c0, c1, c2⟩ := threeO C.out
  obtain ⟨d0, d1⟩ := twoO D.out
  have HM := Lib.hid hm8
  have tu : decide ((40 : Int) < (u.length : Int)) = true := by rw [decide_eq_true_eq]; omega
  go_enter Try.func6, Try.ntmps6
  go_wp2_with fail
  refine HF.out.mono ?_
  rintro e w0 ⟨rfl, rfl⟩
  clear c0 c1 c2 d0 d1
  go_wp2_with fail
  refine (rmay8_any V.out HS.out (by omega) HM).mono ?_
  rintro e w1 ⟨rfl, b1⟩
  replace V := Lib.hid (V.out.later b1)
  replace C := Lib.hid (C.out.later b1)
  replace D := Lib.hid (D.out.later b1)
  replace HB := Lib.hid (below2Z HB.out b1)
  clear b1
  obtain ⟨c0, c1, c2⟩ := threeO C.out
  obtain ⟨d0, d1⟩ := twoO D.out
  go_wp2_with fail
  refine (live8 _).mono ?_
  rintro e w2 ⟨rfl, b2⟩
  replace HB := Lib.hid (below2Z HB.out b2)
  clear b2
  go_wp2_with fail
  go_ret
  exact ⟨rfl, HB.out⟩

set_option maxHeartbeats 3200000 in
set_option maxRecDepth 100000 in
theorem roth_4 {w : World} {v : Value} {l : List Ent} (hv : Ents w v l) (k : Int) (u o p q : List UInt8) (hw : fewR l = true) (hm8 : roMayD l = true) (h1 : u.length ≤ 40) (h2 : ¬ o.length ≤ 40) :
    Calls Try.prog 6 #[v, .agg #[.int .i64 k, .string ⟨u.toArray⟩, .string ⟨o.toArray⟩], .agg #[.string ⟨p.toArray⟩, .string ⟨q.toArray⟩]] w fun e w' => e = .returned (.bool true) ∧ Below w.heap.size w w' := by
  have b0 := below2Z (bl_newZ w (.cells #[.int .i64 k, .string ⟨u.toArray⟩, .string ⟨o.toArray⟩] 33)) (bl_newZ (w.alloc (.cells #[.int .i64 k, .string ⟨u.toArray⟩, .string ⟨o.toArray⟩] 33)) (.cells #[.string ⟨p.toArray⟩, .string ⟨q.toArray⟩] 43))
  have HB := Lib.hid b0
  have C := Lib.hid ((cellsAt_made (w := w) (cs := #[.int .i64 k, .string ⟨u.toArray⟩, .string ⟨o.toArray⟩]) (vs := rmovVals ⟨k, u, o⟩) rfl 33 rfl).later (bl_newZ (w.alloc (.cells #[.int .i64 k, .string ⟨u.toArray⟩, .string ⟨o.toArray⟩] 33)) (.cells #[.string ⟨p.toArray⟩, .string ⟨q.toArray⟩] 43)))
  have D := Lib.hid (cellsAt_made (w := w.alloc (.cells #[.int .i64 k, .string ⟨u.toArray⟩, .string ⟨o.toArray⟩] 33)) (cs := #[.string ⟨p.toArray⟩, .string ⟨q.toArray⟩]) (vs := poVals p q) rfl 43 (B := w.heap.size + 1) (by simp))
  have V := Lib.hid (hv.later b0)
  have HF := Lib.hid (few8_any V.out (Lib.hid hw))
  have HL := (fewR_get hw).1
  have HS := Lib.hid (fewR_short hw)
  obtain ⟨ao, cap, rfl, hm⟩ := hv.open'
  clear b0 hv
  obtain ⟨c0, c1, c2⟩ := threeO C.out
  obtain ⟨d0, d1⟩ := twoO D.out
  have HM := Lib.hid hm8
  have tu : decide ((40 : Int) < (u.length : Int)) = false := by rw [decide_eq_false_iff_not]; omega
  have to : decide ((40 : Int) < (o.length : Int)) = true := by rw [decide_eq_true_eq]; omega
  go_enter Try.func6, Try.ntmps6
  go_wp2_with fail
  refine HF.out.mono ?_
  rintro e w0 ⟨rfl, rfl⟩
  clear c0 c1 c2 d0 d1
  go_wp2_with fail
  refine (rmay8_any V.out HS.out (by omega) HM).mono ?_
  rintro e w1 ⟨rfl, b1⟩
  replace V := Lib.hid (V.out.later b1)
  replace C := Lib.hid (C.out.later b1)
  replace D := Lib.hid (D.out.later b1)
  replace HB := Lib.hid (below2Z HB.out b1)
  clear b1
  obtain ⟨c0, c1, c2⟩ := threeO C.out
  obtain ⟨d0, d1⟩ := twoO D.out
  go_wp2_with fail
  refine (live8 _).mono ?_
  rintro e w2 ⟨rfl, b2⟩
  replace HB := Lib.hid (below2Z HB.out b2)
  clear b2
  go_wp2_with fail
  go_ret
  exact ⟨rfl, HB.out⟩

set_option maxHeartbeats 3200000 in
set_option maxRecDepth 100000 in
theorem roth_5 {w : World} {v : Value} {l : List Ent} (hv : Ents w v l) (k : Int) (u o p q : List UInt8) (hw : fewR l = true) (hm8 : roMayD l = true) (h1 : u.length ≤ 40) (h2 : o.length ≤ 40) (h3 : ¬ p.length ≤ 40) :
    Calls Try.prog 6 #[v, .agg #[.int .i64 k, .string ⟨u.toArray⟩, .string ⟨o.toArray⟩], .agg #[.string ⟨p.toArray⟩, .string ⟨q.toArray⟩]] w fun e w' => e = .returned (.bool true) ∧ Below w.heap.size w w' := by
  have b0 := below2Z (bl_newZ w (.cells #[.int .i64 k, .string ⟨u.toArray⟩, .string ⟨o.toArray⟩] 33)) (bl_newZ (w.alloc (.cells #[.int .i64 k, .string ⟨u.toArray⟩, .string ⟨o.toArray⟩] 33)) (.cells #[.string ⟨p.toArray⟩, .string ⟨q.toArray⟩] 43))
  have HB := Lib.hid b0
  have C := Lib.hid ((cellsAt_made (w := w) (cs := #[.int .i64 k, .string ⟨u.toArray⟩, .string ⟨o.toArray⟩]) (vs := rmovVals ⟨k, u, o⟩) rfl 33 rfl).later (bl_newZ (w.alloc (.cells #[.int .i64 k, .string ⟨u.toArray⟩, .string ⟨o.toArray⟩] 33)) (.cells #[.string ⟨p.toArray⟩, .string ⟨q.toArray⟩] 43)))
  have D := Lib.hid (cellsAt_made (w := w.alloc (.cells #[.int .i64 k, .string ⟨u.toArray⟩, .string ⟨o.toArray⟩] 33)) (cs := #[.string ⟨p.toArray⟩, .string ⟨q.toArray⟩]) (vs := poVals p q) rfl 43 (B := w.heap.size + 1) (by simp))
  have V := Lib.hid (hv.later b0)
  have HF := Lib.hid (few8_any V.out (Lib.hid hw))
  have HL := (fewR_get hw).1
  have HS := Lib.hid (fewR_short hw)
  obtain ⟨ao, cap, rfl, hm⟩ := hv.open'
  clear b0 hv
  obtain ⟨c0, c1, c2⟩ := threeO C.out
  obtain ⟨d0, d1⟩ := twoO D.out
  have HM := Lib.hid hm8
  have tu : decide ((40 : Int) < (u.length : Int)) = false := by rw [decide_eq_false_iff_not]; omega
  have to : decide ((40 : Int) < (o.length : Int)) = false := by rw [decide_eq_false_iff_not]; omega
  have tp : decide ((40 : Int) < (p.length : Int)) = true := by rw [decide_eq_true_eq]; omega
  go_enter Try.func6, Try.ntmps6
  go_wp2_with fail
  refine HF.out.mono ?_
  rintro e w0 ⟨rfl, rfl⟩
  clear c0 c1 c2 d0 d1
  go_wp2_with fail
  refine (rmay8_any V.out HS.out (by omega) HM).mono ?_
  rintro e w1 ⟨rfl, b1⟩
  replace V := Lib.hid (V.out.later b1)
  replace C := Lib.hid (C.out.later b1)
  replace D := Lib.hid (D.out.later b1)
  replace HB := Lib.hid (below2Z HB.out b1)
  clear b1
  obtain ⟨c0, c1, c2⟩ := threeO C.out
  obtain ⟨d0, d1⟩ := twoO D.out
  go_wp2_with fail
  refine (live8 _).mono ?_
  rintro e w2 ⟨rfl, b2⟩
  replace HB := Lib.hid (below2Z HB.out b2)
  clear b2
  go_wp2_with fail
  go_ret
  exact ⟨rfl, HB.out⟩

set_option maxHeartbeats 3200000 in
set_option maxRecDepth 100000 in
theorem roth_6 {w : World} {v : Value} {l : List Ent} (hv : Ents w v l) (k : Int) (u o p q : List UInt8) (hw : fewR l = true) (hm8 : roMayD l = true) (h1 : u.length ≤ 40) (h2 : o.length ≤ 40) (h3 : p.length ≤ 40) (h4 : ¬ q.length ≤ 40) :
    Calls Try.prog 6 #[v, .agg #[.int .i64 k, .string ⟨u.toArray⟩, .string ⟨o.toArray⟩], .agg #[.string ⟨p.toArray⟩, .string ⟨q.toArray⟩]] w fun e w' => e = .returned (.bool true) ∧ Below w.heap.size w w' := by
  have b0 := below2Z (bl_newZ w (.cells #[.int .i64 k, .string ⟨u.toArray⟩, .string ⟨o.toArray⟩] 33)) (bl_newZ (w.alloc (.cells #[.int .i64 k, .string ⟨u.toArray⟩, .string ⟨o.toArray⟩] 33)) (.cells #[.string ⟨p.toArray⟩, .string ⟨q.toArray⟩] 43))
  have HB := Lib.hid b0
  have C := Lib.hid ((cellsAt_made (w := w) (cs := #[.int .i64 k, .string ⟨u.toArray⟩, .string ⟨o.toArray⟩]) (vs := rmovVals ⟨k, u, o⟩) rfl 33 rfl).later (bl_newZ (w.alloc (.cells #[.int .i64 k, .string ⟨u.toArray⟩, .string ⟨o.toArray⟩] 33)) (.cells #[.string ⟨p.toArray⟩, .string ⟨q.toArray⟩] 43)))
  have D := Lib.hid (cellsAt_made (w := w.alloc (.cells #[.int .i64 k, .string ⟨u.toArray⟩, .string ⟨o.toArray⟩] 33)) (cs := #[.string ⟨p.toArray⟩, .string ⟨q.toArray⟩]) (vs := poVals p q) rfl 43 (B := w.heap.size + 1) (by simp))
  have V := Lib.hid (hv.later b0)
  have HF := Lib.hid (few8_any V.out (Lib.hid hw))
  have HL := (fewR_get hw).1
  have HS := Lib.hid (fewR_short hw)
  obtain ⟨ao, cap, rfl, hm⟩ := hv.open'
  clear b0 hv
  obtain ⟨c0, c1, c2⟩ := threeO C.out
  obtain ⟨d0, d1⟩ := twoO D.out
  have HM := Lib.hid hm8
  have tu : decide ((40 : Int) < (u.length : Int)) = false := by rw [decide_eq_false_iff_not]; omega
  have to : decide ((40 : Int) < (o.length : Int)) = false := by rw [decide_eq_false_iff_not]; omega
  have tp : decide ((40 : Int) < (p.length : Int)) = false := by rw [decide_eq_false_iff_not]; omega
  have tq : decide ((40 : Int) < (q.length : Int)) = true := by rw [decide_eq_true_eq]; omega
  go_enter Try.func6, Try.ntmps6
  go_wp2_with fail
  refine HF.out.mono ?_
  rintro e w0 ⟨rfl, rfl⟩
  clear c0 c1 c2 d0 d1
  go_wp2_with fail
  refine (rmay8_any V.out HS.out (by omega) HM).mono ?_
  rintro e w1 ⟨rfl, b1⟩
  replace V := Lib.hid (V.out.later b1)
  replace C := Lib.hid (C.out.later b1)
  replace D := Lib.hid (D.out.later b1)
  replace HB := Lib.hid (below2Z HB.out b1)
  clear b1
  obtain ⟨c0, c1, c2⟩ := threeO C.out
  obtain ⟨d0, d1⟩ := twoO D.out
  go_wp2_with fail
  refine (live8 _).mono ?_
  rintro e w2 ⟨rfl, b2⟩
  replace HB := Lib.hid (below2Z HB.out b2)
  clear b2
  go_wp2_with fail
  go_ret
  exact ⟨rfl, HB.out⟩

set_option maxHeartbeats 3200000 in
set_option maxRecDepth 100000 in
theorem roth_7 {w : World} {v : Value} {l : List Ent} (hv : Ents w v l) (k : Int) (u o p q : List UInt8) (hk : (Lit.int .i64 k).wf = true) (hw : fewR l = true) (hm8 : roMayD l = true) (h1 : u.length ≤ 40) (h2 : o.length ≤ 40) (h3 : p.length ≤ 40) (h4 : q.length ≤ 40) {m : List Ent} {n : Nat} (hd : roDo l k u o = (m, n)) (he : n ≠ 0) :
    Calls Try.prog 6 #[v, .agg #[.int .i64 k, .string ⟨u.toArray⟩, .string ⟨o.toArray⟩], .agg #[.string ⟨p.toArray⟩, .string ⟨q.toArray⟩]] w fun e w' => e = .returned (.bool true) ∧ Below w.heap.size w w' := by
  have b0 := below2Z (bl_newZ w (.cells #[.int .i64 k, .string ⟨u.toArray⟩, .string ⟨o.toArray⟩] 33)) (bl_newZ (w.alloc (.cells #[.int .i64 k, .string ⟨u.toArray⟩, .string ⟨o.toArray⟩] 33)) (.cells #[.string ⟨p.toArray⟩, .string ⟨q.toArray⟩] 43))
  have HB := Lib.hid b0
  have C := Lib.hid ((cellsAt_made (w := w) (cs := #[.int .i64 k, .string ⟨u.toArray⟩, .string ⟨o.toArray⟩]) (vs := rmovVals ⟨k, u, o⟩) rfl 33 rfl).later (bl_newZ (w.alloc (.cells #[.int .i64 k, .string ⟨u.toArray⟩, .string ⟨o.toArray⟩] 33)) (.cells #[.string ⟨p.toArray⟩, .string ⟨q.toArray⟩] 43)))
  have D := Lib.hid (cellsAt_made (w := w.alloc (.cells #[.int .i64 k, .string ⟨u.toArray⟩, .string ⟨o.toArray⟩] 33)) (cs := #[.string ⟨p.toArray⟩, .string ⟨q.toArray⟩]) (vs := poVals p q) rfl 43 (B := w.heap.size + 1) (by simp))
  have V := Lib.hid (hv.later b0)
  have HF := Lib.hid (few8_any V.out (Lib.hid hw))
  have HL := (fewR_get hw).1
  have HS := Lib.hid (fewR_short hw)
  obtain ⟨ao, cap, rfl, hm⟩ := hv.open'
  clear b0 hv
  obtain ⟨c0, c1, c2⟩ := threeO C.out
  obtain ⟨d0, d1⟩ := twoO D.out
  have HM := Lib.hid hm8
  have HD := Lib.hid hd
  have tu : decide ((40 : Int) < (u.length : Int)) = false := by rw [decide_eq_false_iff_not]; omega
  have to : decide ((40 : Int) < (o.length : Int)) = false := by rw [decide_eq_false_iff_not]; omega
  have tp : decide ((40 : Int) < (p.length : Int)) = false := by rw [decide_eq_false_iff_not]; omega
  have tq : decide ((40 : Int) < (q.length : Int)) = false := by rw [decide_eq_false_iff_not]; omega
  obtain rfl := roDo_err hd he
  have t9 : ((n : Int) != 0) = true := by rw [bne_iff_ne]; omega
  have t9b : ((n : Int) == 0) = false := by rw [beq_eq_false_iff_ne]; omega
  clear hd
  go_enter Try.func6, Try.ntmps6
  go_wp2_with fail
  refine HF.out.mono ?_
  rintro e w0 ⟨rfl, rfl⟩
  clear c0 c1 c2 d0 d1
  go_wp2_with fail
  refine (rmay8_any V.out HS.out (by omega) HM).mono ?_
  rintro e w1 ⟨rfl, b1⟩
  replace V := Lib.hid (V.out.later b1)
  replace C := Lib.hid (C.out.later b1)
  replace D := Lib.hid (D.out.later b1)
  replace HB := Lib.hid (below2Z HB.out b1)
  clear b1
  obtain ⟨c0, c1, c2⟩ := threeO C.out
  obtain ⟨d0, d1⟩ := twoO D.out
  go_wp2_with fail
  refine (rdo_any V.out HS.out (by omega) u o (by omega) (by omega) k hk HD.out).mono ?_
  rintro e w2 ⟨x2, rfl, hx2, b2⟩
  replace V := Lib.hid (V.out.later b2)
  replace C := Lib.hid (C.out.later b2)
  replace D := Lib.hid (D.out.later b2)
  replace HB := Lib.hid (below2Z HB.out b2)
  have X2 := Lib.hid (hx2)
  clear hx2 c0 c1 c2 d0 d1
  obtain ⟨ax, kx, rfl, -⟩ := X2.out.open'
  clear b2
  go_wp2_with fail
  refine (rsame8_yes X2.out V.out).mono ?_
  rintro e w3 ⟨rfl, b3⟩
  replace HB := Lib.hid (below2Z HB.out b3)
  clear b3
  go_wp2_with fail
  refine (live8 _).mono ?_
  rintro e w4 ⟨rfl, b4⟩
  replace HB := Lib.hid (below2Z HB.out b4)
  clear b4
  go_wp2_with fail
  go_ret
  exact ⟨rfl, HB.out⟩

set_option maxHeartbeats 3200000 in
set_option maxRecDepth 100000 in
theorem roth_8 {w : World} {v : Value} {l : List Ent} (hv : Ents w v l) (k : Int) (u o p q : List UInt8) (hk : (Lit.int .i64 k).wf = true) (hw : fewR l = true) (hm8 : roMayD l = true) (h1 : u.length ≤ 40) (h2 : o.length ≤ 40) (h3 : p.length ≤ 40) (h4 : q.length ≤ 40) {m : List Ent} (hd : roDo l k u o = (m, 0)) (e1 : p = u) (e2 : q = o) :
    Calls Try.prog 6 #[v, .agg #[.int .i64 k, .string ⟨u.toArray⟩, .string ⟨o.toArray⟩], .agg #[.string ⟨p.toArray⟩, .string ⟨q.toArray⟩]] w fun e w' => e = .returned (.bool true) ∧ Below w.heap.size w w' := by
  subst e1
  subst e2
  have b0 := below2Z (bl_newZ w (.cells #[.int .i64 k, .string ⟨p.toArray⟩, .string ⟨q.toArray⟩] 33)) (bl_newZ (w.alloc (.cells #[.int .i64 k, .string ⟨p.toArray⟩, .string ⟨q.toArray⟩] 33)) (.cells #[.string ⟨p.toArray⟩, .string ⟨q.toArray⟩] 43))
  have HB := Lib.hid b0
  have C := Lib.hid ((cellsAt_made (w := w) (cs := #[.int .i64 k, .string ⟨p.toArray⟩, .string ⟨q.toArray⟩]) (vs := rmovVals ⟨k, p, q⟩) rfl 33 rfl).later (bl_newZ (w.alloc (.cells #[.int .i64 k, .string ⟨p.toArray⟩, .string ⟨q.toArray⟩] 33)) (.cells #[.string ⟨p.toArray⟩, .string ⟨q.toArray⟩] 43)))
  have D := Lib.hid (cellsAt_made (w := w.alloc (.cells #[.int .i64 k, .string ⟨p.toArray⟩, .string ⟨q.toArray⟩] 33)) (cs := #[.string ⟨p.toArray⟩, .string ⟨q.toArray⟩]) (vs := poVals p q) rfl 43 (B := w.heap.size + 1) (by simp))
  have V := Lib.hid (hv.later b0)
  have HF := Lib.hid (few8_any V.out (Lib.hid hw))
  have HL := (fewR_get hw).1
  have HS := Lib.hid (fewR_short hw)
  obtain ⟨ao, cap, rfl, hm⟩ := hv.open'
  clear b0 hv
  obtain ⟨c0, c1, c2⟩ := threeO C.out
  obtain ⟨d0, d1⟩ := twoO D.out
  have HM := Lib.hid hm8
  have HD := Lib.hid hd
  have tu : decide ((40 : Int) < (p.length : Int)) = false := by rw [decide_eq_false_iff_not]; omega
  have to : decide ((40 : Int) < (q.length : Int)) = false := by rw [decide_eq_false_iff_not]; omega
  have tp : decide ((40 : Int) < (p.length : Int)) = false := by rw [decide_eq_false_iff_not]; omega
  have tq : decide ((40 : Int) < (q.length : Int)) = false := by rw [decide_eq_false_iff_not]; omega
  have t9 : (((0 : Nat) : Int) != 0) = false := by decide
  go_enter Try.func6, Try.ntmps6
  go_wp2_with fail
  refine HF.out.mono ?_
  rintro e w0 ⟨rfl, rfl⟩
  clear c0 c1 c2 d0 d1
  go_wp2_with fail
  refine (rmay8_any V.out HS.out (by omega) HM).mono ?_
  rintro e w1 ⟨rfl, b1⟩
  replace V := Lib.hid (V.out.later b1)
  replace C := Lib.hid (C.out.later b1)
  replace D := Lib.hid (D.out.later b1)
  replace HB := Lib.hid (below2Z HB.out b1)
  clear b1
  obtain ⟨c0, c1, c2⟩ := threeO C.out
  obtain ⟨d0, d1⟩ := twoO D.out
  go_wp2_with fail
  refine (rdo_any V.out HS.out (by omega) p q (by omega) (by omega) k hk HD.out).mono ?_
  rintro e w2 ⟨x2, rfl, hx2, b2⟩
  replace V := Lib.hid (V.out.later b2)
  replace C := Lib.hid (C.out.later b2)
  replace D := Lib.hid (D.out.later b2)
  replace HB := Lib.hid (below2Z HB.out b2)
  have X2 := Lib.hid (hx2)
  clear hx2 c0 c1 c2 d0 d1
  obtain ⟨ax, kx, rfl, -⟩ := X2.out.open'
  clear b2
  obtain ⟨c0, c1, c2⟩ := threeO C.out
  obtain ⟨d0, d1⟩ := twoO D.out
  go_wp2_with fail
  refine (live8 _).mono ?_
  rintro e w3 ⟨rfl, b3⟩
  replace HB := Lib.hid (below2Z HB.out b3)
  clear b3
  go_wp2_with fail
  go_ret
  exact ⟨rfl, HB.out⟩

set_option maxHeartbeats 3200000 in
set_option maxRecDepth 100000 in
theorem roth_9 {w : World} {v : Value} {l : List Ent} (hv : Ents w v l) (k : Int) (u o p q : List UInt8) (hk : (Lit.int .i64 k).wf = true) (hw : fewR l = true) (hm8 : roMayD l = true) (h1 : u.length ≤ 40) (h2 : o.length ≤ 40) (h3 : p.length ≤ 40) (h4 : q.length ≤ 40) {m : List Ent} (hd : roDo l k u o = (m, 0)) (e1 : q = u) (e2 : p = o) (hpq : ¬ p = q) :
    Calls Try.prog 6 #[v, .agg #[.int .i64 k, .string ⟨u.toArray⟩, .string ⟨o.toArray⟩], .agg #[.string ⟨p.toArray⟩, .string ⟨q.toArray⟩]] w fun e w' => e = .returned (.bool true) ∧ Below w.heap.size w w' := by
  subst e1
  subst e2
  have b0 := below2Z (bl_newZ w (.cells #[.int .i64 k, .string ⟨q.toArray⟩, .string ⟨p.toArray⟩] 33)) (bl_newZ (w.alloc (.cells #[.int .i64 k, .string ⟨q.toArray⟩, .string ⟨p.toArray⟩] 33)) (.cells #[.string ⟨p.toArray⟩, .string ⟨q.toArray⟩] 43))
  have HB := Lib.hid b0
  have C := Lib.hid ((cellsAt_made (w := w) (cs := #[.int .i64 k, .string ⟨q.toArray⟩, .string ⟨p.toArray⟩]) (vs := rmovVals ⟨k, q, p⟩) rfl 33 rfl).later (bl_newZ (w.alloc (.cells #[.int .i64 k, .string ⟨q.toArray⟩, .string ⟨p.toArray⟩] 33)) (.cells #[.string ⟨p.toArray⟩, .string ⟨q.toArray⟩] 43)))
  have D := Lib.hid (cellsAt_made (w := w.alloc (.cells #[.int .i64 k, .string ⟨q.toArray⟩, .string ⟨p.toArray⟩] 33)) (cs := #[.string ⟨p.toArray⟩, .string ⟨q.toArray⟩]) (vs := poVals p q) rfl 43 (B := w.heap.size + 1) (by simp))
  have V := Lib.hid (hv.later b0)
  have HF := Lib.hid (few8_any V.out (Lib.hid hw))
  have HL := (fewR_get hw).1
  have HS := Lib.hid (fewR_short hw)
  obtain ⟨ao, cap, rfl, hm⟩ := hv.open'
  clear b0 hv
  obtain ⟨c0, c1, c2⟩ := threeO C.out
  obtain ⟨d0, d1⟩ := twoO D.out
  have HM := Lib.hid hm8
  have HD := Lib.hid hd
  have tu : decide ((40 : Int) < (q.length : Int)) = false := by rw [decide_eq_false_iff_not]; omega
  have to : decide ((40 : Int) < (p.length : Int)) = false := by rw [decide_eq_false_iff_not]; omega
  have tp : decide ((40 : Int) < (p.length : Int)) = false := by rw [decide_eq_false_iff_not]; omega
  have tq : decide ((40 : Int) < (q.length : Int)) = false := by rw [decide_eq_false_iff_not]; omega
  have t9 : (((0 : Nat) : Int) != 0) = false := by decide
  have s0 : (p == q) = false := sneO hpq
  go_enter Try.func6, Try.ntmps6
  go_wp2_with fail
  refine HF.out.mono ?_
  rintro e w0 ⟨rfl, rfl⟩
  clear c0 c1 c2 d0 d1
  go_wp2_with fail
  refine (rmay8_any V.out HS.out (by omega) HM).mono ?_
  rintro e w1 ⟨rfl, b1⟩
  replace V := Lib.hid (V.out.later b1)
  replace C := Lib.hid (C.out.later b1)
  replace D := Lib.hid (D.out.later b1)
  replace HB := Lib.hid (below2Z HB.out b1)
  clear b1
  obtain ⟨c0, c1, c2⟩ := threeO C.out
  obtain ⟨d0, d1⟩ := twoO D.out
  go_wp2_with fail
  refine (rdo_any V.out HS.out (by omega) q p (by omega) (by omega) k hk HD.out).mono ?_
  rintro e w2 ⟨x2, rfl, hx2, b2⟩
  replace V := Lib.hid (V.out.later b2)
  replace C := Lib.hid (C.out.later b2)
  replace D := Lib.hid (D.out.later b2)
  replace HB := Lib.hid (below2Z HB.out b2)
  have X2 := Lib.hid (hx2)
  clear hx2 c0 c1 c2 d0 d1
  obtain ⟨ax, kx, rfl, -⟩ := X2.out.open'
  clear b2
  obtain ⟨c0, c1, c2⟩ := threeO C.out
  obtain ⟨d0, d1⟩ := twoO D.out
  go_wp2_with fail
  refine (live8 _).mono ?_
  rintro e w3 ⟨rfl, b3⟩
  replace HB := Lib.hid (below2Z HB.out b3)
  clear b3
  go_wp2_with fail
  go_ret
  exact ⟨rfl, HB.out⟩

set_option maxHeartbeats 3200000 in
set_option maxRecDepth 100000 in
theorem roth_10a {w : World} {v : Value} {l : List Ent} (hv : Ents w v l) (k : Int) (u o p q : List UInt8) (hk : (Lit.int .i64 k).wf = true) (hw : fewR l = true) (hm8 : roMayD l = true) (h1 : u.length ≤ 40) (h2 : o.length ≤ 40) (h3 : p.length ≤ 40) (h4 : q.length ≤ 40) {m : List Ent} (hd : roDo l k u o = (m, 0)) (hn1 : ¬ (p = u ∧ q = o)) (hn2 : ¬ (p = o ∧ q = u)) (e1 : p = u) (e2 : ¬ q = o) (e3 : q = u) :
    Calls Try.prog 6 #[v, .agg #[.int .i64 k, .string ⟨u.toArray⟩, .string ⟨o.toArray⟩], .agg #[.string ⟨p.toArray⟩, .string ⟨q.toArray⟩]] w fun e w' => e = .returned (.bool true) ∧ Below w.heap.size w w' := by
  subst e1
  subst e3
  have b0 := below2Z (bl_newZ w (.cells #[.int .i64 k, .string ⟨q.toArray⟩, .string ⟨o.toArray⟩] 33)) (bl_newZ (w.alloc (.cells #[.int .i64 k, .string ⟨q.toArray⟩, .string ⟨o.toArray⟩] 33)) (.cells #[.string ⟨q.toArray⟩, .string ⟨q.toArray⟩] 43))
  have HB := Lib.hid b0
  have C := Lib.hid ((cellsAt_made (w := w) (cs := #[.int .i64 k, .string ⟨q.toArray⟩, .string ⟨o.toArray⟩]) (vs := rmovVals ⟨k, q, o⟩) rfl 33 rfl).later (bl_newZ (w.alloc (.cells #[.int .i64 k, .string ⟨q.toArray⟩, .string ⟨o.toArray⟩] 33)) (.cells #[.string ⟨q.toArray⟩, .string ⟨q.toArray⟩] 43)))
  have D := Lib.hid (cellsAt_made (w := w.alloc (.cells #[.int .i64 k, .string ⟨q.toArray⟩, .string ⟨o.toArray⟩] 33)) (cs := #[.string ⟨q.toArray⟩, .string ⟨q.toArray⟩]) (vs := poVals q q) rfl 43 (B := w.heap.size + 1) (by simp))
  have V := Lib.hid (hv.later b0)
  have HF := Lib.hid (few8_any V.out (Lib.hid hw))
  have HL := (fewR_get hw).1
  have HS := Lib.hid (fewR_short hw)
  obtain ⟨ao, cap, rfl, hm⟩ := hv.open'
  clear b0 hv
  obtain ⟨c0, c1, c2⟩ := threeO C.out
  obtain ⟨d0, d1⟩ := twoO D.out
  have HM := Lib.hid hm8
  have HD := Lib.hid hd
  have tu : decide ((40 : Int) < (q.length : Int)) = false := by rw [decide_eq_false_iff_not]; omega
  have to : decide ((40 : Int) < (o.length : Int)) = false := by rw [decide_eq_false_iff_not]; omega
  have tp : decide ((40 : Int) < (q.length : Int)) = false := by rw [decide_eq_false_iff_not]; omega
  have tq : decide ((40 : Int) < (q.length : Int)) = false := by rw [decide_eq_false_iff_not]; omega
  have t9 : (((0 : Nat) : Int) != 0) = false := by decide
  obtain ⟨hg1, hg2⟩ := roDo_get hd hn1 hn2
  obtain ⟨⟨i1, i2, i3, i4, i5⟩, hi⟩ : ∃ r, roGet l q q = r := ⟨_, rfl⟩
  obtain ⟨r, hr⟩ : ∃ r, roSees l q q = r := ⟨_, rfl⟩
  rw [hi] at hg1
  rw [hr] at hg2
  have G1 := Lib.hid hg1
  have G2 := Lib.hid hi
  have S1 := Lib.hid hg2
  have S2 := Lib.hid hr
  have HRR := Lib.hid (roDo_rises hd)
  clear hg1 hi hg2 hr hd hn1 hn2
  go_enter Try.func6, Try.ntmps6
  go_wp2_with fail
  refine HF.out.mono ?_
  rintro e w0 ⟨rfl, rfl⟩
  clear c0 c1 c2 d0 d1
  go_wp2_with fail
  refine (rmay8_any V.out HS.out (by omega) HM).mono ?_
  rintro e w1 ⟨rfl, b1⟩
  replace V := Lib.hid (V.out.later b1)
  replace C := Lib.hid (C.out.later b1)
  replace D := Lib.hid (D.out.later b1)
  replace HB := Lib.hid (below2Z HB.out b1)
  clear b1
  obtain ⟨c0, c1, c2⟩ := threeO C.out
  obtain ⟨d0, d1⟩ := twoO D.out
  go_wp2_with fail
  refine (rdo_any V.out HS.out (by omega) q o (by omega) (by omega) k hk HD.out).mono ?_
  rintro e w2 ⟨x2, rfl, hx2, b2⟩
  replace V := Lib.hid (V.out.later b2)
  replace C := Lib.hid (C.out.later b2)
  replace D := Lib.hid (D.out.later b2)
  replace HB := Lib.hid (below2Z HB.out b2)
  have X2 := Lib.hid (hx2)
  clear hx2 c0 c1 c2 d0 d1
  obtain ⟨ax, kx, rfl, -⟩ := X2.out.open'
  clear b2
  have s1 : (q == o) = false := sneO e2
  obtain ⟨c0, c1, c2⟩ := threeO C.out
  obtain ⟨d0, d1⟩ := twoO D.out
  go_wp2_with fail
  have F1 : Hid (∀ w', Below w2.heap.size w2 w' → _) := Lib.hid (fun w' hw' => get8_eq (X2.out.later hw') q q G1)
  have F2 : Hid (∀ w', Below w2.heap.size w2 w' → _) := Lib.hid (fun w' hw' => get8_eq (V.out.later hw') q q G2)
  have F3 : Hid (∀ w', Below w2.heap.size w2 w' → _) := Lib.hid (fun w' hw' => sees8_any (X2.out.later hw') q q)
  have F4 : Hid (∀ w', Below w2.heap.size w2 w' → _) := Lib.hid (fun w' hw' => sees8_any (V.out.later hw') q q)
  rw [S1.out] at F3
  rw [S2.out] at F4
  have hne : ∀ w : World, (binOp .neq 26 (.agg #[.bool i1, .bool i2, .bool i3, .bool i4, .bool i5]) (.agg #[.bool i1, .bool i2, .bool i3, .bool i4, .bool i5])).run Try.prog w = .ok (.bool false) w := fun w => by rw [item_neq, itSame_self]; rfl
  have hrr : (r != r) = false := by simp
  clear c0 c1 c2 d0 d1
  obtain ⟨d0, d1⟩ := twoO D.out
  replace d0 := cell_regrown d0
  replace d1 := cell_regrown d1
  refine wp_region_quiet_below (by kernel_rfl) (by kernel_rfl) ?_
  repeat (go_big_quiet_step (first | with_reducible exact rgM F1.out _ _ | with_reducible exact rgM F2.out _ _ | with_reducible exact rgM F3.out _ _ | with_reducible exact rgM F4.out _ _))
  refine wpQuiet_nil ?_
  intro w9 hw9
  have b9 := regrownZ hw9
  replace V := Lib.hid (V.out.later b9)
  replace X2 := Lib.hid (X2.out.later b9)
  replace C := Lib.hid (C.out.later b9)
  replace D := Lib.hid (D.out.later b9)
  replace HB := Lib.hid (below2Z HB.out b9)
  clear b9 hw9 d0 d1 F1 F2 F3 F4
  obtain ⟨c0, c1, c2⟩ := threeO C.out
  obtain ⟨d0, d1⟩ := twoO D.out
  go_wp2_with fail
  refine (live8 _).mono ?_
  rintro e w3 ⟨rfl, b3⟩
  replace HB := Lib.hid (below2Z HB.out b3)
  clear b3
  go_wp2_with fail
  go_ret
  exact ⟨rfl, HB.out⟩

set_option maxHeartbeats 3200000 in
set_option maxRecDepth 100000 in
theorem roth_10b {w : World} {v : Value} {l : List Ent} (hv : Ents w v l) (k : Int) (u o p q : List UInt8) (hk : (Lit.int .i64 k).wf = true) (hw : fewR l = true) (hm8 : roMayD l = true) (h1 : u.length ≤ 40) (h2 : o.length ≤ 40) (h3 : p.length ≤ 40) (h4 : q.length ≤ 40) {m : List Ent} (hd : roDo l k u o = (m, 0)) (hn1 : ¬ (p = u ∧ q = o)) (hn2 : ¬ (p = o ∧ q = u)) (e1 : p = u) (e2 : ¬ q = o) (e3 : ¬ q = u) :
    Calls Try.prog 6 #[v, .agg #[.int .i64 k, .string ⟨u.toArray⟩, .string ⟨o.toArray⟩], .agg #[.string ⟨p.toArray⟩, .string ⟨q.toArray⟩]] w fun e w' => e = .returned (.bool true) ∧ Below w.heap.size w w' := by
  subst e1
  have b0 := below2Z (bl_newZ w (.cells #[.int .i64 k, .string ⟨p.toArray⟩, .string ⟨o.toArray⟩] 33)) (bl_newZ (w.alloc (.cells #[.int .i64 k, .string ⟨p.toArray⟩, .string ⟨o.toArray⟩] 33)) (.cells #[.string ⟨p.toArray⟩, .string ⟨q.toArray⟩] 43))
  have HB := Lib.hid b0
  have C := Lib.hid ((cellsAt_made (w := w) (cs := #[.int .i64 k, .string ⟨p.toArray⟩, .string ⟨o.toArray⟩]) (vs := rmovVals ⟨k, p, o⟩) rfl 33 rfl).later (bl_newZ (w.alloc (.cells #[.int .i64 k, .string ⟨p.toArray⟩, .string ⟨o.toArray⟩] 33)) (.cells #[.string ⟨p.toArray⟩, .string ⟨q.toArray⟩] 43)))
  have D := Lib.hid (cellsAt_made (w := w.alloc (.cells #[.int .i64 k, .string ⟨p.toArray⟩, .string ⟨o.toArray⟩] 33)) (cs := #[.string ⟨p.toArray⟩, .string ⟨q.toArray⟩]) (vs := poVals p q) rfl 43 (B := w.heap.size + 1) (by simp))
  have V := Lib.hid (hv.later b0)
  have HF := Lib.hid (few8_any V.out (Lib.hid hw))
  have HL := (fewR_get hw).1
  have HS := Lib.hid (fewR_short hw)
  obtain ⟨ao, cap, rfl, hm⟩ := hv.open'
  clear b0 hv
  obtain ⟨c0, c1, c2⟩ := threeO C.out
  obtain ⟨d0, d1⟩ := twoO D.out
  have HM := Lib.hid hm8
  have HD := Lib.hid hd
  have tu : decide ((40 : Int) < (p.length : Int)) = false := by rw [decide_eq_false_iff_not]; omega
  have to : decide ((40 : Int) < (o.length : Int)) = false := by rw [decide_eq_false_iff_not]; omega
  have tp : decide ((40 : Int) < (p.length : Int)) = false := by rw [decide_eq_false_iff_not]; omega
  have tq : decide ((40 : Int) < (q.length : Int)) = false := by rw [decide_eq_false_iff_not]; omega
  have t9 : (((0 : Nat) : Int) != 0) = false := by decide
  obtain ⟨hg1, hg2⟩ := roDo_get hd hn1 hn2
  obtain ⟨⟨i1, i2, i3, i4, i5⟩, hi⟩ : ∃ r, roGet l p q = r := ⟨_, rfl⟩
  obtain ⟨r, hr⟩ : ∃ r, roSees l p q = r := ⟨_, rfl⟩
  rw [hi] at hg1
  rw [hr] at hg2
  have G1 := Lib.hid hg1
  have G2 := Lib.hid hi
  have S1 := Lib.hid hg2
  have S2 := Lib.hid hr
  have HRR := Lib.hid (roDo_rises hd)
  clear hg1 hi hg2 hr hd hn1 hn2
  go_enter Try.func6, Try.ntmps6
  go_wp2_with fail
  refine HF.out.mono ?_
  rintro e w0 ⟨rfl, rfl⟩
  clear c0 c1 c2 d0 d1
  go_wp2_with fail
  refine (rmay8_any V.out HS.out (by omega) HM).mono ?_
  rintro e w1 ⟨rfl, b1⟩
  replace V := Lib.hid (V.out.later b1)
  replace C := Lib.hid (C.out.later b1)
  replace D := Lib.hid (D.out.later b1)
  replace HB := Lib.hid (below2Z HB.out b1)
  clear b1
  obtain ⟨c0, c1, c2⟩ := threeO C.out
  obtain ⟨d0, d1⟩ := twoO D.out
  go_wp2_with fail
  refine (rdo_any V.out HS.out (by omega) p o (by omega) (by omega) k hk HD.out).mono ?_
  rintro e w2 ⟨x2, rfl, hx2, b2⟩
  replace V := Lib.hid (V.out.later b2)
  replace C := Lib.hid (C.out.later b2)
  replace D := Lib.hid (D.out.later b2)
  replace HB := Lib.hid (below2Z HB.out b2)
  have X2 := Lib.hid (hx2)
  clear hx2 c0 c1 c2 d0 d1
  obtain ⟨ax, kx, rfl, -⟩ := X2.out.open'
  clear b2
  have s1 : (q == o) = false := sneO e2
  have s2 : (q == p) = false := sneO e3
  obtain ⟨c0, c1, c2⟩ := threeO C.out
  obtain ⟨d0, d1⟩ := twoO D.out
  go_wp2_with fail
  have F1 : Hid (∀ w', Below w2.heap.size w2 w' → _) := Lib.hid (fun w' hw' => get8_eq (X2.out.later hw') p q G1)
  have F2 : Hid (∀ w', Below w2.heap.size w2 w' → _) := Lib.hid (fun w' hw' => get8_eq (V.out.later hw') p q G2)
  have F3 : Hid (∀ w', Below w2.heap.size w2 w' → _) := Lib.hid (fun w' hw' => sees8_any (X2.out.later hw') p q)
  have F4 : Hid (∀ w', Below w2.heap.size w2 w' → _) := Lib.hid (fun w' hw' => sees8_any (V.out.later hw') p q)
  rw [S1.out] at F3
  rw [S2.out] at F4
  have hne : ∀ w : World, (binOp .neq 26 (.agg #[.bool i1, .bool i2, .bool i3, .bool i4, .bool i5]) (.agg #[.bool i1, .bool i2, .bool i3, .bool i4, .bool i5])).run Try.prog w = .ok (.bool false) w := fun w => by rw [item_neq, itSame_self]; rfl
  have hrr : (r != r) = false := by simp
  clear c0 c1 c2 d0 d1
  obtain ⟨d0, d1⟩ := twoO D.out
  replace d0 := cell_regrown d0
  replace d1 := cell_regrown d1
  refine wp_region_quiet_below (by kernel_rfl) (by kernel_rfl) ?_
  repeat (go_big_quiet_step (first | with_reducible exact rgM F1.out _ _ | with_reducible exact rgM F2.out _ _ | with_reducible exact rgM F3.out _ _ | with_reducible exact rgM F4.out _ _))
  refine wpQuiet_nil ?_
  intro w9 hw9
  have b9 := regrownZ hw9
  replace V := Lib.hid (V.out.later b9)
  replace X2 := Lib.hid (X2.out.later b9)
  replace C := Lib.hid (C.out.later b9)
  replace D := Lib.hid (D.out.later b9)
  replace HB := Lib.hid (below2Z HB.out b9)
  clear b9 hw9 d0 d1 F1 F2 F3 F4
  obtain ⟨c0, c1, c2⟩ := threeO C.out
  obtain ⟨d0, d1⟩ := twoO D.out
  go_wp2_with fail
  refine (live8 _).mono ?_
  rintro e w3 ⟨rfl, b3⟩
  replace HB := Lib.hid (below2Z HB.out b3)
  clear b3
  go_wp2_with fail
  go_ret
  exact ⟨rfl, HB.out⟩

set_option maxHeartbeats 3200000 in
set_option maxRecDepth 100000 in
theorem roth_11 {w : World} {v : Value} {l : List Ent} (hv : Ents w v l) (k : Int) (u o p q : List UInt8) (hk : (Lit.int .i64 k).wf = true) (hw : fewR l = true) (hm8 : roMayD l = true) (h1 : u.length ≤ 40) (h2 : o.length ≤ 40) (h3 : p.length ≤ 40) (h4 : q.length ≤ 40) {m : List Ent} (hd : roDo l k u o = (m, 0)) (hn1 : ¬ (p = u ∧ q = o)) (hn2 : ¬ (p = o ∧ q = u)) (e1 : ¬ p = u) (e2 : p = o) (e3 : ¬ q = u) :
    Calls Try.prog 6 #[v, .agg #[.int .i64 k, .string ⟨u.toArray⟩, .string ⟨o.toArray⟩], .agg #[.string ⟨p.toArray⟩, .string ⟨q.toArray⟩]] w fun e w' => e = .returned (.bool true) ∧ Below w.heap.size w w' := by
  subst e2
  have b0 := below2Z (bl_newZ w (.cells #[.int .i64 k, .string ⟨u.toArray⟩, .string ⟨p.toArray⟩] 33)) (bl_newZ (w.alloc (.cells #[.int .i64 k, .string ⟨u.toArray⟩, .string ⟨p.toArray⟩] 33)) (.cells #[.string ⟨p.toArray⟩, .string ⟨q.toArray⟩] 43))
  have HB := Lib.hid b0
  have C := Lib.hid ((cellsAt_made (w := w) (cs := #[.int .i64 k, .string ⟨u.toArray⟩, .string ⟨p.toArray⟩]) (vs := rmovVals ⟨k, u, p⟩) rfl 33 rfl).later (bl_newZ (w.alloc (.cells #[.int .i64 k, .string ⟨u.toArray⟩, .string ⟨p.toArray⟩] 33)) (.cells #[.string ⟨p.toArray⟩, .string ⟨q.toArray⟩] 43)))
  have D := Lib.hid (cellsAt_made (w := w.alloc (.cells #[.int .i64 k, .string ⟨u.toArray⟩, .string ⟨p.toArray⟩] 33)) (cs := #[.string ⟨p.toArray⟩, .string ⟨q.toArray⟩]) (vs := poVals p q) rfl 43 (B := w.heap.size + 1) (by simp))
  have V := Lib.hid (hv.later b0)
  have HF := Lib.hid (few8_any V.out (Lib.hid hw))
  have HL := (fewR_get hw).1
  have HS := Lib.hid (fewR_short hw)
  obtain ⟨ao, cap, rfl, hm⟩ := hv.open'
  clear b0 hv
  obtain ⟨c0, c1, c2⟩ := threeO C.out
  obtain ⟨d0, d1⟩ := twoO D.out
  have HM := Lib.hid hm8
  have HD := Lib.hid hd
  have tu : decide ((40 : Int) < (u.length : Int)) = false := by rw [decide_eq_false_iff_not]; omega
  have to : decide ((40 : Int) < (p.length : Int)) = false := by rw [decide_eq_false_iff_not]; omega
  have tp : decide ((40 : Int) < (p.length : Int)) = false := by rw [decide_eq_false_iff_not]; omega
  have tq : decide ((40 : Int) < (q.length : Int)) = false := by rw [decide_eq_false_iff_not]; omega
  have t9 : (((0 : Nat) : Int) != 0) = false := by decide
  obtain ⟨hg1, hg2⟩ := roDo_get hd hn1 hn2
  obtain ⟨⟨i1, i2, i3, i4, i5⟩, hi⟩ : ∃ r, roGet l p q = r := ⟨_, rfl⟩
  obtain ⟨r, hr⟩ : ∃ r, roSees l p q = r := ⟨_, rfl⟩
  rw [hi] at hg1
  rw [hr] at hg2
  have G1 := Lib.hid hg1
  have G2 := Lib.hid hi
  have S1 := Lib.hid hg2
  have S2 := Lib.hid hr
  have HRR := Lib.hid (roDo_rises hd)
  clear hg1 hi hg2 hr hd hn1 hn2
  go_enter Try.func6, Try.ntmps6
  go_wp2_with fail
  refine HF.out.mono ?_
  rintro e w0 ⟨rfl, rfl⟩
  clear c0 c1 c2 d0 d1
  go_wp2_with fail
  refine (rmay8_any V.out HS.out (by omega) HM).mono ?_
  rintro e w1 ⟨rfl, b1⟩
  replace V := Lib.hid (V.out.later b1)
  replace C := Lib.hid (C.out.later b1)
  replace D := Lib.hid (D.out.later b1)
  replace HB := Lib.hid (below2Z HB.out b1)
  clear b1
  obtain ⟨c0, c1, c2⟩ := threeO C.out
  obtain ⟨d0, d1⟩ := twoO D.out
  go_wp2_with fail
  refine (rdo_any V.out HS.out (by omega) u p (by omega) (by omega) k hk HD.out).mono ?_
  rintro e w2 ⟨x2, rfl, hx2, b2⟩
  replace V := Lib.hid (V.out.later b2)
  replace C := Lib.hid (C.out.later b2)
  replace D := Lib.hid (D.out.later b2)
  replace HB := Lib.hid (below2Z HB.out b2)
  have X2 := Lib.hid (hx2)
  clear hx2 c0 c1 c2 d0 d1
  obtain ⟨ax, kx, rfl, -⟩ := X2.out.open'
  clear b2
  have s1 : (p == u) = false := sneO e1
  have s2 : (q == u) = false := sneO e3
  obtain ⟨c0, c1, c2⟩ := threeO C.out
  obtain ⟨d0, d1⟩ := twoO D.out
  go_wp2_with fail
  have F1 : Hid (∀ w', Below w2.heap.size w2 w' → _) := Lib.hid (fun w' hw' => get8_eq (X2.out.later hw') p q G1)
  have F2 : Hid (∀ w', Below w2.heap.size w2 w' → _) := Lib.hid (fun w' hw' => get8_eq (V.out.later hw') p q G2)
  have F3 : Hid (∀ w', Below w2.heap.size w2 w' → _) := Lib.hid (fun w' hw' => sees8_any (X2.out.later hw') p q)
  have F4 : Hid (∀ w', Below w2.heap.size w2 w' → _) := Lib.hid (fun w' hw' => sees8_any (V.out.later hw') p q)
  rw [S1.out] at F3
  rw [S2.out] at F4
  have hne : ∀ w : World, (binOp .neq 26 (.agg #[.bool i1, .bool i2, .bool i3, .bool i4, .bool i5]) (.agg #[.bool i1, .bool i2, .bool i3, .bool i4, .bool i5])).run Try.prog w = .ok (.bool false) w := fun w => by rw [item_neq, itSame_self]; rfl
  have hrr : (r != r) = false := by simp
  clear c0 c1 c2 d0 d1
  obtain ⟨d0, d1⟩ := twoO D.out
  replace d0 := cell_regrown d0
  replace d1 := cell_regrown d1
  refine wp_region_quiet_below (by kernel_rfl) (by kernel_rfl) ?_
  repeat (go_big_quiet_step (first | with_reducible exact rgM F1.out _ _ | with_reducible exact rgM F2.out _ _ | with_reducible exact rgM F3.out _ _ | with_reducible exact rgM F4.out _ _))
  refine wpQuiet_nil ?_
  intro w9 hw9
  have b9 := regrownZ hw9
  replace V := Lib.hid (V.out.later b9)
  replace X2 := Lib.hid (X2.out.later b9)
  replace C := Lib.hid (C.out.later b9)
  replace D := Lib.hid (D.out.later b9)
  replace HB := Lib.hid (below2Z HB.out b9)
  clear b9 hw9 d0 d1 F1 F2 F3 F4
  obtain ⟨c0, c1, c2⟩ := threeO C.out
  obtain ⟨d0, d1⟩ := twoO D.out
  go_wp2_with fail
  refine (live8 _).mono ?_
  rintro e w3 ⟨rfl, b3⟩
  replace HB := Lib.hid (below2Z HB.out b3)
  clear b3
  go_wp2_with fail
  go_ret
  exact ⟨rfl, HB.out⟩

set_option maxHeartbeats 3200000 in
set_option maxRecDepth 100000 in
theorem roth_12a {w : World} {v : Value} {l : List Ent} (hv : Ents w v l) (k : Int) (u o p q : List UInt8) (hk : (Lit.int .i64 k).wf = true) (hw : fewR l = true) (hm8 : roMayD l = true) (h1 : u.length ≤ 40) (h2 : o.length ≤ 40) (h3 : p.length ≤ 40) (h4 : q.length ≤ 40) {m : List Ent} (hd : roDo l k u o = (m, 0)) (hn1 : ¬ (p = u ∧ q = o)) (hn2 : ¬ (p = o ∧ q = u)) (f1 : ¬ p = u) (f2 : ¬ p = o) (e3 : q = u) :
    Calls Try.prog 6 #[v, .agg #[.int .i64 k, .string ⟨u.toArray⟩, .string ⟨o.toArray⟩], .agg #[.string ⟨p.toArray⟩, .string ⟨q.toArray⟩]] w fun e w' => e = .returned (.bool true) ∧ Below w.heap.size w w' := by
  subst e3
  have b0 := below2Z (bl_newZ w (.cells #[.int .i64 k, .string ⟨q.toArray⟩, .string ⟨o.toArray⟩] 33)) (bl_newZ (w.alloc (.cells #[.int .i64 k, .string ⟨q.toArray⟩, .string ⟨o.toArray⟩] 33)) (.cells #[.string ⟨p.toArray⟩, .string ⟨q.toArray⟩] 43))
  have HB := Lib.hid b0
  have C := Lib.hid ((cellsAt_made (w := w) (cs := #[.int .i64 k, .string ⟨q.toArray⟩, .string ⟨o.toArray⟩]) (vs := rmovVals ⟨k, q, o⟩) rfl 33 rfl).later (bl_newZ (w.alloc (.cells #[.int .i64 k, .string ⟨q.toArray⟩, .string ⟨o.toArray⟩] 33)) (.cells #[.string ⟨p.toArray⟩, .string ⟨q.toArray⟩] 43)))
  have D := Lib.hid (cellsAt_made (w := w.alloc (.cells #[.int .i64 k, .string ⟨q.toArray⟩, .string ⟨o.toArray⟩] 33)) (cs := #[.string ⟨p.toArray⟩, .string ⟨q.toArray⟩]) (vs := poVals p q) rfl 43 (B := w.heap.size + 1) (by simp))
  have V := Lib.hid (hv.later b0)
  have HF := Lib.hid (few8_any V.out (Lib.hid hw))
  have HL := (fewR_get hw).1
  have HS := Lib.hid (fewR_short hw)
  obtain ⟨ao, cap, rfl, hm⟩ := hv.open'
  clear b0 hv
  obtain ⟨c0, c1, c2⟩ := threeO C.out
  obtain ⟨d0, d1⟩ := twoO D.out
  have HM := Lib.hid hm8
  have HD := Lib.hid hd
  have tu : decide ((40 : Int) < (q.length : Int)) = false := by rw [decide_eq_false_iff_not]; omega
  have to : decide ((40 : Int) < (o.length : Int)) = false := by rw [decide_eq_false_iff_not]; omega
  have tp : decide ((40 : Int) < (p.length : Int)) = false := by rw [decide_eq_false_iff_not]; omega
  have tq : decide ((40 : Int) < (q.length : Int)) = false := by rw [decide_eq_false_iff_not]; omega
  have t9 : (((0 : Nat) : Int) != 0) = false := by decide
  obtain ⟨hg1, hg2⟩ := roDo_get hd hn1 hn2
  obtain ⟨⟨i1, i2, i3, i4, i5⟩, hi⟩ : ∃ r, roGet l p q = r := ⟨_, rfl⟩
  obtain ⟨r, hr⟩ : ∃ r, roSees l p q = r := ⟨_, rfl⟩
  rw [hi] at hg1
  rw [hr] at hg2
  have G1 := Lib.hid hg1
  have G2 := Lib.hid hi
  have S1 := Lib.hid hg2
  have S2 := Lib.hid hr
  have HRR := Lib.hid (roDo_rises hd)
  have OF := Lib.hid (roDo_of hd f1 f2)
  have WA := Lib.hid (roDo_wat hd f1 f2)
  have ML : Hid (m.length ≤ 4294967) := Lib.hid (roDo_len hd (by omega))
  clear hg1 hi hg2 hr hd hn1 hn2
  go_enter Try.func6, Try.ntmps6
  go_wp2_with fail
  refine HF.out.mono ?_
  rintro e w0 ⟨rfl, rfl⟩
  clear c0 c1 c2 d0 d1
  go_wp2_with fail
  refine (rmay8_any V.out HS.out (by omega) HM).mono ?_
  rintro e w1 ⟨rfl, b1⟩
  replace V := Lib.hid (V.out.later b1)
  replace C := Lib.hid (C.out.later b1)
  replace D := Lib.hid (D.out.later b1)
  replace HB := Lib.hid (below2Z HB.out b1)
  clear b1
  obtain ⟨c0, c1, c2⟩ := threeO C.out
  obtain ⟨d0, d1⟩ := twoO D.out
  go_wp2_with fail
  refine (rdo_any V.out HS.out (by omega) q o (by omega) (by omega) k hk HD.out).mono ?_
  rintro e w2 ⟨x2, rfl, hx2, b2⟩
  replace V := Lib.hid (V.out.later b2)
  replace C := Lib.hid (C.out.later b2)
  replace D := Lib.hid (D.out.later b2)
  replace HB := Lib.hid (below2Z HB.out b2)
  have X2 := Lib.hid (hx2)
  clear hx2 c0 c1 c2 d0 d1
  obtain ⟨ax, kx, rfl, -⟩ := X2.out.open'
  clear b2
  have s1 : (p == q) = false := sneO f1
  have s2 : (p == o) = false := sneO f2
  obtain ⟨c0, c1, c2⟩ := threeO C.out
  obtain ⟨d0, d1⟩ := twoO D.out
  go_wp2_with fail
  have F1 : Hid (∀ w', Below w2.heap.size w2 w' → _) := Lib.hid (fun w' hw' => get8_eq (X2.out.later hw') p q G1)
  have F2 : Hid (∀ w', Below w2.heap.size w2 w' → _) := Lib.hid (fun w' hw' => get8_eq (V.out.later hw') p q G2)
  have F3 : Hid (∀ w', Below w2.heap.size w2 w' → _) := Lib.hid (fun w' hw' => sees8_any (X2.out.later hw') p q)
  have F4 : Hid (∀ w', Below w2.heap.size w2 w' → _) := Lib.hid (fun w' hw' => sees8_any (V.out.later hw') p q)
  rw [S1.out] at F3
  rw [S2.out] at F4
  have hne : ∀ w : World, (binOp .neq 26 (.agg #[.bool i1, .bool i2, .bool i3, .bool i4, .bool i5]) (.agg #[.bool i1, .bool i2, .bool i3, .bool i4, .bool i5])).run Try.prog w = .ok (.bool false) w := fun w => by rw [item_neq, itSame_self]; rfl
  have hrr : (r != r) = false := by simp
  clear c0 c1 c2 d0 d1
  obtain ⟨d0, d1⟩ := twoO D.out
  replace d0 := cell_regrown d0
  replace d1 := cell_regrown d1
  refine wp_region_quiet_below (by kernel_rfl) (by kernel_rfl) ?_
  repeat (go_big_quiet_step (first | with_reducible exact rgM F1.out _ _ | with_reducible exact rgM F2.out _ _ | with_reducible exact rgM F3.out _ _ | with_reducible exact rgM F4.out _ _))
  refine wpQuiet_nil ?_
  intro w9 hw9
  have b9 := regrownZ hw9
  replace V := Lib.hid (V.out.later b9)
  replace X2 := Lib.hid (X2.out.later b9)
  replace C := Lib.hid (C.out.later b9)
  replace D := Lib.hid (D.out.later b9)
  replace HB := Lib.hid (below2Z HB.out b9)
  clear b9 hw9 d0 d1 F1 F2 F3 F4
  obtain ⟨c0, c1, c2⟩ := threeO C.out
  obtain ⟨d0, d1⟩ := twoO D.out
  go_wp2_with fail
  clear c0 c1 c2 d0 d1
  have hd0 : ∀ W, CellsAt W (w.heap.size + 1) 0 (poVals p q) → W.cell? ⟨w.heap.size + 1, 0, none⟩ = some (.string ⟨p.toArray⟩) := fun W h => (twoO h).1
  refine wp_region_held_drew (S := (fun W => CellsAt W (w.heap.size + 1) 0 (poVals p q))) (by kernel_rfl) ?_ (fun hHeld => ?_)
  · exact D.out.later (Below.refl _ _).drew
  refine wpAnyH_take (i := 0) (oi := { dst := some 129, op := Op.move (Operand.tmp 7), type := 22, pos := "law.go:107", after := #[], guard := none }) (v := ?_) rfl (by as_aux_lemma => kernel_rfl) (by as_aux_lemma => kernel_rfl) (by as_aux_lemma => kernel_rfl) (fun _ _ _ h => h) (Or.inl ⟨by rfl, ?_⟩) (by assumption) ?_
  rotate_left
  · intro w' hSw
    try dsimp only at hSw
    go_simp
    try with_reducible rfl
  try simp only [Act.put, List.setIfInBounds_toArray, List.set_cons_zero, List.set_cons_succ]
  refine wpAnyH_take (i := 1) (oi := { dst := some 130, op := Op.indexAddr 43 (Operand.tmp 5) (Operand.const (Value.int IntKind.i64 0)), type := 0, pos := "law.go:107", after := #[], guard := none }) (v := ?_) rfl (by as_aux_lemma => kernel_rfl) (by as_aux_lemma => kernel_rfl) (by as_aux_lemma => kernel_rfl) (fun _ _ _ h => h) (Or.inl ⟨by rfl, ?_⟩) (by assumption) ?_
  rotate_left
  · intro w' hSw
    try dsimp only at hSw
    go_simp
    try with_reducible rfl
  try simp only [Act.put, List.setIfInBounds_toArray, List.set_cons_zero, List.set_cons_succ]
  refine wpAnyH_take (i := 2) (oi := { dst := some 131, op := Op.load 9 (Operand.tmp 130), type := 9, pos := "law.go:107", after := #[{ on := 1, ground := Ground.data }], guard := none }) (v := ?_) rfl (by as_aux_lemma => kernel_rfl) (by as_aux_lemma => kernel_rfl) (by as_aux_lemma => kernel_rfl) (fun _ _ _ h => h) (Or.inl ⟨by rfl, ?_⟩) (by assumption) ?_
  rotate_left
  · intro w' hSw
    try dsimp only at hSw
    go_simp
    try with_reducible rfl
  try simp only [Act.put, List.setIfInBounds_toArray, List.set_cons_zero, List.set_cons_succ]
  refine wpAnyH_take (i := 4) (oi := { dst := some 133, op := Op.move (Operand.tmp 0), type := 22, pos := "law.go:107", after := #[], guard := none }) (v := ?_) rfl (by as_aux_lemma => kernel_rfl) (by as_aux_lemma => kernel_rfl) (by as_aux_lemma => kernel_rfl) (fun _ _ _ h => h) (Or.inl ⟨by rfl, ?_⟩) (by assumption) ?_
  rotate_left
  · intro w' hSw
    try dsimp only at hSw
    go_simp
    try with_reducible rfl
  try simp only [Act.put, List.setIfInBounds_toArray, List.set_cons_zero, List.set_cons_succ]
  refine wpAnyH_take (i := 5) (oi := { dst := some 134, op := Op.indexAddr 43 (Operand.tmp 5) (Operand.const (Value.int IntKind.i64 0)), type := 0, pos := "law.go:107", after := #[], guard := none }) (v := ?_) rfl (by as_aux_lemma => kernel_rfl) (by as_aux_lemma => kernel_rfl) (by as_aux_lemma => kernel_rfl) (fun _ _ _ h => h) (Or.inl ⟨by rfl, ?_⟩) (by assumption) ?_
  rotate_left
  · intro w' hSw
    try dsimp only at hSw
    go_simp
    try with_reducible rfl
  try simp only [Act.put, List.setIfInBounds_toArray, List.set_cons_zero, List.set_cons_succ]
  refine wpAnyH_take (i := 6) (oi := { dst := some 135, op := Op.load 9 (Operand.tmp 134), type := 9, pos := "law.go:107", after := #[{ on := 5, ground := Ground.data }], guard := none }) (v := ?_) rfl (by as_aux_lemma => kernel_rfl) (by as_aux_lemma => kernel_rfl) (by as_aux_lemma => kernel_rfl) (fun _ _ _ h => h) (Or.inl ⟨by rfl, ?_⟩) (by assumption) ?_
  rotate_left
  · intro w' hSw
    try dsimp only at hSw
    go_simp
    try with_reducible rfl
  try simp only [Act.put, List.setIfInBounds_toArray, List.set_cons_zero, List.set_cons_succ]
  refine wpAnyH_ready (rs := [3]) (by as_aux_lemma => kernel_rfl) (by simp) ?_
  refine AllReadyH.cons (o := { dst := some 132, op := Op.call { callee := Callee.value (Operand.func 22), args := #[Operand.tmp 129, Operand.tmp 131], argTypes := #[22, 9] }, type := 29, pos := "law.go:107", after := #[{ on := 0, ground := Ground.data }, { on := 2, ground := Ground.data }], guard := none }) rfl (fun Kx hK => ?_) AllReadyH.nil
  go_simp
  refine (of_any (X2.out.later (Below.refl _ _).drew) ML.out p).mono ?_
  rintro e y1 ⟨z1, rfl, hz1, b1⟩
  rw [OF.out] at hz1
  have K1 := Lib.hid (below2Z (Below.refl _ _).drew b1)
  have Z1 := Lib.hid hz1.texts
  obtain ⟨za1, zk1, rfl, -⟩ := Z1.out
  have D1 := Lib.hid (D.out.later K1.out)
  clear hz1 b1
  go_wp2_with fail
  refine hK.out _ _ ?_ (fun hHeld2 => ?_)
  · exact D1.out
  clear hK Kx hHeld
  have hHeld := hHeld2
  clear hHeld2
  try simp only [Act.put, List.setIfInBounds_toArray, List.set_cons_zero, List.set_cons_succ]
  refine wpAnyH_ready (rs := [7]) (by as_aux_lemma => kernel_rfl) (by simp) ?_
  refine AllReadyH.cons (o := { dst := some 136, op := Op.call { callee := Callee.value (Operand.func 22), args := #[Operand.tmp 133, Operand.tmp 135], argTypes := #[22, 9] }, type := 29, pos := "law.go:107", after := #[{ on := 4, ground := Ground.data }, { on := 6, ground := Ground.data }, { on := 3, ground := Ground.chain }], guard := none }) rfl (fun Kx hK => ?_) AllReadyH.nil
  go_simp
  refine (of_any (V.out.later K1.out) (by omega) p).mono ?_
  rintro e y2 ⟨z2, rfl, hz2, b2⟩
  have K2 := Lib.hid (below2Z K1.out b2)
  replace Z1 := Lib.hid (Z1.out.later b2)
  have Z2 := Lib.hid hz2.texts
  obtain ⟨za2, zk2, rfl, -⟩ := Z2.out
  have D2 := Lib.hid (D.out.later K2.out)
  clear hz2 b2
  go_wp2_with fail
  refine hK.out _ _ ?_ (fun hHeld2 => ?_)
  · exact D2.out
  clear hK Kx hHeld
  have hHeld := hHeld2
  clear hHeld2
  try simp only [Act.put, List.setIfInBounds_toArray, List.set_cons_zero, List.set_cons_succ]
  refine wpAnyH_ready (rs := [8]) (by as_aux_lemma => kernel_rfl) (by simp) ?_
  refine AllReadyH.cons (o := { dst := some 137, op := Op.call { callee := Callee.value (Operand.func 21), args := #[Operand.tmp 132, Operand.tmp 136], argTypes := #[29, 29] }, type := 4, pos := "law.go:107", after := #[{ on := 3, ground := Ground.data }, { on := 7, ground := Ground.data }, { on := 7, ground := Ground.chain }], guard := none }) rfl (fun Kx hK => ?_) AllReadyH.nil
  go_simp
  refine (same_yes Z1.out Z2.out (Nat.le_trans (roOf_le _ _) (by omega))).mono ?_
  rintro e y3 ⟨rfl, b3⟩
  have K3 := Lib.hid (below2Z K2.out b3)
  have D3 := Lib.hid (D.out.later K3.out)
  clear b3 Z1 Z2
  go_wp2_with fail
  refine hK.out _ _ ?_ (fun hHeld2 => ?_)
  · exact D3.out
  clear hK Kx hHeld
  have hHeld := hHeld2
  clear hHeld2
  try simp only [Act.put, List.setIfInBounds_toArray, List.set_cons_zero, List.set_cons_succ]
  refine wpAnyH_take (i := 9) (oi := { dst := some 138, op := Op.move (Operand.tmp 137), type := 4, pos := "law.go:107", after := #[{ on := 8, ground := Ground.data }, { on := 8, ground := Ground.chain }], guard := none }) (v := ?_) rfl (by as_aux_lemma => kernel_rfl) (by as_aux_lemma => kernel_rfl) (by as_aux_lemma => kernel_rfl) (fun _ _ _ h => h) (Or.inl ⟨by rfl, ?_⟩) (by assumption) ?_
  rotate_left
  · intro w' hSw
    try dsimp only at hSw
    go_simp
    try with_reducible rfl
  try simp only [Act.put, List.setIfInBounds_toArray, List.set_cons_zero, List.set_cons_succ]
  refine wpAnyH_take (i := 10) (oi := { dst := some 139, op := Op.move (Operand.tmp 7), type := 22, pos := "law.go:107", after := #[{ on := 9, ground := Ground.guard }], guard := some (9, true) }) (v := ?_) rfl (by as_aux_lemma => kernel_rfl) (by as_aux_lemma => kernel_rfl) (by as_aux_lemma => kernel_rfl) (fun _ _ _ h => h) (Or.inl ⟨by rfl, ?_⟩) (by assumption) ?_
  rotate_left
  · intro w' hSw
    try dsimp only at hSw
    go_simp
    try with_reducible rfl
  try simp only [Act.put, List.setIfInBounds_toArray, List.set_cons_zero, List.set_cons_succ]
  refine wpAnyH_take (i := 11) (oi := { dst := some 140, op := Op.indexAddr 43 (Operand.tmp 5) (Operand.const (Value.int IntKind.i64 0)), type := 0, pos := "law.go:107", after := #[{ on := 9, ground := Ground.guard }], guard := some (9, true) }) (v := ?_) rfl (by as_aux_lemma => kernel_rfl) (by as_aux_lemma => kernel_rfl) (by as_aux_lemma => kernel_rfl) (fun _ _ _ h => h) (Or.inl ⟨by rfl, ?_⟩) (by assumption) ?_
  rotate_left
  · intro w' hSw
    try dsimp only at hSw
    go_simp
    try with_reducible rfl
  try simp only [Act.put, List.setIfInBounds_toArray, List.set_cons_zero, List.set_cons_succ]
  refine wpAnyH_take (i := 12) (oi := { dst := some 141, op := Op.load 9 (Operand.tmp 140), type := 9, pos := "law.go:107", after := #[{ on := 11, ground := Ground.data }, { on := 9, ground := Ground.guard }], guard := some (9, true) }) (v := ?_) rfl (by as_aux_lemma => kernel_rfl) (by as_aux_lemma => kernel_rfl) (by as_aux_lemma => kernel_rfl) (fun _ _ _ h => h) (Or.inl ⟨by rfl, ?_⟩) (by assumption) ?_
  rotate_left
  · intro w' hSw
    try dsimp only at hSw
    go_simp
    try with_reducible rfl
  try simp only [Act.put, List.setIfInBounds_toArray, List.set_cons_zero, List.set_cons_succ]
  refine wpAnyH_take (i := 14) (oi := { dst := some 143, op := Op.move (Operand.tmp 0), type := 22, pos := "law.go:107", after := #[{ on := 9, ground := Ground.guard }], guard := some (9, true) }) (v := ?_) rfl (by as_aux_lemma => kernel_rfl) (by as_aux_lemma => kernel_rfl) (by as_aux_lemma => kernel_rfl) (fun _ _ _ h => h) (Or.inl ⟨by rfl, ?_⟩) (by assumption) ?_
  rotate_left
  · intro w' hSw
    try dsimp only at hSw
    go_simp
    try with_reducible rfl
  try simp only [Act.put, List.setIfInBounds_toArray, List.set_cons_zero, List.set_cons_succ]
  refine wpAnyH_take (i := 15) (oi := { dst := some 144, op := Op.indexAddr 43 (Operand.tmp 5) (Operand.const (Value.int IntKind.i64 0)), type := 0, pos := "law.go:107", after := #[{ on := 9, ground := Ground.guard }], guard := some (9, true) }) (v := ?_) rfl (by as_aux_lemma => kernel_rfl) (by as_aux_lemma => kernel_rfl) (by as_aux_lemma => kernel_rfl) (fun _ _ _ h => h) (Or.inl ⟨by rfl, ?_⟩) (by assumption) ?_
  rotate_left
  · intro w' hSw
    try dsimp only at hSw
    go_simp
    try with_reducible rfl
  try simp only [Act.put, List.setIfInBounds_toArray, List.set_cons_zero, List.set_cons_succ]
  refine wpAnyH_take (i := 16) (oi := { dst := some 145, op := Op.load 9 (Operand.tmp 144), type := 9, pos := "law.go:107", after := #[{ on := 15, ground := Ground.data }, { on := 9, ground := Ground.guard }], guard := some (9, true) }) (v := ?_) rfl (by as_aux_lemma => kernel_rfl) (by as_aux_lemma => kernel_rfl) (by as_aux_lemma => kernel_rfl) (fun _ _ _ h => h) (Or.inl ⟨by rfl, ?_⟩) (by assumption) ?_
  rotate_left
  · intro w' hSw
    try dsimp only at hSw
    go_simp
    try with_reducible rfl
  try simp only [Act.put, List.setIfInBounds_toArray, List.set_cons_zero, List.set_cons_succ]
  refine wpAnyH_ready (rs := [13]) (by as_aux_lemma => kernel_rfl) (by simp) ?_
  refine AllReadyH.cons (o := { dst := some 142, op := Op.call { callee := Callee.value (Operand.func 26), args := #[Operand.tmp 139, Operand.tmp 141], argTypes := #[22, 9] }, type := 29, pos := "law.go:107", after := #[{ on := 10, ground := Ground.data }, { on := 12, ground := Ground.data }, { on := 9, ground := Ground.chain }, { on := 9, ground := Ground.guard }], guard := some (9, true) }) rfl (fun Kx hK => ?_) AllReadyH.nil
  go_simp
  refine (rwatchers_rise (X2.out.later K3.out) HRR.out.2 ML.out p).mono ?_
  rintro e y4 ⟨z4, rfl, hz4, b4⟩
  rw [WA.out] at hz4
  have K4 := Lib.hid (below2Z K3.out b4)
  have Z4 := Lib.hid hz4
  obtain ⟨za4, zk4, rfl, -⟩ := Z4.out
  have D4 := Lib.hid (D.out.later K4.out)
  clear hz4 b4
  go_wp2_with fail
  refine hK.out _ _ ?_ (fun hHeld2 => ?_)
  · exact D4.out
  clear hK Kx hHeld
  have hHeld := hHeld2
  clear hHeld2
  try simp only [Act.put, List.setIfInBounds_toArray, List.set_cons_zero, List.set_cons_succ]
  refine wpAnyH_ready (rs := [17]) (by as_aux_lemma => kernel_rfl) (by simp) ?_
  refine AllReadyH.cons (o := { dst := some 146, op := Op.call { callee := Callee.value (Operand.func 26), args := #[Operand.tmp 143, Operand.tmp 145], argTypes := #[22, 9] }, type := 29, pos := "law.go:107", after := #[{ on := 14, ground := Ground.data }, { on := 16, ground := Ground.data }, { on := 13, ground := Ground.chain }, { on := 9, ground := Ground.guard }], guard := some (9, true) }) rfl (fun Kx hK => ?_) AllReadyH.nil
  go_simp
  refine (rwatchers_rise (V.out.later K4.out) HRR.out.1 (by omega) p).mono ?_
  rintro e y5 ⟨z5, rfl, hz5, b5⟩
  have K5 := Lib.hid (below2Z K4.out b5)
  replace Z4 := Lib.hid (Z4.out.later b5)
  have Z5 := Lib.hid hz5
  obtain ⟨za5, zk5, rfl, -⟩ := Z5.out
  have D5 := Lib.hid (D.out.later K5.out)
  clear hz5 b5
  go_wp2_with fail
  refine hK.out _ _ ?_ (fun hHeld2 => ?_)
  · exact D5.out
  clear hK Kx hHeld
  have hHeld := hHeld2
  clear hHeld2
  try simp only [Act.put, List.setIfInBounds_toArray, List.set_cons_zero, List.set_cons_succ]
  refine wpAnyH_ready (rs := [18]) (by as_aux_lemma => kernel_rfl) (by simp) ?_
  refine AllReadyH.cons (o := { dst := some 147, op := Op.call { callee := Callee.value (Operand.func 21), args := #[Operand.tmp 142, Operand.tmp 146], argTypes := #[29, 29] }, type := 4, pos := "law.go:107", after := #[{ on := 13, ground := Ground.data }, { on := 17, ground := Ground.data }, { on := 17, ground := Ground.chain }, { on := 9, ground := Ground.guard }], guard := some (9, true) }) rfl (fun Kx hK => ?_) AllReadyH.nil
  go_simp
  refine (same_yes Z4.out Z5.out (Nat.le_trans (roWat_le _ _) (by omega))).mono ?_
  rintro e y6 ⟨rfl, b6⟩
  have K6 := Lib.hid (below2Z K5.out b6)
  have D6 := Lib.hid (D.out.later K6.out)
  clear b6 Z4 Z5
  go_wp2_with fail
  refine hK.out _ _ ?_ (fun hHeld2 => ?_)
  · exact D6.out
  clear hK Kx hHeld
  have hHeld := hHeld2
  clear hHeld2
  try simp only [Act.put, List.setIfInBounds_toArray, List.set_cons_zero, List.set_cons_succ]
  refine wpAnyH_take (i := 19) (oi := { dst := some 148, op := Op.pick (Operand.tmp 138) (Operand.tmp 147) (Operand.const (Value.bool false)), type := 4, pos := "law.go:107", after := #[{ on := 9, ground := Ground.data }, { on := 18, ground := Ground.data }], guard := none }) (v := ?_) rfl (by as_aux_lemma => kernel_rfl) (by as_aux_lemma => kernel_rfl) (by as_aux_lemma => kernel_rfl) (fun _ _ _ h => h) (Or.inl ⟨by rfl, ?_⟩) (by assumption) ?_
  rotate_left
  · intro w' hSw
    try dsimp only at hSw
    go_simp
    try with_reducible rfl
  try simp only [Act.put, List.setIfInBounds_toArray, List.set_cons_zero, List.set_cons_succ]
  refine wpAnyH_take (i := 20) (oi := { dst := some 149, op := Op.move (Operand.tmp 148), type := 4, pos := "law.go:107", after := #[{ on := 19, ground := Ground.data }, { on := 18, ground := Ground.chain }], guard := none }) (v := ?_) rfl (by as_aux_lemma => kernel_rfl) (by as_aux_lemma => kernel_rfl) (by as_aux_lemma => kernel_rfl) (fun _ _ _ h => h) (Or.inl ⟨by rfl, ?_⟩) (by assumption) ?_
  rotate_left
  · intro w' hSw
    try dsimp only at hSw
    go_simp
    try with_reducible rfl
  try simp only [Act.put, List.setIfInBounds_toArray, List.set_cons_zero, List.set_cons_succ]
  refine wpAnyH_ready (rs := [21]) (by as_aux_lemma => kernel_rfl) (by simp) ?_
  refine AllReadyH.cons (o := { dst := some 150, op := Op.call { callee := Callee.value (Operand.func 16), args := #[], argTypes := #[] }, type := 4, pos := "law.go:107", after := #[{ on := 20, ground := Ground.chain }, { on := 20, ground := Ground.guard }], guard := some (20, true) }) rfl (fun Kx hK => ?_) AllReadyH.nil
  go_simp
  refine (live8 _).mono ?_
  rintro e y7 ⟨rfl, b7⟩
  have K7 := Lib.hid (below2Z K6.out b7)
  have D7 := Lib.hid (D.out.later K7.out)
  clear b7
  go_wp2_with fail
  refine hK.out _ _ ?_ (fun hHeld2 => ?_)
  · exact D7.out
  clear hK Kx hHeld
  have hHeld := hHeld2
  clear hHeld2
  try simp only [Act.put, List.setIfInBounds_toArray, List.set_cons_zero, List.set_cons_succ]
  refine wpAnyH_take (i := 22) (oi := { dst := some 151, op := Op.pick (Operand.tmp 149) (Operand.tmp 150) (Operand.const (Value.bool false)), type := 4, pos := "law.go:107", after := #[{ on := 20, ground := Ground.data }, { on := 21, ground := Ground.data }], guard := none }) (v := ?_) rfl (by as_aux_lemma => kernel_rfl) (by as_aux_lemma => kernel_rfl) (by as_aux_lemma => kernel_rfl) (fun _ _ _ h => h) (Or.inl ⟨by rfl, ?_⟩) (by assumption) ?_
  rotate_left
  · intro w' hSw
    try dsimp only at hSw
    go_simp
    try with_reducible rfl
  try simp only [Act.put, List.setIfInBounds_toArray, List.set_cons_zero, List.set_cons_succ]
  refine wpAnyH_take (i := 23) (oi := { dst := some 6, op := Op.assign (Operand.tmp 151), type := 4, pos := "law.go:107", after := #[{ on := 22, ground := Ground.data }, { on := 21, ground := Ground.chain }, { on := 0, ground := Ground.phase }, { on := 1, ground := Ground.phase }, { on := 2, ground := Ground.phase }, { on := 3, ground := Ground.phase }, { on := 4, ground := Ground.phase }, { on := 5, ground := Ground.phase }, { on := 6, ground := Ground.phase }, { on := 7, ground := Ground.phase }, { on := 8, ground := Ground.phase }, { on := 9, ground := Ground.phase }, { on := 10, ground := Ground.phase }, { on := 11, ground := Ground.phase }, { on := 12, ground := Ground.phase }, { on := 13, ground := Ground.phase }, { on := 14, ground := Ground.phase }, { on := 15, ground := Ground.phase }, { on := 16, ground := Ground.phase }, { on := 17, ground := Ground.phase }, { on := 18, ground := Ground.phase }, { on := 19, ground := Ground.phase }, { on := 20, ground := Ground.phase }, { on := 21, ground := Ground.phase }, { on := 22, ground := Ground.phase }], guard := none }) (v := ?_) rfl (by as_aux_lemma => kernel_rfl) (by as_aux_lemma => kernel_rfl) (by as_aux_lemma => kernel_rfl) (fun _ _ _ h => h) (Or.inl ⟨by rfl, ?_⟩) (by assumption) ?_
  rotate_left
  · intro w' hSw
    try dsimp only at hSw
    go_simp
    try with_reducible rfl
  try simp only [Act.put, List.setIfInBounds_toArray, List.set_cons_zero, List.set_cons_succ]
  refine wpAnyH_done (by kernel_rfl) ?_ _
  replace HB := Lib.hid (below2Z HB.out K7.out)
  go_wp2_with fail
  go_ret
  exact ⟨rfl, HB.out⟩

set_option maxHeartbeats 3200000 in
set_option maxRecDepth 100000 in
theorem roth_12b {w : World} {v : Value} {l : List Ent} (hv : Ents w v l) (k : Int) (u o p q : List UInt8) (hk : (Lit.int .i64 k).wf = true) (hw : fewR l = true) (hm8 : roMayD l = true) (h1 : u.length ≤ 40) (h2 : o.length ≤ 40) (h3 : p.length ≤ 40) (h4 : q.length ≤ 40) {m : List Ent} (hd : roDo l k u o = (m, 0)) (hn1 : ¬ (p = u ∧ q = o)) (hn2 : ¬ (p = o ∧ q = u)) (f1 : ¬ p = u) (f2 : ¬ p = o) (e3 : ¬ q = u) :
    Calls Try.prog 6 #[v, .agg #[.int .i64 k, .string ⟨u.toArray⟩, .string ⟨o.toArray⟩], .agg #[.string ⟨p.toArray⟩, .string ⟨q.toArray⟩]] w fun e w' => e = .returned (.bool true) ∧ Below w.heap.size w w' := by
  have b0 := below2Z (bl_newZ w (.cells #[.int .i64 k, .string ⟨u.toArray⟩, .string ⟨o.toArray⟩] 33)) (bl_newZ (w.alloc (.cells #[.int .i64 k, .string ⟨u.toArray⟩, .string ⟨o.toArray⟩] 33)) (.cells #[.string ⟨p.toArray⟩, .string ⟨q.toArray⟩] 43))
  have HB := Lib.hid b0
  have C := Lib.hid ((cellsAt_made (w := w) (cs := #[.int .i64 k, .string ⟨u.toArray⟩, .string ⟨o.toArray⟩]) (vs := rmovVals ⟨k, u, o⟩) rfl 33 rfl).later (bl_newZ (w.alloc (.cells #[.int .i64 k, .string ⟨u.toArray⟩, .string ⟨o.toArray⟩] 33)) (.cells #[.string ⟨p.toArray⟩, .string ⟨q.toArray⟩] 43)))
  have D := Lib.hid (cellsAt_made (w := w.alloc (.cells #[.int .i64 k, .string ⟨u.toArray⟩, .string ⟨o.toArray⟩] 33)) (cs := #[.string ⟨p.toArray⟩, .string ⟨q.toArray⟩]) (vs := poVals p q) rfl 43 (B := w.heap.size + 1) (by simp))
  have V := Lib.hid (hv.later b0)
  have HF := Lib.hid (few8_any V.out (Lib.hid hw))
  have HL := (fewR_get hw).1
  have HS := Lib.hid (fewR_short hw)
  obtain ⟨ao, cap, rfl, hm⟩ := hv.open'
  clear b0 hv
  obtain ⟨c0, c1, c2⟩ := threeO C.out
  obtain ⟨d0, d1⟩ := twoO D.out
  have HM := Lib.hid hm8
  have HD := Lib.hid hd
  have tu : decide ((40 : Int) < (u.length : Int)) = false := by rw [decide_eq_false_iff_not]; omega
  have to : decide ((40 : Int) < (o.length : Int)) = false := by rw [decide_eq_false_iff_not]; omega
  have tp : decide ((40 : Int) < (p.length : Int)) = false := by rw [decide_eq_false_iff_not]; omega
  have tq : decide ((40 : Int) < (q.length : Int)) = false := by rw [decide_eq_false_iff_not]; omega
  have t9 : (((0 : Nat) : Int) != 0) = false := by decide
  obtain ⟨hg1, hg2⟩ := roDo_get hd hn1 hn2
  obtain ⟨⟨i1, i2, i3, i4, i5⟩, hi⟩ : ∃ r, roGet l p q = r := ⟨_, rfl⟩
  obtain ⟨r, hr⟩ : ∃ r, roSees l p q = r := ⟨_, rfl⟩
  rw [hi] at hg1
  rw [hr] at hg2
  have G1 := Lib.hid hg1
  have G2 := Lib.hid hi
  have S1 := Lib.hid hg2
  have S2 := Lib.hid hr
  have HRR := Lib.hid (roDo_rises hd)
  have OF := Lib.hid (roDo_of hd f1 f2)
  have WA := Lib.hid (roDo_wat hd f1 f2)
  have ML : Hid (m.length ≤ 4294967) := Lib.hid (roDo_len hd (by omega))
  clear hg1 hi hg2 hr hd hn1 hn2
  go_enter Try.func6, Try.ntmps6
  go_wp2_with fail
  refine HF.out.mono ?_
  rintro e w0 ⟨rfl, rfl⟩
  clear c0 c1 c2 d0 d1
  go_wp2_with fail
  refine (rmay8_any V.out HS.out (by omega) HM).mono ?_
  rintro e w1 ⟨rfl, b1⟩
  replace V := Lib.hid (V.out.later b1)
  replace C := Lib.hid (C.out.later b1)
  replace D := Lib.hid (D.out.later b1)
  replace HB := Lib.hid (below2Z HB.out b1)
  clear b1
  obtain ⟨c0, c1, c2⟩ := threeO C.out
  obtain ⟨d0, d1⟩ := twoO D.out
  go_wp2_with fail
  refine (rdo_any V.out HS.out (by omega) u o (by omega) (by omega) k hk HD.out).mono ?_
  rintro e w2 ⟨x2, rfl, hx2, b2⟩
  replace V := Lib.hid (V.out.later b2)
  replace C := Lib.hid (C.out.later b2)
  replace D := Lib.hid (D.out.later b2)
  replace HB := Lib.hid (below2Z HB.out b2)
  have X2 := Lib.hid (hx2)
  clear hx2 c0 c1 c2 d0 d1
  obtain ⟨ax, kx, rfl, -⟩ := X2.out.open'
  clear b2
  have s1 : (p == u) = false := sneO f1
  have s2 : (q == u) = false := sneO e3
  have s3 : (p == o) = false := sneO f2
  obtain ⟨c0, c1, c2⟩ := threeO C.out
  obtain ⟨d0, d1⟩ := twoO D.out
  go_wp2_with fail
  have F1 : Hid (∀ w', Below w2.heap.size w2 w' → _) := Lib.hid (fun w' hw' => get8_eq (X2.out.later hw') p q G1)
  have F2 : Hid (∀ w', Below w2.heap.size w2 w' → _) := Lib.hid (fun w' hw' => get8_eq (V.out.later hw') p q G2)
  have F3 : Hid (∀ w', Below w2.heap.size w2 w' → _) := Lib.hid (fun w' hw' => sees8_any (X2.out.later hw') p q)
  have F4 : Hid (∀ w', Below w2.heap.size w2 w' → _) := Lib.hid (fun w' hw' => sees8_any (V.out.later hw') p q)
  rw [S1.out] at F3
  rw [S2.out] at F4
  have hne : ∀ w : World, (binOp .neq 26 (.agg #[.bool i1, .bool i2, .bool i3, .bool i4, .bool i5]) (.agg #[.bool i1, .bool i2, .bool i3, .bool i4, .bool i5])).run Try.prog w = .ok (.bool false) w := fun w => by rw [item_neq, itSame_self]; rfl
  have hrr : (r != r) = false := by simp
  clear c0 c1 c2 d0 d1
  obtain ⟨d0, d1⟩ := twoO D.out
  replace d0 := cell_regrown d0
  replace d1 := cell_regrown d1
  refine wp_region_quiet_below (by kernel_rfl) (by kernel_rfl) ?_
  repeat (go_big_quiet_step (first | with_reducible exact rgM F1.out _ _ | with_reducible exact rgM F2.out _ _ | with_reducible exact rgM F3.out _ _ | with_reducible exact rgM F4.out _ _))
  refine wpQuiet_nil ?_
  intro w9 hw9
  have b9 := regrownZ hw9
  replace V := Lib.hid (V.out.later b9)
  replace X2 := Lib.hid (X2.out.later b9)
  replace C := Lib.hid (C.out.later b9)
  replace D := Lib.hid (D.out.later b9)
  replace HB := Lib.hid (below2Z HB.out b9)
  clear b9 hw9 d0 d1 F1 F2 F3 F4
  obtain ⟨c0, c1, c2⟩ := threeO C.out
  obtain ⟨d0, d1⟩ := twoO D.out
  go_wp2_with fail
  clear c0 c1 c2 d0 d1
  have hd0 : ∀ W, CellsAt W (w.heap.size + 1) 0 (poVals p q) → W.cell? ⟨w.heap.size + 1, 0, none⟩ = some (.string ⟨p.toArray⟩) := fun W h => (twoO h).1
  refine wp_region_held_drew (S := (fun W => CellsAt W (w.heap.size + 1) 0 (poVals p q))) (by kernel_rfl) ?_ (fun hHeld => ?_)
  · exact D.out.later (Below.refl _ _).drew
  refine wpAnyH_take (i := 0) (oi := { dst := some 129, op := Op.move (Operand.tmp 7), type := 22, pos := "law.go:107", after := #[], guard := none }) (v := ?_) rfl (by as_aux_lemma => kernel_rfl) (by as_aux_lemma => kernel_rfl) (by as_aux_lemma => kernel_rfl) (fun _ _ _ h => h) (Or.inl ⟨by rfl, ?_⟩) (by assumption) ?_
  rotate_left
  · intro w' hSw
    try dsimp only at hSw
    go_simp
    try with_reducible rfl
  try simp only [Act.put, List.setIfInBounds_toArray, List.set_cons_zero, List.set_cons_succ]
  refine wpAnyH_take (i := 1) (oi := { dst := some 130, op := Op.indexAddr 43 (Operand.tmp 5) (Operand.const (Value.int IntKind.i64 0)), type := 0, pos := "law.go:107", after := #[], guard := none }) (v := ?_) rfl (by as_aux_lemma => kernel_rfl) (by as_aux_lemma => kernel_rfl) (by as_aux_lemma => kernel_rfl) (fun _ _ _ h => h) (Or.inl ⟨by rfl, ?_⟩) (by assumption) ?_
  rotate_left
  · intro w' hSw
    try dsimp only at hSw
    go_simp
    try with_reducible rfl
  try simp only [Act.put, List.setIfInBounds_toArray, List.set_cons_zero, List.set_cons_succ]
  refine wpAnyH_take (i := 2) (oi := { dst := some 131, op := Op.load 9 (Operand.tmp 130), type := 9, pos := "law.go:107", after := #[{ on := 1, ground := Ground.data }], guard := none }) (v := ?_) rfl (by as_aux_lemma => kernel_rfl) (by as_aux_lemma => kernel_rfl) (by as_aux_lemma => kernel_rfl) (fun _ _ _ h => h) (Or.inl ⟨by rfl, ?_⟩) (by assumption) ?_
  rotate_left
  · intro w' hSw
    try dsimp only at hSw
    go_simp
    try with_reducible rfl
  try simp only [Act.put, List.setIfInBounds_toArray, List.set_cons_zero, List.set_cons_succ]
  refine wpAnyH_take (i := 4) (oi := { dst := some 133, op := Op.move (Operand.tmp 0), type := 22, pos := "law.go:107", after := #[], guard := none }) (v := ?_) rfl (by as_aux_lemma => kernel_rfl) (by as_aux_lemma => kernel_rfl) (by as_aux_lemma => kernel_rfl) (fun _ _ _ h => h) (Or.inl ⟨by rfl, ?_⟩) (by assumption) ?_
  rotate_left
  · intro w' hSw
    try dsimp only at hSw
    go_simp
    try with_reducible rfl
  try simp only [Act.put, List.setIfInBounds_toArray, List.set_cons_zero, List.set_cons_succ]
  refine wpAnyH_take (i := 5) (oi := { dst := some 134, op := Op.indexAddr 43 (Operand.tmp 5) (Operand.const (Value.int IntKind.i64 0)), type := 0, pos := "law.go:107", after := #[], guard := none }) (v := ?_) rfl (by as_aux_lemma => kernel_rfl) (by as_aux_lemma => kernel_rfl) (by as_aux_lemma => kernel_rfl) (fun _ _ _ h => h) (Or.inl ⟨by rfl, ?_⟩) (by assumption) ?_
  rotate_left
  · intro w' hSw
    try dsimp only at hSw
    go_simp
    try with_reducible rfl
  try simp only [Act.put, List.setIfInBounds_toArray, List.set_cons_zero, List.set_cons_succ]
  refine wpAnyH_take (i := 6) (oi := { dst := some 135, op := Op.load 9 (Operand.tmp 134), type := 9, pos := "law.go:107", after := #[{ on := 5, ground := Ground.data }], guard := none }) (v := ?_) rfl (by as_aux_lemma => kernel_rfl) (by as_aux_lemma => kernel_rfl) (by as_aux_lemma => kernel_rfl) (fun _ _ _ h => h) (Or.inl ⟨by rfl, ?_⟩) (by assumption) ?_
  rotate_left
  · intro w' hSw
    try dsimp only at hSw
    go_simp
    try with_reducible rfl
  try simp only [Act.put, List.setIfInBounds_toArray, List.set_cons_zero, List.set_cons_succ]
  refine wpAnyH_ready (rs := [3]) (by as_aux_lemma => kernel_rfl) (by simp) ?_
  refine AllReadyH.cons (o := { dst := some 132, op := Op.call { callee := Callee.value (Operand.func 22), args := #[Operand.tmp 129, Operand.tmp 131], argTypes := #[22, 9] }, type := 29, pos := "law.go:107", after := #[{ on := 0, ground := Ground.data }, { on := 2, ground := Ground.data }], guard := none }) rfl (fun Kx hK => ?_) AllReadyH.nil
  go_simp
  refine (of_any (X2.out.later (Below.refl _ _).drew) ML.out p).mono ?_
  rintro e y1 ⟨z1, rfl, hz1, b1⟩
  rw [OF.out] at hz1
  have K1 := Lib.hid (below2Z (Below.refl _ _).drew b1)
  have Z1 := Lib.hid hz1.texts
  obtain ⟨za1, zk1, rfl, -⟩ := Z1.out
  have D1 := Lib.hid (D.out.later K1.out)
  clear hz1 b1
  go_wp2_with fail
  refine hK.out _ _ ?_ (fun hHeld2 => ?_)
  · exact D1.out
  clear hK Kx hHeld
  have hHeld := hHeld2
  clear hHeld2
  try simp only [Act.put, List.setIfInBounds_toArray, List.set_cons_zero, List.set_cons_succ]
  refine wpAnyH_ready (rs := [7]) (by as_aux_lemma => kernel_rfl) (by simp) ?_
  refine AllReadyH.cons (o := { dst := some 136, op := Op.call { callee := Callee.value (Operand.func 22), args := #[Operand.tmp 133, Operand.tmp 135], argTypes := #[22, 9] }, type := 29, pos := "law.go:107", after := #[{ on := 4, ground := Ground.data }, { on := 6, ground := Ground.data }, { on := 3, ground := Ground.chain }], guard := none }) rfl (fun Kx hK => ?_) AllReadyH.nil
  go_simp
  refine (of_any (V.out.later K1.out) (by omega) p).mono ?_
  rintro e y2 ⟨z2, rfl, hz2, b2⟩
  have K2 := Lib.hid (below2Z K1.out b2)
  replace Z1 := Lib.hid (Z1.out.later b2)
  have Z2 := Lib.hid hz2.texts
  obtain ⟨za2, zk2, rfl, -⟩ := Z2.out
  have D2 := Lib.hid (D.out.later K2.out)
  clear hz2 b2
  go_wp2_with fail
  refine hK.out _ _ ?_ (fun hHeld2 => ?_)
  · exact D2.out
  clear hK Kx hHeld
  have hHeld := hHeld2
  clear hHeld2
  try simp only [Act.put, List.setIfInBounds_toArray, List.set_cons_zero, List.set_cons_succ]
  refine wpAnyH_ready (rs := [8]) (by as_aux_lemma => kernel_rfl) (by simp) ?_
  refine AllReadyH.cons (o := { dst := some 137, op := Op.call { callee := Callee.value (Operand.func 21), args := #[Operand.tmp 132, Operand.tmp 136], argTypes := #[29, 29] }, type := 4, pos := "law.go:107", after := #[{ on := 3, ground := Ground.data }, { on := 7, ground := Ground.data }, { on := 7, ground := Ground.chain }], guard := none }) rfl (fun Kx hK => ?_) AllReadyH.nil
  go_simp
  refine (same_yes Z1.out Z2.out (Nat.le_trans (roOf_le _ _) (by omega))).mono ?_
  rintro e y3 ⟨rfl, b3⟩
  have K3 := Lib.hid (below2Z K2.out b3)
  have D3 := Lib.hid (D.out.later K3.out)
  clear b3 Z1 Z2
  go_wp2_with fail
  refine hK.out _ _ ?_ (fun hHeld2 => ?_)
  · exact D3.out
  clear hK Kx hHeld
  have hHeld := hHeld2
  clear hHeld2
  try simp only [Act.put, List.setIfInBounds_toArray, List.set_cons_zero, List.set_cons_succ]
  refine wpAnyH_take (i := 9) (oi := { dst := some 138, op := Op.move (Operand.tmp 137), type := 4, pos := "law.go:107", after := #[{ on := 8, ground := Ground.data }, { on := 8, ground := Ground.chain }], guard := none }) (v := ?_) rfl (by as_aux_lemma => kernel_rfl) (by as_aux_lemma => kernel_rfl) (by as_aux_lemma => kernel_rfl) (fun _ _ _ h => h) (Or.inl ⟨by rfl, ?_⟩) (by assumption) ?_
  rotate_left
  · intro w' hSw
    try dsimp only at hSw
    go_simp
    try with_reducible rfl
  try simp only [Act.put, List.setIfInBounds_toArray, List.set_cons_zero, List.set_cons_succ]
  refine wpAnyH_take (i := 10) (oi := { dst := some 139, op := Op.move (Operand.tmp 7), type := 22, pos := "law.go:107", after := #[{ on := 9, ground := Ground.guard }], guard := some (9, true) }) (v := ?_) rfl (by as_aux_lemma => kernel_rfl) (by as_aux_lemma => kernel_rfl) (by as_aux_lemma => kernel_rfl) (fun _ _ _ h => h) (Or.inl ⟨by rfl, ?_⟩) (by assumption) ?_
  rotate_left
  · intro w' hSw
    try dsimp only at hSw
    go_simp
    try with_reducible rfl
  try simp only [Act.put, List.setIfInBounds_toArray, List.set_cons_zero, List.set_cons_succ]
  refine wpAnyH_take (i := 11) (oi := { dst := some 140, op := Op.indexAddr 43 (Operand.tmp 5) (Operand.const (Value.int IntKind.i64 0)), type := 0, pos := "law.go:107", after := #[{ on := 9, ground := Ground.guard }], guard := some (9, true) }) (v := ?_) rfl (by as_aux_lemma => kernel_rfl) (by as_aux_lemma => kernel_rfl) (by as_aux_lemma => kernel_rfl) (fun _ _ _ h => h) (Or.inl ⟨by rfl, ?_⟩) (by assumption) ?_
  rotate_left
  · intro w' hSw
    try dsimp only at hSw
    go_simp
    try with_reducible rfl
  try simp only [Act.put, List.setIfInBounds_toArray, List.set_cons_zero, List.set_cons_succ]
  refine wpAnyH_take (i := 12) (oi := { dst := some 141, op := Op.load 9 (Operand.tmp 140), type := 9, pos := "law.go:107", after := #[{ on := 11, ground := Ground.data }, { on := 9, ground := Ground.guard }], guard := some (9, true) }) (v := ?_) rfl (by as_aux_lemma => kernel_rfl) (by as_aux_lemma => kernel_rfl) (by as_aux_lemma => kernel_rfl) (fun _ _ _ h => h) (Or.inl ⟨by rfl, ?_⟩) (by assumption) ?_
  rotate_left
  · intro w' hSw
    try dsimp only at hSw
    go_simp
    try with_reducible rfl
  try simp only [Act.put, List.setIfInBounds_toArray, List.set_cons_zero, List.set_cons_succ]
  refine wpAnyH_take (i := 14) (oi := { dst := some 143, op := Op.move (Operand.tmp 0), type := 22, pos := "law.go:107", after := #[{ on := 9, ground := Ground.guard }], guard := some (9, true) }) (v := ?_) rfl (by as_aux_lemma => kernel_rfl) (by as_aux_lemma => kernel_rfl) (by as_aux_lemma => kernel_rfl) (fun _ _ _ h => h) (Or.inl ⟨by rfl, ?_⟩) (by assumption) ?_
  rotate_left
  · intro w' hSw
    try dsimp only at hSw
    go_simp
    try with_reducible rfl
  try simp only [Act.put, List.setIfInBounds_toArray, List.set_cons_zero, List.set_cons_succ]
  refine wpAnyH_take (i := 15) (oi := { dst := some 144, op := Op.indexAddr 43 (Operand.tmp 5) (Operand.const (Value.int IntKind.i64 0)), type := 0, pos := "law.go:107", after := #[{ on := 9, ground := Ground.guard }], guard := some (9, true) }) (v := ?_) rfl (by as_aux_lemma => kernel_rfl) (by as_aux_lemma => kernel_rfl) (by as_aux_lemma => kernel_rfl) (fun _ _ _ h => h) (Or.inl ⟨by rfl, ?_⟩) (by assumption) ?_
  rotate_left
  · intro w' hSw
    try dsimp only at hSw
    go_simp
    try with_reducible rfl
  try simp only [Act.put, List.setIfInBounds_toArray, List.set_cons_zero, List.set_cons_succ]
  refine wpAnyH_take (i := 16) (oi := { dst := some 145, op := Op.load 9 (Operand.tmp 144), type := 9, pos := "law.go:107", after := #[{ on := 15, ground := Ground.data }, { on := 9, ground := Ground.guard }], guard := some (9, true) }) (v := ?_) rfl (by as_aux_lemma => kernel_rfl) (by as_aux_lemma => kernel_rfl) (by as_aux_lemma => kernel_rfl) (fun _ _ _ h => h) (Or.inl ⟨by rfl, ?_⟩) (by assumption) ?_
  rotate_left
  · intro w' hSw
    try dsimp only at hSw
    go_simp
    try with_reducible rfl
  try simp only [Act.put, List.setIfInBounds_toArray, List.set_cons_zero, List.set_cons_succ]
  refine wpAnyH_ready (rs := [13]) (by as_aux_lemma => kernel_rfl) (by simp) ?_
  refine AllReadyH.cons (o := { dst := some 142, op := Op.call { callee := Callee.value (Operand.func 26), args := #[Operand.tmp 139, Operand.tmp 141], argTypes := #[22, 9] }, type := 29, pos := "law.go:107", after := #[{ on := 10, ground := Ground.data }, { on := 12, ground := Ground.data }, { on := 9, ground := Ground.chain }, { on := 9, ground := Ground.guard }], guard := some (9, true) }) rfl (fun Kx hK => ?_) AllReadyH.nil
  go_simp
  refine (rwatchers_rise (X2.out.later K3.out) HRR.out.2 ML.out p).mono ?_
  rintro e y4 ⟨z4, rfl, hz4, b4⟩
  rw [WA.out] at hz4
  have K4 := Lib.hid (below2Z K3.out b4)
  have Z4 := Lib.hid hz4
  obtain ⟨za4, zk4, rfl, -⟩ := Z4.out
  have D4 := Lib.hid (D.out.later K4.out)
  clear hz4 b4
  go_wp2_with fail
  refine hK.out _ _ ?_ (fun hHeld2 => ?_)
  · exact D4.out
  clear hK Kx hHeld
  have hHeld := hHeld2
  clear hHeld2
  try simp only [Act.put, List.setIfInBounds_toArray, List.set_cons_zero, List.set_cons_succ]
  refine wpAnyH_ready (rs := [17]) (by as_aux_lemma => kernel_rfl) (by simp) ?_
  refine AllReadyH.cons (o := { dst := some 146, op := Op.call { callee := Callee.value (Operand.func 26), args := #[Operand.tmp 143, Operand.tmp 145], argTypes := #[22, 9] }, type := 29, pos := "law.go:107", after := #[{ on := 14, ground := Ground.data }, { on := 16, ground := Ground.data }, { on := 13, ground := Ground.chain }, { on := 9, ground := Ground.guard }], guard := some (9, true) }) rfl (fun Kx hK => ?_) AllReadyH.nil
  go_simp
  refine (rwatchers_rise (V.out.later K4.out) HRR.out.1 (by omega) p).mono ?_
  rintro e y5 ⟨z5, rfl, hz5, b5⟩
  have K5 := Lib.hid (below2Z K4.out b5)
  replace Z4 := Lib.hid (Z4.out.later b5)
  have Z5 := Lib.hid hz5
  obtain ⟨za5, zk5, rfl, -⟩ := Z5.out
  have D5 := Lib.hid (D.out.later K5.out)
  clear hz5 b5
  go_wp2_with fail
  refine hK.out _ _ ?_ (fun hHeld2 => ?_)
  · exact D5.out
  clear hK Kx hHeld
  have hHeld := hHeld2
  clear hHeld2
  try simp only [Act.put, List.setIfInBounds_toArray, List.set_cons_zero, List.set_cons_succ]
  refine wpAnyH_ready (rs := [18]) (by as_aux_lemma => kernel_rfl) (by simp) ?_
  refine AllReadyH.cons (o := { dst := some 147, op := Op.call { callee := Callee.value (Operand.func 21), args := #[Operand.tmp 142, Operand.tmp 146], argTypes := #[29, 29] }, type := 4, pos := "law.go:107", after := #[{ on := 13, ground := Ground.data }, { on := 17, ground := Ground.data }, { on := 17, ground := Ground.chain }, { on := 9, ground := Ground.guard }], guard := some (9, true) }) rfl (fun Kx hK => ?_) AllReadyH.nil
  go_simp
  refine (same_yes Z4.out Z5.out (Nat.le_trans (roWat_le _ _) (by omega))).mono ?_
  rintro e y6 ⟨rfl, b6⟩
  have K6 := Lib.hid (below2Z K5.out b6)
  have D6 := Lib.hid (D.out.later K6.out)
  clear b6 Z4 Z5
  go_wp2_with fail
  refine hK.out _ _ ?_ (fun hHeld2 => ?_)
  · exact D6.out
  clear hK Kx hHeld
  have hHeld := hHeld2
  clear hHeld2
  try simp only [Act.put, List.setIfInBounds_toArray, List.set_cons_zero, List.set_cons_succ]
  refine wpAnyH_take (i := 19) (oi := { dst := some 148, op := Op.pick (Operand.tmp 138) (Operand.tmp 147) (Operand.const (Value.bool false)), type := 4, pos := "law.go:107", after := #[{ on := 9, ground := Ground.data }, { on := 18, ground := Ground.data }], guard := none }) (v := ?_) rfl (by as_aux_lemma => kernel_rfl) (by as_aux_lemma => kernel_rfl) (by as_aux_lemma => kernel_rfl) (fun _ _ _ h => h) (Or.inl ⟨by rfl, ?_⟩) (by assumption) ?_
  rotate_left
  · intro w' hSw
    try dsimp only at hSw
    go_simp
    try with_reducible rfl
  try simp only [Act.put, List.setIfInBounds_toArray, List.set_cons_zero, List.set_cons_succ]
  refine wpAnyH_take (i := 20) (oi := { dst := some 149, op := Op.move (Operand.tmp 148), type := 4, pos := "law.go:107", after := #[{ on := 19, ground := Ground.data }, { on := 18, ground := Ground.chain }], guard := none }) (v := ?_) rfl (by as_aux_lemma => kernel_rfl) (by as_aux_lemma => kernel_rfl) (by as_aux_lemma => kernel_rfl) (fun _ _ _ h => h) (Or.inl ⟨by rfl, ?_⟩) (by assumption) ?_
  rotate_left
  · intro w' hSw
    try dsimp only at hSw
    go_simp
    try with_reducible rfl
  try simp only [Act.put, List.setIfInBounds_toArray, List.set_cons_zero, List.set_cons_succ]
  refine wpAnyH_ready (rs := [21]) (by as_aux_lemma => kernel_rfl) (by simp) ?_
  refine AllReadyH.cons (o := { dst := some 150, op := Op.call { callee := Callee.value (Operand.func 16), args := #[], argTypes := #[] }, type := 4, pos := "law.go:107", after := #[{ on := 20, ground := Ground.chain }, { on := 20, ground := Ground.guard }], guard := some (20, true) }) rfl (fun Kx hK => ?_) AllReadyH.nil
  go_simp
  refine (live8 _).mono ?_
  rintro e y7 ⟨rfl, b7⟩
  have K7 := Lib.hid (below2Z K6.out b7)
  have D7 := Lib.hid (D.out.later K7.out)
  clear b7
  go_wp2_with fail
  refine hK.out _ _ ?_ (fun hHeld2 => ?_)
  · exact D7.out
  clear hK Kx hHeld
  have hHeld := hHeld2
  clear hHeld2
  try simp only [Act.put, List.setIfInBounds_toArray, List.set_cons_zero, List.set_cons_succ]
  refine wpAnyH_take (i := 22) (oi := { dst := some 151, op := Op.pick (Operand.tmp 149) (Operand.tmp 150) (Operand.const (Value.bool false)), type := 4, pos := "law.go:107", after := #[{ on := 20, ground := Ground.data }, { on := 21, ground := Ground.data }], guard := none }) (v := ?_) rfl (by as_aux_lemma => kernel_rfl) (by as_aux_lemma => kernel_rfl) (by as_aux_lemma => kernel_rfl) (fun _ _ _ h => h) (Or.inl ⟨by rfl, ?_⟩) (by assumption) ?_
  rotate_left
  · intro w' hSw
    try dsimp only at hSw
    go_simp
    try with_reducible rfl
  try simp only [Act.put, List.setIfInBounds_toArray, List.set_cons_zero, List.set_cons_succ]
  refine wpAnyH_take (i := 23) (oi := { dst := some 6, op := Op.assign (Operand.tmp 151), type := 4, pos := "law.go:107", after := #[{ on := 22, ground := Ground.data }, { on := 21, ground := Ground.chain }, { on := 0, ground := Ground.phase }, { on := 1, ground := Ground.phase }, { on := 2, ground := Ground.phase }, { on := 3, ground := Ground.phase }, { on := 4, ground := Ground.phase }, { on := 5, ground := Ground.phase }, { on := 6, ground := Ground.phase }, { on := 7, ground := Ground.phase }, { on := 8, ground := Ground.phase }, { on := 9, ground := Ground.phase }, { on := 10, ground := Ground.phase }, { on := 11, ground := Ground.phase }, { on := 12, ground := Ground.phase }, { on := 13, ground := Ground.phase }, { on := 14, ground := Ground.phase }, { on := 15, ground := Ground.phase }, { on := 16, ground := Ground.phase }, { on := 17, ground := Ground.phase }, { on := 18, ground := Ground.phase }, { on := 19, ground := Ground.phase }, { on := 20, ground := Ground.phase }, { on := 21, ground := Ground.phase }, { on := 22, ground := Ground.phase }], guard := none }) (v := ?_) rfl (by as_aux_lemma => kernel_rfl) (by as_aux_lemma => kernel_rfl) (by as_aux_lemma => kernel_rfl) (fun _ _ _ h => h) (Or.inl ⟨by rfl, ?_⟩) (by assumption) ?_
  rotate_left
  · intro w' hSw
    try dsimp only at hSw
    go_simp
    try with_reducible rfl
  try simp only [Act.put, List.setIfInBounds_toArray, List.set_cons_zero, List.set_cons_succ]
  refine wpAnyH_done (by kernel_rfl) ?_ _
  replace HB := Lib.hid (below2Z HB.out K7.out)
  go_wp2_with fail
  go_ret
  exact ⟨rfl, HB.out⟩

theorem walkRostOthers {w : World} {v : Value} {l : List Ent} (hv : Ents w v l) (m : RMov) (hm : rmovFit m) (zs : List (List UInt8)) (hz : zs.length = 2 ∧ ∀ z ∈ zs, z.length ≤ maxLen) :
    Calls Try.prog 6 #[v, .agg #[.int .i64 m.k, .string ⟨m.u.toArray⟩, .string ⟨m.o.toArray⟩], .agg (zs.map (fun z => Value.string ⟨z.toArray⟩)).toArray] w fun e w' => e = .returned (.bool true) ∧ Below w.heap.size w w' := by
  match zs, hz.1 with
  | [p, q], _ =>
    show Calls Try.prog 6 #[v, .agg #[.int .i64 m.k, .string ⟨m.u.toArray⟩, .string ⟨m.o.toArray⟩], .agg #[.string ⟨p.toArray⟩, .string ⟨q.toArray⟩]] w _
    cases hw : fewR l with
    | false => exact roth_1 hv m.k m.u m.o p q hw
    | true =>
      cases h8 : roMayD l with
      | false => exact roth_2 hv m.k m.u m.o p q hw h8
      | true =>
        by_cases h1 : m.u.length ≤ 40
        · by_cases h2 : m.o.length ≤ 40
          · by_cases h3 : p.length ≤ 40
            · by_cases h4 : q.length ≤ 40
              · obtain ⟨t, n, hd⟩ : ∃ t n, roDo l m.k m.u m.o = (t, n) := ⟨_, _, rfl⟩
                by_cases he : n = 0
                · subst he
                  have huo : ¬ m.u = m.o := (roDo_ok hd).2.2.2.1
                  by_cases e1 : p = m.u
                  · by_cases e2 : q = m.o
                    · exact roth_8 hv m.k m.u m.o p q hm hw h8 h1 h2 h3 h4 hd e1 e2
                    · have hn1 : ¬ (p = m.u ∧ q = m.o) := fun h => e2 h.2
                      have hn2 : ¬ (p = m.o ∧ q = m.u) := fun h => huo (e1.symm.trans h.1)
                      by_cases e3 : q = m.u
                      · exact roth_10a hv m.k m.u m.o p q hm hw h8 h1 h2 h3 h4 hd hn1 hn2 e1 e2 e3
                      · exact roth_10b hv m.k m.u m.o p q hm hw h8 h1 h2 h3 h4 hd hn1 hn2 e1 e2 e3
                  · have hn1 : ¬ (p = m.u ∧ q = m.o) := fun h => e1 h.1
                    by_cases e2 : p = m.o
                    · by_cases e3 : q = m.u
                      · exact roth_9 hv m.k m.u m.o p q hm hw h8 h1 h2 h3 h4 hd e3 e2 (fun h => e1 (h.trans e3))
                      · exact roth_11 hv m.k m.u m.o p q hm hw h8 h1 h2 h3 h4 hd hn1 (fun h => e3 h.2) e1 e2 e3
                    · by_cases e3 : q = m.u
                      · exact roth_12a hv m.k m.u m.o p q hm hw h8 h1 h2 h3 h4 hd hn1 (fun h => e2 h.1) e1 e2 e3
                      · exact roth_12b hv m.k m.u m.o p q hm hw h8 h1 h2 h3 h4 hd hn1 (fun h => e2 h.1) e1 e2 e3
                · exact roth_7 hv m.k m.u m.o p q hm hw h8 h1 h2 h3 h4 hd he
              · exact roth_6 hv m.k m.u m.o p q hw h8 h1 h2 h3 h4
            · exact roth_5 hv m.k m.u m.o p q hw h8 h1 h2 h3
          · exact roth_4 hv m.k m.u m.o p q hw h8 h1 h2
        · exact roth_3 hv m.k m.u m.o p q hw h8 h1

end Go.Proofs.Ytfkadkopolenbaa

end

section

/-
  THE FRAME OF THE PROOF OF RostOthers: for every input the law returns true, and each argument reads behind the call as it read before. No condition.
-/
namespace Go.Proofs.Ytfkadkopolenbaa.rostOthers
open Go.ChangeShapes Go.WideShapes Go.ChangeAt Go.RowKit
open Go.ChangeMaps (open_string shut_string)
set_option linter.unusedVariables false

theorem own : ownKnob Try.prog.godebug = none := by kernel_rfl
theorem laidOut : laidOutB Try.prog = true := by kernel_rfl

set_option maxRecDepth 100000 in
theorem lifted (os : Os) (started : os.Started) (H : Type) (enc : TypeId × Value → H) :
    ReturnsInHanded {} Try.checked os 6 .any (Rows.rostOthersSpec.pre6 enc Try.prog Try.f6 Rows.rostOthersRow.domain false) (Rows.rostOthersSpec.post enc Try.prog Try.f6 false true false false) := by
  refine returnsInHanded_of_change (C := Try.checked) own started (by kernel_rfl) Try.func6
    (ChangeSpec.witness6 (enc := enc) (C := Try.checked) false ⟨#[], #[.slice none 0 0, .agg #[.int .i64 0, .string ByteArray.empty, .string ByteArray.empty], .agg #[.string ByteArray.empty, .string ByteArray.empty]], []⟩ 8 (by kernel_rfl) (by kernel_rfl) (by kernel_rfl) (by kernel_rfl)) ?_
  intro W base args ds gs before hval0 hW hcnd _
  have hval : ∀ (j : Nat) t v, Try.f6.params[j]? = some t → args[j]? = some v → Value.okWide Try.prog W .any base t v := hval0
  have hW' := hW
  obtain ⟨p, q, hA0, hV, rfl, hfz, hnd⟩ := hW
  have hA : DataW.TrodAll enc Try.prog W 0 (fun _ => true) true Try.f6.params.toList args.toList ds p := hA0
  rw [Try.params6] at hA hval
  obtain ⟨v0, vs0, d0, ds0, p0, q0, hargs, rfl, rfl, h0, r0⟩ := trodAll_cons hA
  obtain ⟨v1, vs1, d1, ds1, p1, q1, rfl, rfl, rfl, h1, r1⟩ := trodAll_cons r0
  obtain ⟨v2, vs2, d2, ds2, p2, q2, rfl, rfl, rfl, h2, r2⟩ := trodAll_cons r1
  obtain ⟨rfl, rfl, rfl⟩ := trodAll_nil r2
  obtain rfl : args = #[v0, v1, v2] := by cases args; simp_all
  obtain ⟨rfl, rfl⟩ := trodVars_none hV
  have k0 := h0
  have lt0 : ∀ x ∈ p0, x.block < W.heap.size := by obtain ⟨m, hm⟩ := k0; exact DataW.trod_lt m _ _ _ hm
  obtain ⟨l0, w0⟩ := open_ents (hval 0 22 v0 rfl rfl) h0
  have k1 := h1
  have lt1 : ∀ x ∈ p1, x.block < W.heap.size := by obtain ⟨m, hm⟩ := k1; exact DataW.trod_lt m _ _ _ hm
  obtain ⟨a1, rfl, w1⟩ := open_rmove (hval 1 33 v1 rfl rfl) h1
  have k2 := h2
  have lt2 : ∀ x ∈ p2, x.block < W.heap.size := by obtain ⟨m, hm⟩ := k2; exact DataW.trod_lt m _ _ _ hm
  obtain ⟨z2, rfl, w2⟩ := open_strs_array Try.underlying43 Try.underlying9 (by kernel_rfl) (by kernel_rfl) (hval 2 43 v2 rfl rfl) h2
  clear hA0 hval0
  refine (walkRostOthers (w := W) w0 a1 w1 z2 w2).mono fun e W' ⟨he, bel⟩ => ?_
  subst he
  exact ⟨_, rfl, _, _, _, [], _, [], hW', trodAll_mk1 (shut_bool Try.underlying4 _), (trodAll_cons_mk (Below.trod laidOut (by kernel_rfl) (of_decide_eq_true (by kernel_rfl)) k0 bel lt0) (trodAll_cons_mk (Below.trod laidOut (by kernel_rfl) (of_decide_eq_true (by kernel_rfl)) k1 bel lt1) (trodAll_cons_mk (Below.trod laidOut (by kernel_rfl) (of_decide_eq_true (by kernel_rfl)) k2 bel lt2) trodAll_mk0))), rfl, bel.frame _, fun h => by cases h⟩

theorem over : Rows.rostOthersRow.holds Try.pinned (OpenSpec.ofChange Rows.rostOthersSpec) :=
  OpenClaim.holds_of_wide 6 Try.f6 rfl rfl rfl rfl rfl rfl rfl ⟨rfl, rfl, rfl, rfl, rfl⟩ rfl rfl rfl rfl rfl (by kernel_rfl) Try.func6 (by kernel_rfl)
    (of_decide_eq_true (by kernel_rfl)) (by unfold Func.isWrapper; first | (rw [if_pos (by decide +kernel)]; kernel_rfl) | (rw [if_neg (by decide +kernel)]; exact ⟨rfl, rfl⟩))
    (fun os started H enc _ => lifted os started H enc)

/-- THE STATEMENT. -/
theorem proved : Rows.RostOthersSaid := over
#print axioms proved
end Go.Proofs.Ytfkadkopolenbaa.rostOthers

end
