/-
  THE PROOF OF QueueTwo: for every input the law returns true, and each argument reads behind the call as it read before. No condition.
-/
import Derived.Test.YthlkfbiclhgdoaaQ07
import Derived.Test.YthlkfbiclhgdoaaQ05
import Derived.Test.YthlkfbiclhgdoaaQ01
import Derived.Test.YthlkfbiclhgdoaaQ03
import Derived.Deep.DeepCutAuto
import Derived.Deep.CutBlock
import Derived.Test.YthlkfbiclhgdoaaRows
import Derived.ProofKit
import Derived.OpenShut
import Derived.ShutString
import Derived.ChangeOld
import Derived.SliceStrings
import Derived.Lib.SmallJoins

section

/-
  THE WALK OF QueueTwo.
-/
namespace Go.Proofs.Ythlkfbiclhgdoaa
open Go.RowKit

theorem fewt_b2 {w : World} {v : Value} {t : List Row} (hv : Tab w v t) {r : Bool} (h : Hid (fewT t = r)) :
    Calls Try.prog 10 #[v] w fun e w' => e = .returned (.bool r) ∧ Below w.heap.size w w' :=
  (fewt_eq hv h).mono fun _ _ ⟨he, hw⟩ => ⟨he, hw ▸ Below.refl _ _⟩

theorem twelveAt {X : World} {B : Nat} {a b c d e f a' b' c' d' e' f' : Value} (h : CellsAt X B 0 [a, b, c, d, e, f, a', b', c', d', e', f']) : (X.cell? ⟨B, 0, none⟩ = some a ∧ X.cell? ⟨B, 1, none⟩ = some b ∧ X.cell? ⟨B, 2, none⟩ = some c ∧ X.cell? ⟨B, 3, none⟩ = some d ∧ X.cell? ⟨B, 4, none⟩ = some e ∧ X.cell? ⟨B, 5, none⟩ = some f) ∧ X.cell? ⟨B, 6, none⟩ = some a' ∧ X.cell? ⟨B, 7, none⟩ = some b' ∧ X.cell? ⟨B, 8, none⟩ = some c' ∧ X.cell? ⟨B, 9, none⟩ = some d' ∧ X.cell? ⟨B, 10, none⟩ = some e' ∧ X.cell? ⟨B, 11, none⟩ = some f' := by
  have k : ∀ j v, [a, b, c, d, e, f, a', b', c', d', e', f'][j]? = some v → X.cell? ⟨B, j, none⟩ = some v := fun j v hj => by
    have := h j v hj
    rwa [Nat.zero_add] at this
  exact ⟨⟨k 0 _ rfl, k 1 _ rfl, k 2 _ rfl, k 3 _ rfl, k 4 _ rfl, k 5 _ rfl⟩, k 6 _ rfl, k 7 _ rfl, k 8 _ rfl, k 9 _ rfl, k 10 _ rfl, k 11 _ rfl⟩

theorem chgs_at {W : World} {B : Nat} {l : List Chg} (hlt : B < W.heap.size) (hl : l.length ≤ 1000) (h : CellsAt W B 0 (cellsS chgVals l)) : Chgs W (.slice (some ⟨B, 0, none⟩) l.length l.length) l := by
  refine chgs_of ⟨_, _, rfl, Nat.le_refl _, by unfold maxLen; omega, (fun e => by cases e), .inr ⟨B, 0, rfl, hlt, fun i hi j u hu => ?_⟩⟩
  have hj : j < 6 := by have := (List.getElem?_eq_some_iff.1 hu).1; rwa [chgVals_len] at this
  have := h (i * 6 + j) u (by rw [cellsS_at chgOK.len Chg.zero l i j hi hj]; exact hu)
  rwa [Nat.zero_add] at this ⊢

theorem fewC_both {a b : Chg} (h : fewC [a, b] 2 = true) : (a.c.length ≤ 4294967296 ∧ a.v.st.length ≤ 4294967296) ∧ b.c.length ≤ 4294967296 ∧ b.v.st.length ≤ 4294967296 := by
  have h1 := (fewC_get h).2 a (by simp)
  have h2 := (fewC_get h).2 b (by simp)
  omega

theorem push_short {q : Que} {c : Chg} {p : List Chg} {pa : Bool} (hl : q.l.length ≤ 16) (h : quPush q c 16 = ⟨p, pa⟩) : p.length ≤ 16 := by
  have := quPush_len (q := q) (c := c) (room := 16) (by omega)
  rw [h] at this
  simp only at this
  omega

theorem push_lat (l : List Chg) (c : Chg) (room : Int) : quPush ⟨l, true⟩ c room = ⟨l, true⟩ := by
  unfold quPush
  rw [if_pos rfl]

set_option maxHeartbeats 6400000 in
set_option maxRecDepth 100000 in
theorem qtw_1 {w : World} {v vt : Value} {l : List Chg} {t : List Row} (hv : Chgs w v l) (la : Bool) (ht : Tab w vt t) (xc xs yc ys : List UInt8) (xo yo : Bool) (xa xb xd ya yb yd : Int) (hs : fewC l 30 = false) :
    Calls Try.prog 7 #[.agg #[v, .bool la], vt, .agg #[.string ⟨xc.toArray⟩, .bool xo, .int .i64 xa, .int .i64 xb, .int .i64 xd, .string ⟨xs.toArray⟩, .string ⟨yc.toArray⟩, .bool yo, .int .i64 ya, .int .i64 yb, .int .i64 yd, .string ⟨ys.toArray⟩]] w fun e w' => e = .returned (.bool true) ∧ Below w.heap.size w w' := by
  obtain ⟨ao, cap, rfl, _hmx⟩ := hv.open'
  obtain ⟨at_, ct, rfl, _hmt⟩ := ht.open'
  have b0 := bl_newZ w (.cells #[.slice ao l.length cap, .bool la] 24)
  have b00 := bl_newZ (w.alloc (.cells #[.slice ao l.length cap, .bool la] 24)) (.cells #[.string ⟨xc.toArray⟩, .bool xo, .int .i64 xa, .int .i64 xb, .int .i64 xd, .string ⟨xs.toArray⟩, .string ⟨yc.toArray⟩, .bool yo, .int .i64 ya, .int .i64 yb, .int .i64 yd, .string ⟨ys.toArray⟩] 49)
  have HB := Lib.hid (below2Z b0 b00)
  have V := Lib.hid ((hv.later b0).later b00)
  have T := Lib.hid ((ht.later b0).later b00)
  have A := Lib.hid ((cellsAt_made (w := w) (cs := #[.slice ao l.length cap, .bool la]) (vs := [.slice ao l.length cap, .bool la]) rfl 24 rfl).later b00)
  have C := Lib.hid (cellsAt_made (w := w.alloc (.cells #[.slice ao l.length cap, .bool la] 24)) (cs := #[.string ⟨xc.toArray⟩, .bool xo, .int .i64 xa, .int .i64 xb, .int .i64 xd, .string ⟨xs.toArray⟩, .string ⟨yc.toArray⟩, .bool yo, .int .i64 ya, .int .i64 yb, .int .i64 yd, .string ⟨ys.toArray⟩]) (vs := [.string ⟨xc.toArray⟩, .bool xo, .int .i64 xa, .int .i64 xb, .int .i64 xd, .string ⟨xs.toArray⟩, .string ⟨yc.toArray⟩, .bool yo, .int .i64 ya, .int .i64 yb, .int .i64 yd, .string ⟨ys.toArray⟩]) rfl 49 (B := w.heap.size + 1) (by simp))
  have S1 : Hid (Chgs ((w.alloc (.cells #[.slice ao l.length cap, .bool la] 24)).alloc (.cells #[.string ⟨xc.toArray⟩, .bool xo, .int .i64 xa, .int .i64 xb, .int .i64 xd, .string ⟨xs.toArray⟩, .string ⟨yc.toArray⟩, .bool yo, .int .i64 ya, .int .i64 yb, .int .i64 yd, .string ⟨ys.toArray⟩] 49)) (.slice (some ⟨w.heap.size + 1, 0, none⟩) 2 2) [⟨xc, xo, ⟨xa, xb, xd, xs⟩⟩, ⟨yc, yo, ⟨ya, yb, yd, ys⟩⟩]) := Lib.hid (chgs_at (l := [⟨xc, xo, ⟨xa, xb, xd, xs⟩⟩, ⟨yc, yo, ⟨ya, yb, yd, ys⟩⟩]) (by rw [World.size_alloc, World.size_alloc]; omega) (by simp) C.out)
  clear b0 b00 hv ht
  have H1 := Lib.hid hs
  clear hs
  obtain ⟨q0, q1⟩ := twoAt A.out
  go_enter Try.func7, Try.ntmps7
  go_wp2_with fail
  clear q0 q1
  refine (fewq_any V.out la H1).mono ?_
  rintro e w1 ⟨rfl, b1⟩
  replace V := Lib.hid (V.out.later b1)
  replace T := Lib.hid (T.out.later b1)
  replace A := Lib.hid (A.out.later b1)
  replace C := Lib.hid (C.out.later b1)
  replace S1 := Lib.hid (S1.out.later b1)
  replace HB := Lib.hid (below2Z HB.out b1)
  clear b1
  go_wp2_with fail
  refine (live17 _).mono ?_
  rintro e w2 ⟨rfl, b2⟩
  replace V := Lib.hid (V.out.later b2)
  replace T := Lib.hid (T.out.later b2)
  replace A := Lib.hid (A.out.later b2)
  replace C := Lib.hid (C.out.later b2)
  replace S1 := Lib.hid (S1.out.later b2)
  replace HB := Lib.hid (below2Z HB.out b2)
  clear b2
  go_wp2_with fail
  go_ret
  exact ⟨rfl, HB.out⟩

set_option maxHeartbeats 6400000 in
set_option maxRecDepth 100000 in
theorem qtw_2 {w : World} {v vt : Value} {l : List Chg} {t : List Row} (hv : Chgs w v l) (la : Bool) (ht : Tab w vt t) (xc xs yc ys : List UInt8) (xo yo : Bool) (xa xb xd ya yb yd : Int) (hs : fewC l 30 = true) (hm : quMay ⟨l, la⟩ 14 = false) :
    Calls Try.prog 7 #[.agg #[v, .bool la], vt, .agg #[.string ⟨xc.toArray⟩, .bool xo, .int .i64 xa, .int .i64 xb, .int .i64 xd, .string ⟨xs.toArray⟩, .string ⟨yc.toArray⟩, .bool yo, .int .i64 ya, .int .i64 yb, .int .i64 yd, .string ⟨ys.toArray⟩]] w fun e w' => e = .returned (.bool true) ∧ Below w.heap.size w w' := by
  obtain ⟨ao, cap, rfl, _hmx⟩ := hv.open'
  obtain ⟨at_, ct, rfl, _hmt⟩ := ht.open'
  have b0 := bl_newZ w (.cells #[.slice ao l.length cap, .bool la] 24)
  have b00 := bl_newZ (w.alloc (.cells #[.slice ao l.length cap, .bool la] 24)) (.cells #[.string ⟨xc.toArray⟩, .bool xo, .int .i64 xa, .int .i64 xb, .int .i64 xd, .string ⟨xs.toArray⟩, .string ⟨yc.toArray⟩, .bool yo, .int .i64 ya, .int .i64 yb, .int .i64 yd, .string ⟨ys.toArray⟩] 49)
  have HB := Lib.hid (below2Z b0 b00)
  have V := Lib.hid ((hv.later b0).later b00)
  have T := Lib.hid ((ht.later b0).later b00)
  have A := Lib.hid ((cellsAt_made (w := w) (cs := #[.slice ao l.length cap, .bool la]) (vs := [.slice ao l.length cap, .bool la]) rfl 24 rfl).later b00)
  have C := Lib.hid (cellsAt_made (w := w.alloc (.cells #[.slice ao l.length cap, .bool la] 24)) (cs := #[.string ⟨xc.toArray⟩, .bool xo, .int .i64 xa, .int .i64 xb, .int .i64 xd, .string ⟨xs.toArray⟩, .string ⟨yc.toArray⟩, .bool yo, .int .i64 ya, .int .i64 yb, .int .i64 yd, .string ⟨ys.toArray⟩]) (vs := [.string ⟨xc.toArray⟩, .bool xo, .int .i64 xa, .int .i64 xb, .int .i64 xd, .string ⟨xs.toArray⟩, .string ⟨yc.toArray⟩, .bool yo, .int .i64 ya, .int .i64 yb, .int .i64 yd, .string ⟨ys.toArray⟩]) rfl 49 (B := w.heap.size + 1) (by simp))
  have S1 : Hid (Chgs ((w.alloc (.cells #[.slice ao l.length cap, .bool la] 24)).alloc (.cells #[.string ⟨xc.toArray⟩, .bool xo, .int .i64 xa, .int .i64 xb, .int .i64 xd, .string ⟨xs.toArray⟩, .string ⟨yc.toArray⟩, .bool yo, .int .i64 ya, .int .i64 yb, .int .i64 yd, .string ⟨ys.toArray⟩] 49)) (.slice (some ⟨w.heap.size + 1, 0, none⟩) 2 2) [⟨xc, xo, ⟨xa, xb, xd, xs⟩⟩, ⟨yc, yo, ⟨ya, yb, yd, ys⟩⟩]) := Lib.hid (chgs_at (l := [⟨xc, xo, ⟨xa, xb, xd, xs⟩⟩, ⟨yc, yo, ⟨ya, yb, yd, ys⟩⟩]) (by rw [World.size_alloc, World.size_alloc]; omega) (by simp) C.out)
  clear b0 b00 hv ht
  have hl30 := (fewC_get hs).1
  have H1 := Lib.hid hs
  have H2 := Lib.hid hm
  clear hs hm
  obtain ⟨q0, q1⟩ := twoAt A.out
  go_enter Try.func7, Try.ntmps7
  go_wp2_with fail
  clear q0 q1
  refine (fewq_any V.out la H1).mono ?_
  rintro e w1 ⟨rfl, b1⟩
  replace V := Lib.hid (V.out.later b1)
  replace T := Lib.hid (T.out.later b1)
  replace A := Lib.hid (A.out.later b1)
  replace C := Lib.hid (C.out.later b1)
  replace S1 := Lib.hid (S1.out.later b1)
  replace HB := Lib.hid (below2Z HB.out b1)
  clear b1
  obtain ⟨q0, q1⟩ := twoAt A.out
  go_wp2_with fail
  clear q0 q1
  refine (rqumay_any V.out (fewC_short H1.out) (by omega) la H2).mono ?_
  rintro e w2 ⟨rfl, b2⟩
  replace V := Lib.hid (V.out.later b2)
  replace T := Lib.hid (T.out.later b2)
  replace A := Lib.hid (A.out.later b2)
  replace C := Lib.hid (C.out.later b2)
  replace S1 := Lib.hid (S1.out.later b2)
  replace HB := Lib.hid (below2Z HB.out b2)
  clear b2
  go_wp2_with fail
  refine (live17 _).mono ?_
  rintro e w3 ⟨rfl, b3⟩
  replace V := Lib.hid (V.out.later b3)
  replace T := Lib.hid (T.out.later b3)
  replace A := Lib.hid (A.out.later b3)
  replace C := Lib.hid (C.out.later b3)
  replace S1 := Lib.hid (S1.out.later b3)
  replace HB := Lib.hid (below2Z HB.out b3)
  clear b3
  go_wp2_with fail
  go_ret
  exact ⟨rfl, HB.out⟩

set_option maxHeartbeats 6400000 in
set_option maxRecDepth 100000 in
theorem qtw_3 {w : World} {v vt : Value} {l : List Chg} {t : List Row} (hv : Chgs w v l) (la : Bool) (ht : Tab w vt t) (xc xs yc ys : List UInt8) (xo yo : Bool) (xa xb xd ya yb yd : Int) (hs : fewC l 30 = true) (hm : quMay ⟨l, la⟩ 14 = true) (hf : fewT t = false) :
    Calls Try.prog 7 #[.agg #[v, .bool la], vt, .agg #[.string ⟨xc.toArray⟩, .bool xo, .int .i64 xa, .int .i64 xb, .int .i64 xd, .string ⟨xs.toArray⟩, .string ⟨yc.toArray⟩, .bool yo, .int .i64 ya, .int .i64 yb, .int .i64 yd, .string ⟨ys.toArray⟩]] w fun e w' => e = .returned (.bool true) ∧ Below w.heap.size w w' := by
  obtain ⟨ao, cap, rfl, _hmx⟩ := hv.open'
  obtain ⟨at_, ct, rfl, _hmt⟩ := ht.open'
  have b0 := bl_newZ w (.cells #[.slice ao l.length cap, .bool la] 24)
  have b00 := bl_newZ (w.alloc (.cells #[.slice ao l.length cap, .bool la] 24)) (.cells #[.string ⟨xc.toArray⟩, .bool xo, .int .i64 xa, .int .i64 xb, .int .i64 xd, .string ⟨xs.toArray⟩, .string ⟨yc.toArray⟩, .bool yo, .int .i64 ya, .int .i64 yb, .int .i64 yd, .string ⟨ys.toArray⟩] 49)
  have HB := Lib.hid (below2Z b0 b00)
  have V := Lib.hid ((hv.later b0).later b00)
  have T := Lib.hid ((ht.later b0).later b00)
  have A := Lib.hid ((cellsAt_made (w := w) (cs := #[.slice ao l.length cap, .bool la]) (vs := [.slice ao l.length cap, .bool la]) rfl 24 rfl).later b00)
  have C := Lib.hid (cellsAt_made (w := w.alloc (.cells #[.slice ao l.length cap, .bool la] 24)) (cs := #[.string ⟨xc.toArray⟩, .bool xo, .int .i64 xa, .int .i64 xb, .int .i64 xd, .string ⟨xs.toArray⟩, .string ⟨yc.toArray⟩, .bool yo, .int .i64 ya, .int .i64 yb, .int .i64 yd, .string ⟨ys.toArray⟩]) (vs := [.string ⟨xc.toArray⟩, .bool xo, .int .i64 xa, .int .i64 xb, .int .i64 xd, .string ⟨xs.toArray⟩, .string ⟨yc.toArray⟩, .bool yo, .int .i64 ya, .int .i64 yb, .int .i64 yd, .string ⟨ys.toArray⟩]) rfl 49 (B := w.heap.size + 1) (by simp))
  have S1 : Hid (Chgs ((w.alloc (.cells #[.slice ao l.length cap, .bool la] 24)).alloc (.cells #[.string ⟨xc.toArray⟩, .bool xo, .int .i64 xa, .int .i64 xb, .int .i64 xd, .string ⟨xs.toArray⟩, .string ⟨yc.toArray⟩, .bool yo, .int .i64 ya, .int .i64 yb, .int .i64 yd, .string ⟨ys.toArray⟩] 49)) (.slice (some ⟨w.heap.size + 1, 0, none⟩) 2 2) [⟨xc, xo, ⟨xa, xb, xd, xs⟩⟩, ⟨yc, yo, ⟨ya, yb, yd, ys⟩⟩]) := Lib.hid (chgs_at (l := [⟨xc, xo, ⟨xa, xb, xd, xs⟩⟩, ⟨yc, yo, ⟨ya, yb, yd, ys⟩⟩]) (by rw [World.size_alloc, World.size_alloc]; omega) (by simp) C.out)
  clear b0 b00 hv ht
  have hl30 := (fewC_get hs).1
  have H1 := Lib.hid hs
  have H2 := Lib.hid hm
  have H3 := Lib.hid hf
  clear hs hm hf
  obtain ⟨q0, q1⟩ := twoAt A.out
  go_enter Try.func7, Try.ntmps7
  go_wp2_with fail
  clear q0 q1
  refine (fewq_any V.out la H1).mono ?_
  rintro e w1 ⟨rfl, b1⟩
  replace V := Lib.hid (V.out.later b1)
  replace T := Lib.hid (T.out.later b1)
  replace A := Lib.hid (A.out.later b1)
  replace C := Lib.hid (C.out.later b1)
  replace S1 := Lib.hid (S1.out.later b1)
  replace HB := Lib.hid (below2Z HB.out b1)
  clear b1
  obtain ⟨q0, q1⟩ := twoAt A.out
  go_wp2_with fail
  clear q0 q1
  refine (rqumay_any V.out (fewC_short H1.out) (by omega) la H2).mono ?_
  rintro e w2 ⟨rfl, b2⟩
  replace V := Lib.hid (V.out.later b2)
  replace T := Lib.hid (T.out.later b2)
  replace A := Lib.hid (A.out.later b2)
  replace C := Lib.hid (C.out.later b2)
  replace S1 := Lib.hid (S1.out.later b2)
  replace HB := Lib.hid (below2Z HB.out b2)
  clear b2
  go_wp2_with fail
  refine (fewt_b2 T.out H3).mono ?_
  rintro e w3 ⟨rfl, b3⟩
  replace V := Lib.hid (V.out.later b3)
  replace T := Lib.hid (T.out.later b3)
  replace A := Lib.hid (A.out.later b3)
  replace C := Lib.hid (C.out.later b3)
  replace S1 := Lib.hid (S1.out.later b3)
  replace HB := Lib.hid (below2Z HB.out b3)
  clear b3
  go_wp2_with fail
  refine (live17 _).mono ?_
  rintro e w4 ⟨rfl, b4⟩
  replace V := Lib.hid (V.out.later b4)
  replace T := Lib.hid (T.out.later b4)
  replace A := Lib.hid (A.out.later b4)
  replace C := Lib.hid (C.out.later b4)
  replace S1 := Lib.hid (S1.out.later b4)
  replace HB := Lib.hid (below2Z HB.out b4)
  clear b4
  go_wp2_with fail
  go_ret
  exact ⟨rfl, HB.out⟩

set_option maxHeartbeats 6400000 in
set_option maxRecDepth 100000 in
theorem qtw_4 {w : World} {v vt : Value} {l : List Chg} {t : List Row} (hv : Chgs w v l) (la : Bool) (ht : Tab w vt t) (xc xs yc ys : List UInt8) (xo yo : Bool) (xa xb xd ya yb yd : Int) (hs : fewC l 30 = true) (hm : quMay ⟨l, la⟩ 14 = true) (hf : fewT t = true) (hd : diMay t = false) :
    Calls Try.prog 7 #[.agg #[v, .bool la], vt, .agg #[.string ⟨xc.toArray⟩, .bool xo, .int .i64 xa, .int .i64 xb, .int .i64 xd, .string ⟨xs.toArray⟩, .string ⟨yc.toArray⟩, .bool yo, .int .i64 ya, .int .i64 yb, .int .i64 yd, .string ⟨ys.toArray⟩]] w fun e w' => e = .returned (.bool true) ∧ Below w.heap.size w w' := by
  obtain ⟨ao, cap, rfl, _hmx⟩ := hv.open'
  obtain ⟨at_, ct, rfl, _hmt⟩ := ht.open'
  have b0 := bl_newZ w (.cells #[.slice ao l.length cap, .bool la] 24)
  have b00 := bl_newZ (w.alloc (.cells #[.slice ao l.length cap, .bool la] 24)) (.cells #[.string ⟨xc.toArray⟩, .bool xo, .int .i64 xa, .int .i64 xb, .int .i64 xd, .string ⟨xs.toArray⟩, .string ⟨yc.toArray⟩, .bool yo, .int .i64 ya, .int .i64 yb, .int .i64 yd, .string ⟨ys.toArray⟩] 49)
  have HB := Lib.hid (below2Z b0 b00)
  have V := Lib.hid ((hv.later b0).later b00)
  have T := Lib.hid ((ht.later b0).later b00)
  have A := Lib.hid ((cellsAt_made (w := w) (cs := #[.slice ao l.length cap, .bool la]) (vs := [.slice ao l.length cap, .bool la]) rfl 24 rfl).later b00)
  have C := Lib.hid (cellsAt_made (w := w.alloc (.cells #[.slice ao l.length cap, .bool la] 24)) (cs := #[.string ⟨xc.toArray⟩, .bool xo, .int .i64 xa, .int .i64 xb, .int .i64 xd, .string ⟨xs.toArray⟩, .string ⟨yc.toArray⟩, .bool yo, .int .i64 ya, .int .i64 yb, .int .i64 yd, .string ⟨ys.toArray⟩]) (vs := [.string ⟨xc.toArray⟩, .bool xo, .int .i64 xa, .int .i64 xb, .int .i64 xd, .string ⟨xs.toArray⟩, .string ⟨yc.toArray⟩, .bool yo, .int .i64 ya, .int .i64 yb, .int .i64 yd, .string ⟨ys.toArray⟩]) rfl 49 (B := w.heap.size + 1) (by simp))
  have S1 : Hid (Chgs ((w.alloc (.cells #[.slice ao l.length cap, .bool la] 24)).alloc (.cells #[.string ⟨xc.toArray⟩, .bool xo, .int .i64 xa, .int .i64 xb, .int .i64 xd, .string ⟨xs.toArray⟩, .string ⟨yc.toArray⟩, .bool yo, .int .i64 ya, .int .i64 yb, .int .i64 yd, .string ⟨ys.toArray⟩] 49)) (.slice (some ⟨w.heap.size + 1, 0, none⟩) 2 2) [⟨xc, xo, ⟨xa, xb, xd, xs⟩⟩, ⟨yc, yo, ⟨ya, yb, yd, ys⟩⟩]) := Lib.hid (chgs_at (l := [⟨xc, xo, ⟨xa, xb, xd, xs⟩⟩, ⟨yc, yo, ⟨ya, yb, yd, ys⟩⟩]) (by rw [World.size_alloc, World.size_alloc]; omega) (by simp) C.out)
  clear b0 b00 hv ht
  have hl30 := (fewC_get hs).1
  have hlt0 := (fewT_yes hf).1
  have HSH := Lib.hid (fewT_short hf)
  have H1 := Lib.hid hs
  have H2 := Lib.hid hm
  have H3 := Lib.hid hf
  have H4 := Lib.hid hd
  clear hs hm hf hd
  obtain ⟨q0, q1⟩ := twoAt A.out
  go_enter Try.func7, Try.ntmps7
  go_wp2_with fail
  clear q0 q1
  refine (fewq_any V.out la H1).mono ?_
  rintro e w1 ⟨rfl, b1⟩
  replace V := Lib.hid (V.out.later b1)
  replace T := Lib.hid (T.out.later b1)
  replace A := Lib.hid (A.out.later b1)
  replace C := Lib.hid (C.out.later b1)
  replace S1 := Lib.hid (S1.out.later b1)
  replace HB := Lib.hid (below2Z HB.out b1)
  clear b1
  obtain ⟨q0, q1⟩ := twoAt A.out
  go_wp2_with fail
  clear q0 q1
  refine (rqumay_any V.out (fewC_short H1.out) (by omega) la H2).mono ?_
  rintro e w2 ⟨rfl, b2⟩
  replace V := Lib.hid (V.out.later b2)
  replace T := Lib.hid (T.out.later b2)
  replace A := Lib.hid (A.out.later b2)
  replace C := Lib.hid (C.out.later b2)
  replace S1 := Lib.hid (S1.out.later b2)
  replace HB := Lib.hid (below2Z HB.out b2)
  clear b2
  go_wp2_with fail
  refine (fewt_b2 T.out H3).mono ?_
  rintro e w3 ⟨rfl, b3⟩
  replace V := Lib.hid (V.out.later b3)
  replace T := Lib.hid (T.out.later b3)
  replace A := Lib.hid (A.out.later b3)
  replace C := Lib.hid (C.out.later b3)
  replace S1 := Lib.hid (S1.out.later b3)
  replace HB := Lib.hid (below2Z HB.out b3)
  clear b3
  go_wp2_with fail
  refine (rdimay_eq T.out HSH.out H4).mono ?_
  rintro e w4 ⟨rfl, b4⟩
  replace V := Lib.hid (V.out.later b4)
  replace T := Lib.hid (T.out.later b4)
  replace A := Lib.hid (A.out.later b4)
  replace C := Lib.hid (C.out.later b4)
  replace S1 := Lib.hid (S1.out.later b4)
  replace HB := Lib.hid (below2Z HB.out b4)
  clear b4
  go_wp2_with fail
  refine (live17 _).mono ?_
  rintro e w5 ⟨rfl, b5⟩
  replace V := Lib.hid (V.out.later b5)
  replace T := Lib.hid (T.out.later b5)
  replace A := Lib.hid (A.out.later b5)
  replace C := Lib.hid (C.out.later b5)
  replace S1 := Lib.hid (S1.out.later b5)
  replace HB := Lib.hid (below2Z HB.out b5)
  clear b5
  go_wp2_with fail
  go_ret
  exact ⟨rfl, HB.out⟩

set_option maxHeartbeats 6400000 in
set_option maxRecDepth 100000 in
theorem qtw_5 {w : World} {v vt : Value} {l : List Chg} {t : List Row} (hv : Chgs w v l) (la : Bool) (ht : Tab w vt t) (xc xs yc ys : List UInt8) (xo yo : Bool) (xa xb xd ya yb yd : Int) (hs : fewC l 30 = true) (hm : quMay ⟨l, la⟩ 14 = true) (hf : fewT t = true) (hd : diMay t = true) (hc : fewC [⟨xc, xo, ⟨xa, xb, xd, xs⟩⟩, ⟨yc, yo, ⟨ya, yb, yd, ys⟩⟩] 2 = false) :
    Calls Try.prog 7 #[.agg #[v, .bool la], vt, .agg #[.string ⟨xc.toArray⟩, .bool xo, .int .i64 xa, .int .i64 xb, .int .i64 xd, .string ⟨xs.toArray⟩, .string ⟨yc.toArray⟩, .bool yo, .int .i64 ya, .int .i64 yb, .int .i64 yd, .string ⟨ys.toArray⟩]] w fun e w' => e = .returned (.bool true) ∧ Below w.heap.size w w' := by
  obtain ⟨ao, cap, rfl, _hmx⟩ := hv.open'
  obtain ⟨at_, ct, rfl, _hmt⟩ := ht.open'
  have b0 := bl_newZ w (.cells #[.slice ao l.length cap, .bool la] 24)
  have b00 := bl_newZ (w.alloc (.cells #[.slice ao l.length cap, .bool la] 24)) (.cells #[.string ⟨xc.toArray⟩, .bool xo, .int .i64 xa, .int .i64 xb, .int .i64 xd, .string ⟨xs.toArray⟩, .string ⟨yc.toArray⟩, .bool yo, .int .i64 ya, .int .i64 yb, .int .i64 yd, .string ⟨ys.toArray⟩] 49)
  have HB := Lib.hid (below2Z b0 b00)
  have V := Lib.hid ((hv.later b0).later b00)
  have T := Lib.hid ((ht.later b0).later b00)
  have A := Lib.hid ((cellsAt_made (w := w) (cs := #[.slice ao l.length cap, .bool la]) (vs := [.slice ao l.length cap, .bool la]) rfl 24 rfl).later b00)
  have C := Lib.hid (cellsAt_made (w := w.alloc (.cells #[.slice ao l.length cap, .bool la] 24)) (cs := #[.string ⟨xc.toArray⟩, .bool xo, .int .i64 xa, .int .i64 xb, .int .i64 xd, .string ⟨xs.toArray⟩, .string ⟨yc.toArray⟩, .bool yo, .int .i64 ya, .int .i64 yb, .int .i64 yd, .string ⟨ys.toArray⟩]) (vs := [.string ⟨xc.toArray⟩, .bool xo, .int .i64 xa, .int .i64 xb, .int .i64 xd, .string ⟨xs.toArray⟩, .string ⟨yc.toArray⟩, .bool yo, .int .i64 ya, .int .i64 yb, .int .i64 yd, .string ⟨ys.toArray⟩]) rfl 49 (B := w.heap.size + 1) (by simp))
  have S1 : Hid (Chgs ((w.alloc (.cells #[.slice ao l.length cap, .bool la] 24)).alloc (.cells #[.string ⟨xc.toArray⟩, .bool xo, .int .i64 xa, .int .i64 xb, .int .i64 xd, .string ⟨xs.toArray⟩, .string ⟨yc.toArray⟩, .bool yo, .int .i64 ya, .int .i64 yb, .int .i64 yd, .string ⟨ys.toArray⟩] 49)) (.slice (some ⟨w.heap.size + 1, 0, none⟩) 2 2) [⟨xc, xo, ⟨xa, xb, xd, xs⟩⟩, ⟨yc, yo, ⟨ya, yb, yd, ys⟩⟩]) := Lib.hid (chgs_at (l := [⟨xc, xo, ⟨xa, xb, xd, xs⟩⟩, ⟨yc, yo, ⟨ya, yb, yd, ys⟩⟩]) (by rw [World.size_alloc, World.size_alloc]; omega) (by simp) C.out)
  clear b0 b00 hv ht
  have hl30 := (fewC_get hs).1
  have hlt0 := (fewT_yes hf).1
  have HSH := Lib.hid (fewT_short hf)
  have H1 := Lib.hid hs
  have H2 := Lib.hid hm
  have H3 := Lib.hid hf
  have H4 := Lib.hid hd
  have H5 := Lib.hid hc
  clear hs hm hf hd hc
  obtain ⟨q0, q1⟩ := twoAt A.out
  go_enter Try.func7, Try.ntmps7
  go_wp2_with fail
  clear q0 q1
  refine (fewq_any V.out la H1).mono ?_
  rintro e w1 ⟨rfl, b1⟩
  replace V := Lib.hid (V.out.later b1)
  replace T := Lib.hid (T.out.later b1)
  replace A := Lib.hid (A.out.later b1)
  replace C := Lib.hid (C.out.later b1)
  replace S1 := Lib.hid (S1.out.later b1)
  replace HB := Lib.hid (below2Z HB.out b1)
  clear b1
  obtain ⟨q0, q1⟩ := twoAt A.out
  go_wp2_with fail
  clear q0 q1
  refine (rqumay_any V.out (fewC_short H1.out) (by omega) la H2).mono ?_
  rintro e w2 ⟨rfl, b2⟩
  replace V := Lib.hid (V.out.later b2)
  replace T := Lib.hid (T.out.later b2)
  replace A := Lib.hid (A.out.later b2)
  replace C := Lib.hid (C.out.later b2)
  replace S1 := Lib.hid (S1.out.later b2)
  replace HB := Lib.hid (below2Z HB.out b2)
  clear b2
  go_wp2_with fail
  refine (fewt_b2 T.out H3).mono ?_
  rintro e w3 ⟨rfl, b3⟩
  replace V := Lib.hid (V.out.later b3)
  replace T := Lib.hid (T.out.later b3)
  replace A := Lib.hid (A.out.later b3)
  replace C := Lib.hid (C.out.later b3)
  replace S1 := Lib.hid (S1.out.later b3)
  replace HB := Lib.hid (below2Z HB.out b3)
  clear b3
  go_wp2_with fail
  refine (rdimay_eq T.out HSH.out H4).mono ?_
  rintro e w4 ⟨rfl, b4⟩
  replace V := Lib.hid (V.out.later b4)
  replace T := Lib.hid (T.out.later b4)
  replace A := Lib.hid (A.out.later b4)
  replace C := Lib.hid (C.out.later b4)
  replace S1 := Lib.hid (S1.out.later b4)
  replace HB := Lib.hid (below2Z HB.out b4)
  clear b4
  go_wp2_with fail
  refine (fewc_any S1.out 2 H5).mono ?_
  rintro e w5 ⟨rfl, b5⟩
  replace V := Lib.hid (V.out.later b5)
  replace T := Lib.hid (T.out.later b5)
  replace A := Lib.hid (A.out.later b5)
  replace C := Lib.hid (C.out.later b5)
  replace S1 := Lib.hid (S1.out.later b5)
  replace HB := Lib.hid (below2Z HB.out b5)
  clear b5
  go_wp2_with fail
  refine (live17 _).mono ?_
  rintro e w6 ⟨rfl, b6⟩
  replace V := Lib.hid (V.out.later b6)
  replace T := Lib.hid (T.out.later b6)
  replace A := Lib.hid (A.out.later b6)
  replace C := Lib.hid (C.out.later b6)
  replace S1 := Lib.hid (S1.out.later b6)
  replace HB := Lib.hid (below2Z HB.out b6)
  clear b6
  go_wp2_with fail
  go_ret
  exact ⟨rfl, HB.out⟩

set_option maxHeartbeats 6400000 in
set_option maxRecDepth 100000 in
theorem qtw_6 {w : World} {v vt : Value} {l : List Chg} {t : List Row} (hv : Chgs w v l) (la : Bool) (ht : Tab w vt t) (xc xs yc ys : List UInt8) (xo yo : Bool) (xa xb xd ya yb yd : Int) (hs : fewC l 30 = true) (hm : quMay ⟨l, la⟩ 14 = true) (hf : fewT t = true) (hd : diMay t = true) (hc : fewC [⟨xc, xo, ⟨xa, xb, xd, xs⟩⟩, ⟨yc, yo, ⟨ya, yb, yd, ys⟩⟩] 2 = true) (h6 : quOne ⟨xc, xo, ⟨xa, xb, xd, xs⟩⟩ = false) :
    Calls Try.prog 7 #[.agg #[v, .bool la], vt, .agg #[.string ⟨xc.toArray⟩, .bool xo, .int .i64 xa, .int .i64 xb, .int .i64 xd, .string ⟨xs.toArray⟩, .string ⟨yc.toArray⟩, .bool yo, .int .i64 ya, .int .i64 yb, .int .i64 yd, .string ⟨ys.toArray⟩]] w fun e w' => e = .returned (.bool true) ∧ Below w.heap.size w w' := by
  obtain ⟨ao, cap, rfl, _hmx⟩ := hv.open'
  obtain ⟨at_, ct, rfl, _hmt⟩ := ht.open'
  have b0 := bl_newZ w (.cells #[.slice ao l.length cap, .bool la] 24)
  have b00 := bl_newZ (w.alloc (.cells #[.slice ao l.length cap, .bool la] 24)) (.cells #[.string ⟨xc.toArray⟩, .bool xo, .int .i64 xa, .int .i64 xb, .int .i64 xd, .string ⟨xs.toArray⟩, .string ⟨yc.toArray⟩, .bool yo, .int .i64 ya, .int .i64 yb, .int .i64 yd, .string ⟨ys.toArray⟩] 49)
  have HB := Lib.hid (below2Z b0 b00)
  have V := Lib.hid ((hv.later b0).later b00)
  have T := Lib.hid ((ht.later b0).later b00)
  have A := Lib.hid ((cellsAt_made (w := w) (cs := #[.slice ao l.length cap, .bool la]) (vs := [.slice ao l.length cap, .bool la]) rfl 24 rfl).later b00)
  have C := Lib.hid (cellsAt_made (w := w.alloc (.cells #[.slice ao l.length cap, .bool la] 24)) (cs := #[.string ⟨xc.toArray⟩, .bool xo, .int .i64 xa, .int .i64 xb, .int .i64 xd, .string ⟨xs.toArray⟩, .string ⟨yc.toArray⟩, .bool yo, .int .i64 ya, .int .i64 yb, .int .i64 yd, .string ⟨ys.toArray⟩]) (vs := [.string ⟨xc.toArray⟩, .bool xo, .int .i64 xa, .int .i64 xb, .int .i64 xd, .string ⟨xs.toArray⟩, .string ⟨yc.toArray⟩, .bool yo, .int .i64 ya, .int .i64 yb, .int .i64 yd, .string ⟨ys.toArray⟩]) rfl 49 (B := w.heap.size + 1) (by simp))
  have S1 : Hid (Chgs ((w.alloc (.cells #[.slice ao l.length cap, .bool la] 24)).alloc (.cells #[.string ⟨xc.toArray⟩, .bool xo, .int .i64 xa, .int .i64 xb, .int .i64 xd, .string ⟨xs.toArray⟩, .string ⟨yc.toArray⟩, .bool yo, .int .i64 ya, .int .i64 yb, .int .i64 yd, .string ⟨ys.toArray⟩] 49)) (.slice (some ⟨w.heap.size + 1, 0, none⟩) 2 2) [⟨xc, xo, ⟨xa, xb, xd, xs⟩⟩, ⟨yc, yo, ⟨ya, yb, yd, ys⟩⟩]) := Lib.hid (chgs_at (l := [⟨xc, xo, ⟨xa, xb, xd, xs⟩⟩, ⟨yc, yo, ⟨ya, yb, yd, ys⟩⟩]) (by rw [World.size_alloc, World.size_alloc]; omega) (by simp) C.out)
  clear b0 b00 hv ht
  have hl30 := (fewC_get hs).1
  have hlt0 := (fewT_yes hf).1
  have HSH := Lib.hid (fewT_short hf)
  have HC := Lib.hid (fewC_both hc)
  have H1 := Lib.hid hs
  have H2 := Lib.hid hm
  have H3 := Lib.hid hf
  have H4 := Lib.hid hd
  have H5 := Lib.hid hc
  have H6 := Lib.hid h6
  clear hs hm hf hd hc h6
  obtain ⟨q0, q1⟩ := twoAt A.out
  go_enter Try.func7, Try.ntmps7
  go_wp2_with fail
  clear q0 q1
  refine (fewq_any V.out la H1).mono ?_
  rintro e w1 ⟨rfl, b1⟩
  replace V := Lib.hid (V.out.later b1)
  replace T := Lib.hid (T.out.later b1)
  replace A := Lib.hid (A.out.later b1)
  replace C := Lib.hid (C.out.later b1)
  replace S1 := Lib.hid (S1.out.later b1)
  replace HB := Lib.hid (below2Z HB.out b1)
  clear b1
  obtain ⟨q0, q1⟩ := twoAt A.out
  go_wp2_with fail
  clear q0 q1
  refine (rqumay_any V.out (fewC_short H1.out) (by omega) la H2).mono ?_
  rintro e w2 ⟨rfl, b2⟩
  replace V := Lib.hid (V.out.later b2)
  replace T := Lib.hid (T.out.later b2)
  replace A := Lib.hid (A.out.later b2)
  replace C := Lib.hid (C.out.later b2)
  replace S1 := Lib.hid (S1.out.later b2)
  replace HB := Lib.hid (below2Z HB.out b2)
  clear b2
  go_wp2_with fail
  refine (fewt_b2 T.out H3).mono ?_
  rintro e w3 ⟨rfl, b3⟩
  replace V := Lib.hid (V.out.later b3)
  replace T := Lib.hid (T.out.later b3)
  replace A := Lib.hid (A.out.later b3)
  replace C := Lib.hid (C.out.later b3)
  replace S1 := Lib.hid (S1.out.later b3)
  replace HB := Lib.hid (below2Z HB.out b3)
  clear b3
  go_wp2_with fail
  refine (rdimay_eq T.out HSH.out H4).mono ?_
  rintro e w4 ⟨rfl, b4⟩
  replace V := Lib.hid (V.out.later b4)
  replace T := Lib.hid (T.out.later b4)
  replace A := Lib.hid (A.out.later b4)
  replace C := Lib.hid (C.out.later b4)
  replace S1 := Lib.hid (S1.out.later b4)
  replace HB := Lib.hid (below2Z HB.out b4)
  clear b4
  go_wp2_with fail
  refine (fewc_any S1.out 2 H5).mono ?_
  rintro e w5 ⟨rfl, b5⟩
  replace V := Lib.hid (V.out.later b5)
  replace T := Lib.hid (T.out.later b5)
  replace A := Lib.hid (A.out.later b5)
  replace C := Lib.hid (C.out.later b5)
  replace S1 := Lib.hid (S1.out.later b5)
  replace HB := Lib.hid (below2Z HB.out b5)
  clear b5
  obtain ⟨⟨r0, r1, r2, r3, r4, r5⟩, r6, r7, r8, r9, r10, r11⟩ := twelveAt C.out
  go_wp2_with fail
  clear r0 r1 r2 r3 r4 r5 r6 r7 r8 r9 r10 r11
  refine (rquone_any xc xs xo xa xb xd HC.out.1.1 HC.out.1.2 H6 _).mono ?_
  rintro e w6 ⟨rfl, b6⟩
  replace V := Lib.hid (V.out.later b6)
  replace T := Lib.hid (T.out.later b6)
  replace A := Lib.hid (A.out.later b6)
  replace C := Lib.hid (C.out.later b6)
  replace S1 := Lib.hid (S1.out.later b6)
  replace HB := Lib.hid (below2Z HB.out b6)
  clear b6
  go_wp2_with fail
  refine (live17 _).mono ?_
  rintro e w7 ⟨rfl, b7⟩
  replace V := Lib.hid (V.out.later b7)
  replace T := Lib.hid (T.out.later b7)
  replace A := Lib.hid (A.out.later b7)
  replace C := Lib.hid (C.out.later b7)
  replace S1 := Lib.hid (S1.out.later b7)
  replace HB := Lib.hid (below2Z HB.out b7)
  clear b7
  go_wp2_with fail
  go_ret
  exact ⟨rfl, HB.out⟩

set_option maxHeartbeats 6400000 in
set_option maxRecDepth 100000 in
theorem qtw_7 {w : World} {v vt : Value} {l : List Chg} {t : List Row} (hv : Chgs w v l) (la : Bool) (ht : Tab w vt t) (xc xs yc ys : List UInt8) (xo yo : Bool) (xa xb xd ya yb yd : Int) (hs : fewC l 30 = true) (hm : quMay ⟨l, la⟩ 14 = true) (hf : fewT t = true) (hd : diMay t = true) (hc : fewC [⟨xc, xo, ⟨xa, xb, xd, xs⟩⟩, ⟨yc, yo, ⟨ya, yb, yd, ys⟩⟩] 2 = true) (h6 : quOne ⟨xc, xo, ⟨xa, xb, xd, xs⟩⟩ = true) (h7 : quOne ⟨yc, yo, ⟨ya, yb, yd, ys⟩⟩ = false) :
    Calls Try.prog 7 #[.agg #[v, .bool la], vt, .agg #[.string ⟨xc.toArray⟩, .bool xo, .int .i64 xa, .int .i64 xb, .int .i64 xd, .string ⟨xs.toArray⟩, .string ⟨yc.toArray⟩, .bool yo, .int .i64 ya, .int .i64 yb, .int .i64 yd, .string ⟨ys.toArray⟩]] w fun e w' => e = .returned (.bool true) ∧ Below w.heap.size w w' := by
  obtain ⟨ao, cap, rfl, _hmx⟩ := hv.open'
  obtain ⟨at_, ct, rfl, _hmt⟩ := ht.open'
  have b0 := bl_newZ w (.cells #[.slice ao l.length cap, .bool la] 24)
  have b00 := bl_newZ (w.alloc (.cells #[.slice ao l.length cap, .bool la] 24)) (.cells #[.string ⟨xc.toArray⟩, .bool xo, .int .i64 xa, .int .i64 xb, .int .i64 xd, .string ⟨xs.toArray⟩, .string ⟨yc.toArray⟩, .bool yo, .int .i64 ya, .int .i64 yb, .int .i64 yd, .string ⟨ys.toArray⟩] 49)
  have HB := Lib.hid (below2Z b0 b00)
  have V := Lib.hid ((hv.later b0).later b00)
  have T := Lib.hid ((ht.later b0).later b00)
  have A := Lib.hid ((cellsAt_made (w := w) (cs := #[.slice ao l.length cap, .bool la]) (vs := [.slice ao l.length cap, .bool la]) rfl 24 rfl).later b00)
  have C := Lib.hid (cellsAt_made (w := w.alloc (.cells #[.slice ao l.length cap, .bool la] 24)) (cs := #[.string ⟨xc.toArray⟩, .bool xo, .int .i64 xa, .int .i64 xb, .int .i64 xd, .string ⟨xs.toArray⟩, .string ⟨yc.toArray⟩, .bool yo, .int .i64 ya, .int .i64 yb, .int .i64 yd, .string ⟨ys.toArray⟩]) (vs := [.string ⟨xc.toArray⟩, .bool xo, .int .i64 xa, .int .i64 xb, .int .i64 xd, .string ⟨xs.toArray⟩, .string ⟨yc.toArray⟩, .bool yo, .int .i64 ya, .int .i64 yb, .int .i64 yd, .string ⟨ys.toArray⟩]) rfl 49 (B := w.heap.size + 1) (by simp))
  have S1 : Hid (Chgs ((w.alloc (.cells #[.slice ao l.length cap, .bool la] 24)).alloc (.cells #[.string ⟨xc.toArray⟩, .bool xo, .int .i64 xa, .int .i64 xb, .int .i64 xd, .string ⟨xs.toArray⟩, .string ⟨yc.toArray⟩, .bool yo, .int .i64 ya, .int .i64 yb, .int .i64 yd, .string ⟨ys.toArray⟩] 49)) (.slice (some ⟨w.heap.size + 1, 0, none⟩) 2 2) [⟨xc, xo, ⟨xa, xb, xd, xs⟩⟩, ⟨yc, yo, ⟨ya, yb, yd, ys⟩⟩]) := Lib.hid (chgs_at (l := [⟨xc, xo, ⟨xa, xb, xd, xs⟩⟩, ⟨yc, yo, ⟨ya, yb, yd, ys⟩⟩]) (by rw [World.size_alloc, World.size_alloc]; omega) (by simp) C.out)
  clear b0 b00 hv ht
  have hl30 := (fewC_get hs).1
  have hlt0 := (fewT_yes hf).1
  have HSH := Lib.hid (fewT_short hf)
  have HC := Lib.hid (fewC_both hc)
  have H1 := Lib.hid hs
  have H2 := Lib.hid hm
  have H3 := Lib.hid hf
  have H4 := Lib.hid hd
  have H5 := Lib.hid hc
  have H6 := Lib.hid h6
  have H7 := Lib.hid h7
  clear hs hm hf hd hc h6 h7
  obtain ⟨q0, q1⟩ := twoAt A.out
  go_enter Try.func7, Try.ntmps7
  go_wp2_with fail
  clear q0 q1
  refine (fewq_any V.out la H1).mono ?_
  rintro e w1 ⟨rfl, b1⟩
  replace V := Lib.hid (V.out.later b1)
  replace T := Lib.hid (T.out.later b1)
  replace A := Lib.hid (A.out.later b1)
  replace C := Lib.hid (C.out.later b1)
  replace S1 := Lib.hid (S1.out.later b1)
  replace HB := Lib.hid (below2Z HB.out b1)
  clear b1
  obtain ⟨q0, q1⟩ := twoAt A.out
  go_wp2_with fail
  clear q0 q1
  refine (rqumay_any V.out (fewC_short H1.out) (by omega) la H2).mono ?_
  rintro e w2 ⟨rfl, b2⟩
  replace V := Lib.hid (V.out.later b2)
  replace T := Lib.hid (T.out.later b2)
  replace A := Lib.hid (A.out.later b2)
  replace C := Lib.hid (C.out.later b2)
  replace S1 := Lib.hid (S1.out.later b2)
  replace HB := Lib.hid (below2Z HB.out b2)
  clear b2
  go_wp2_with fail
  refine (fewt_b2 T.out H3).mono ?_
  rintro e w3 ⟨rfl, b3⟩
  replace V := Lib.hid (V.out.later b3)
  replace T := Lib.hid (T.out.later b3)
  replace A := Lib.hid (A.out.later b3)
  replace C := Lib.hid (C.out.later b3)
  replace S1 := Lib.hid (S1.out.later b3)
  replace HB := Lib.hid (below2Z HB.out b3)
  clear b3
  go_wp2_with fail
  refine (rdimay_eq T.out HSH.out H4).mono ?_
  rintro e w4 ⟨rfl, b4⟩
  replace V := Lib.hid (V.out.later b4)
  replace T := Lib.hid (T.out.later b4)
  replace A := Lib.hid (A.out.later b4)
  replace C := Lib.hid (C.out.later b4)
  replace S1 := Lib.hid (S1.out.later b4)
  replace HB := Lib.hid (below2Z HB.out b4)
  clear b4
  go_wp2_with fail
  refine (fewc_any S1.out 2 H5).mono ?_
  rintro e w5 ⟨rfl, b5⟩
  replace V := Lib.hid (V.out.later b5)
  replace T := Lib.hid (T.out.later b5)
  replace A := Lib.hid (A.out.later b5)
  replace C := Lib.hid (C.out.later b5)
  replace S1 := Lib.hid (S1.out.later b5)
  replace HB := Lib.hid (below2Z HB.out b5)
  clear b5
  obtain ⟨⟨r0, r1, r2, r3, r4, r5⟩, r6, r7, r8, r9, r10, r11⟩ := twelveAt C.out
  go_wp2_with fail
  clear r0 r1 r2 r3 r4 r5 r6 r7 r8 r9 r10 r11
  refine (rquone_any xc xs xo xa xb xd HC.out.1.1 HC.out.1.2 H6 _).mono ?_
  rintro e w6 ⟨rfl, b6⟩
  replace V := Lib.hid (V.out.later b6)
  replace T := Lib.hid (T.out.later b6)
  replace A := Lib.hid (A.out.later b6)
  replace C := Lib.hid (C.out.later b6)
  replace S1 := Lib.hid (S1.out.later b6)
  replace HB := Lib.hid (below2Z HB.out b6)
  clear b6
  obtain ⟨⟨r0, r1, r2, r3, r4, r5⟩, r6, r7, r8, r9, r10, r11⟩ := twelveAt C.out
  go_wp2_with fail
  clear r0 r1 r2 r3 r4 r5 r6 r7 r8 r9 r10 r11
  refine (rquone_any yc ys yo ya yb yd HC.out.2.1 HC.out.2.2 H7 _).mono ?_
  rintro e w7 ⟨rfl, b7⟩
  replace V := Lib.hid (V.out.later b7)
  replace T := Lib.hid (T.out.later b7)
  replace A := Lib.hid (A.out.later b7)
  replace C := Lib.hid (C.out.later b7)
  replace S1 := Lib.hid (S1.out.later b7)
  replace HB := Lib.hid (below2Z HB.out b7)
  clear b7
  go_wp2_with fail
  refine (live17 _).mono ?_
  rintro e w8 ⟨rfl, b8⟩
  replace V := Lib.hid (V.out.later b8)
  replace T := Lib.hid (T.out.later b8)
  replace A := Lib.hid (A.out.later b8)
  replace C := Lib.hid (C.out.later b8)
  replace S1 := Lib.hid (S1.out.later b8)
  replace HB := Lib.hid (below2Z HB.out b8)
  clear b8
  go_wp2_with fail
  go_ret
  exact ⟨rfl, HB.out⟩

set_option maxHeartbeats 6400000 in
set_option maxRecDepth 100000 in
theorem qtw_8 {w : World} {v vt : Value} {l : List Chg} {t : List Row} (hv : Chgs w v l) (ht : Tab w vt t) (xc xs yc ys : List UInt8) (xo yo : Bool) (xa xb xd ya yb yd : Int) (hs : fewC l 30 = true) (hm : quMay ⟨l, true⟩ 14 = true) (hf : fewT t = true) (hd : diMay t = true) (hc : fewC [⟨xc, xo, ⟨xa, xb, xd, xs⟩⟩, ⟨yc, yo, ⟨ya, yb, yd, ys⟩⟩] 2 = true) (h6 : quOne ⟨xc, xo, ⟨xa, xb, xd, xs⟩⟩ = true) (h7 : quOne ⟨yc, yo, ⟨ya, yb, yd, ys⟩⟩ = true) :
    Calls Try.prog 7 #[.agg #[v, .bool true], vt, .agg #[.string ⟨xc.toArray⟩, .bool xo, .int .i64 xa, .int .i64 xb, .int .i64 xd, .string ⟨xs.toArray⟩, .string ⟨yc.toArray⟩, .bool yo, .int .i64 ya, .int .i64 yb, .int .i64 yd, .string ⟨ys.toArray⟩]] w fun e w' => e = .returned (.bool true) ∧ Below w.heap.size w w' := by
  obtain ⟨ao, cap, rfl, _hmx⟩ := hv.open'
  obtain ⟨at_, ct, rfl, _hmt⟩ := ht.open'
  have b0 := bl_newZ w (.cells #[.slice ao l.length cap, .bool true] 24)
  have b00 := bl_newZ (w.alloc (.cells #[.slice ao l.length cap, .bool true] 24)) (.cells #[.string ⟨xc.toArray⟩, .bool xo, .int .i64 xa, .int .i64 xb, .int .i64 xd, .string ⟨xs.toArray⟩, .string ⟨yc.toArray⟩, .bool yo, .int .i64 ya, .int .i64 yb, .int .i64 yd, .string ⟨ys.toArray⟩] 49)
  have HB := Lib.hid (below2Z b0 b00)
  have V := Lib.hid ((hv.later b0).later b00)
  have T := Lib.hid ((ht.later b0).later b00)
  have A := Lib.hid ((cellsAt_made (w := w) (cs := #[.slice ao l.length cap, .bool true]) (vs := [.slice ao l.length cap, .bool true]) rfl 24 rfl).later b00)
  have C := Lib.hid (cellsAt_made (w := w.alloc (.cells #[.slice ao l.length cap, .bool true] 24)) (cs := #[.string ⟨xc.toArray⟩, .bool xo, .int .i64 xa, .int .i64 xb, .int .i64 xd, .string ⟨xs.toArray⟩, .string ⟨yc.toArray⟩, .bool yo, .int .i64 ya, .int .i64 yb, .int .i64 yd, .string ⟨ys.toArray⟩]) (vs := [.string ⟨xc.toArray⟩, .bool xo, .int .i64 xa, .int .i64 xb, .int .i64 xd, .string ⟨xs.toArray⟩, .string ⟨yc.toArray⟩, .bool yo, .int .i64 ya, .int .i64 yb, .int .i64 yd, .string ⟨ys.toArray⟩]) rfl 49 (B := w.heap.size + 1) (by simp))
  have S1 : Hid (Chgs ((w.alloc (.cells #[.slice ao l.length cap, .bool true] 24)).alloc (.cells #[.string ⟨xc.toArray⟩, .bool xo, .int .i64 xa, .int .i64 xb, .int .i64 xd, .string ⟨xs.toArray⟩, .string ⟨yc.toArray⟩, .bool yo, .int .i64 ya, .int .i64 yb, .int .i64 yd, .string ⟨ys.toArray⟩] 49)) (.slice (some ⟨w.heap.size + 1, 0, none⟩) 2 2) [⟨xc, xo, ⟨xa, xb, xd, xs⟩⟩, ⟨yc, yo, ⟨ya, yb, yd, ys⟩⟩]) := Lib.hid (chgs_at (l := [⟨xc, xo, ⟨xa, xb, xd, xs⟩⟩, ⟨yc, yo, ⟨ya, yb, yd, ys⟩⟩]) (by rw [World.size_alloc, World.size_alloc]; omega) (by simp) C.out)
  clear b0 b00 hv ht
  have HQ1 := Lib.hid (push_lat l ⟨xc, xo, ⟨xa, xb, xd, xs⟩⟩ 16)
  have HQ3 := Lib.hid (push_lat l ⟨yc, yo, ⟨ya, yb, yd, ys⟩⟩ 16)
  have HQ2 := HQ3
  have HQ4 := HQ1
  have HQ5 := HQ1
  obtain ⟨n, hn⟩ : ∃ n, l.length = n := ⟨_, rfl⟩
  have NA := Lib.hid hn
  have NB := NA
  have NC := NA
  have ND := NA
  clear hn
  have hl30 := (fewC_get hs).1
  have hlt0 := (fewT_yes hf).1
  have HSH := Lib.hid (fewT_short hf)
  have HC := Lib.hid (fewC_both hc)
  have H1 := Lib.hid hs
  have H2 := Lib.hid hm
  have H3 := Lib.hid hf
  have H4 := Lib.hid hd
  have H5 := Lib.hid hc
  have H6 := Lib.hid h6
  have H7 := Lib.hid h7
  clear hs hm hf hd hc h6 h7
  obtain ⟨q0, q1⟩ := twoAt A.out
  go_enter Try.func7, Try.ntmps7
  go_wp2_with fail
  clear q0 q1
  refine (fewq_any V.out true H1).mono ?_
  rintro e w1 ⟨rfl, b1⟩
  replace V := Lib.hid (V.out.later b1)
  replace T := Lib.hid (T.out.later b1)
  replace A := Lib.hid (A.out.later b1)
  replace C := Lib.hid (C.out.later b1)
  replace S1 := Lib.hid (S1.out.later b1)
  replace HB := Lib.hid (below2Z HB.out b1)
  clear b1
  obtain ⟨q0, q1⟩ := twoAt A.out
  go_wp2_with fail
  clear q0 q1
  refine (rqumay_any V.out (fewC_short H1.out) (by omega) true H2).mono ?_
  rintro e w2 ⟨rfl, b2⟩
  replace V := Lib.hid (V.out.later b2)
  replace T := Lib.hid (T.out.later b2)
  replace A := Lib.hid (A.out.later b2)
  replace C := Lib.hid (C.out.later b2)
  replace S1 := Lib.hid (S1.out.later b2)
  replace HB := Lib.hid (below2Z HB.out b2)
  clear b2
  go_wp2_with fail
  refine (fewt_b2 T.out H3).mono ?_
  rintro e w3 ⟨rfl, b3⟩
  replace V := Lib.hid (V.out.later b3)
  replace T := Lib.hid (T.out.later b3)
  replace A := Lib.hid (A.out.later b3)
  replace C := Lib.hid (C.out.later b3)
  replace S1 := Lib.hid (S1.out.later b3)
  replace HB := Lib.hid (below2Z HB.out b3)
  clear b3
  go_wp2_with fail
  refine (rdimay_eq T.out HSH.out H4).mono ?_
  rintro e w4 ⟨rfl, b4⟩
  replace V := Lib.hid (V.out.later b4)
  replace T := Lib.hid (T.out.later b4)
  replace A := Lib.hid (A.out.later b4)
  replace C := Lib.hid (C.out.later b4)
  replace S1 := Lib.hid (S1.out.later b4)
  replace HB := Lib.hid (below2Z HB.out b4)
  clear b4
  go_wp2_with fail
  refine (fewc_any S1.out 2 H5).mono ?_
  rintro e w5 ⟨rfl, b5⟩
  replace V := Lib.hid (V.out.later b5)
  replace T := Lib.hid (T.out.later b5)
  replace A := Lib.hid (A.out.later b5)
  replace C := Lib.hid (C.out.later b5)
  replace S1 := Lib.hid (S1.out.later b5)
  replace HB := Lib.hid (below2Z HB.out b5)
  clear b5
  obtain ⟨⟨r0, r1, r2, r3, r4, r5⟩, r6, r7, r8, r9, r10, r11⟩ := twelveAt C.out
  go_wp2_with fail
  clear r0 r1 r2 r3 r4 r5 r6 r7 r8 r9 r10 r11
  refine (rquone_any xc xs xo xa xb xd HC.out.1.1 HC.out.1.2 H6 _).mono ?_
  rintro e w6 ⟨rfl, b6⟩
  replace V := Lib.hid (V.out.later b6)
  replace T := Lib.hid (T.out.later b6)
  replace A := Lib.hid (A.out.later b6)
  replace C := Lib.hid (C.out.later b6)
  replace S1 := Lib.hid (S1.out.later b6)
  replace HB := Lib.hid (below2Z HB.out b6)
  clear b6
  obtain ⟨⟨r0, r1, r2, r3, r4, r5⟩, r6, r7, r8, r9, r10, r11⟩ := twelveAt C.out
  go_wp2_with fail
  clear r0 r1 r2 r3 r4 r5 r6 r7 r8 r9 r10 r11
  refine (rquone_any yc ys yo ya yb yd HC.out.2.1 HC.out.2.2 H7 _).mono ?_
  rintro e w7 ⟨rfl, b7⟩
  replace V := Lib.hid (V.out.later b7)
  replace T := Lib.hid (T.out.later b7)
  replace A := Lib.hid (A.out.later b7)
  replace C := Lib.hid (C.out.later b7)
  replace S1 := Lib.hid (S1.out.later b7)
  replace HB := Lib.hid (below2Z HB.out b7)
  clear b7
  clear S1 H1 H2 H3 H4 H5 H6 H7 HC
  obtain ⟨q0, q1⟩ := twoAt A.out
  obtain ⟨⟨r0, r1, r2, r3, r4, r5⟩, r6, r7, r8, r9, r10, r11⟩ := twelveAt C.out
  go_wp2_with fail
  clear q0 q1 r0 r1 r2 r3 r4 r5 r6 r7 r8 r9 r10 r11
  refine (qupush_any V.out (by omega) true xc xs xo xa xb xd 16 HQ1).mono ?_
  rintro e w8 ⟨u1, rfl, hu1, b8⟩
  replace V := Lib.hid (V.out.later b8)
  replace T := Lib.hid (T.out.later b8)
  replace A := Lib.hid (A.out.later b8)
  replace C := Lib.hid (C.out.later b8)
  replace HB := Lib.hid (below2Z HB.out b8)
  obtain ⟨a1, c1, rfl⟩ := chgs_shape hu1 NA.out
  have U1 := Lib.hid hu1
  clear hu1
  clear b8
  have b9 := bl_newZ w8 (.cells #[.slice a1 n c1, .bool true] 24)
  have P := Lib.hid (cellsAt_made (w := w8) (cs := #[.slice a1 n c1, .bool true]) (vs := [.slice a1 n c1, .bool true]) rfl 24 rfl)
  replace V := Lib.hid (V.out.later b9)
  replace T := Lib.hid (T.out.later b9)
  replace A := Lib.hid (A.out.later b9)
  replace C := Lib.hid (C.out.later b9)
  replace U1 := Lib.hid (U1.out.later b9)
  replace HB := Lib.hid (below2Z HB.out b9)
  clear b9
  obtain ⟨p0, p1⟩ := twoAt P.out
  obtain ⟨⟨r0, r1, r2, r3, r4, r5⟩, r6, r7, r8, r9, r10, r11⟩ := twelveAt C.out
  go_wp2_with fail
  clear p0 p1 r0 r1 r2 r3 r4 r5 r6 r7 r8 r9 r10 r11
  refine (qupush_any U1.out (by omega) true yc ys yo ya yb yd 16 HQ2).mono ?_
  rintro e w10 ⟨u2, rfl, hu2, b10⟩
  replace V := Lib.hid (V.out.later b10)
  replace T := Lib.hid (T.out.later b10)
  replace A := Lib.hid (A.out.later b10)
  replace C := Lib.hid (C.out.later b10)
  replace U1 := Lib.hid (U1.out.later b10)
  replace P := Lib.hid (P.out.later b10)
  replace HB := Lib.hid (below2Z HB.out b10)
  obtain ⟨a2, c2, rfl⟩ := chgs_shape hu2 NB.out
  have U2 := Lib.hid hu2
  clear hu2
  clear b10
  have b11 := bl_newZ w10 (.cells #[.slice a2 n c2, .bool true] 24)
  have Q := Lib.hid (cellsAt_made (w := w10) (cs := #[.slice a2 n c2, .bool true]) (vs := [.slice a2 n c2, .bool true]) rfl 24 rfl)
  replace V := Lib.hid (V.out.later b11)
  replace T := Lib.hid (T.out.later b11)
  replace A := Lib.hid (A.out.later b11)
  replace C := Lib.hid (C.out.later b11)
  replace U1 := Lib.hid (U1.out.later b11)
  replace P := Lib.hid (P.out.later b11)
  replace U2 := Lib.hid (U2.out.later b11)
  replace HB := Lib.hid (below2Z HB.out b11)
  clear b11
  go_upto_region 5 with fail
  generalize w10.alloc (.cells #[.slice a2 n c2, .bool true] 24) = W5 at V T A C U1 P U2 Q HB ⊢
  generalize w8.heap.size = BP at P ⊢
  generalize w10.heap.size = BQ at Q ⊢
  go_cut [9] from 54 (fun p wx => ∃ B ua uc, p = .pointer (some ⟨B, 0, none⟩) ∧ Hid (CellsAt wx B 0 [.slice ua n uc, .bool true]) ∧ Hid (Chgs wx (.slice ua n uc) l) ∧ Hid (Below W5.heap.size W5 wx))
  case first =>
    obtain ⟨BS, hBS⟩ : ∃ BS : List (Nat × List Value), BS = [(w.heap.size, [.slice ao l.length cap, .bool true]), (w.heap.size + 1, [.string ⟨xc.toArray⟩, .bool xo, .int .i64 xa, .int .i64 xb, .int .i64 xd, .string ⟨xs.toArray⟩, .string ⟨yc.toArray⟩, .bool yo, .int .i64 ya, .int .i64 yb, .int .i64 yd, .string ⟨ys.toArray⟩])] := ⟨_, rfl⟩
    have D0 := Lib.hid (show heldB W5 BS from by rw [hBS]; exact heldB_cons (A.out) (heldB_cons (C.out) (heldB_nil _)))
    have hq0 : ∀ X, heldB X BS → X.cell? ⟨w.heap.size, 0, none⟩ = some (.slice ao l.length cap) := fun X hx => heldB_get (vs := [.slice ao l.length cap, .bool true]) hx (by rw [hBS]; simp) rfl
    have hq1 : ∀ X, heldB X BS → X.cell? ⟨w.heap.size, 1, none⟩ = some (.bool true) := fun X hx => heldB_get (vs := [.slice ao l.length cap, .bool true]) hx (by rw [hBS]; simp) rfl
    have hq2 : ∀ X, heldB X BS → X.cell? ⟨w.heap.size + 1, 0, none⟩ = some (.string ⟨xc.toArray⟩) := fun X hx => heldB_get (vs := [.string ⟨xc.toArray⟩, .bool xo, .int .i64 xa, .int .i64 xb, .int .i64 xd, .string ⟨xs.toArray⟩, .string ⟨yc.toArray⟩, .bool yo, .int .i64 ya, .int .i64 yb, .int .i64 yd, .string ⟨ys.toArray⟩]) hx (by rw [hBS]; simp) rfl
    have hq3 : ∀ X, heldB X BS → X.cell? ⟨w.heap.size + 1, 1, none⟩ = some (.bool xo) := fun X hx => heldB_get (vs := [.string ⟨xc.toArray⟩, .bool xo, .int .i64 xa, .int .i64 xb, .int .i64 xd, .string ⟨xs.toArray⟩, .string ⟨yc.toArray⟩, .bool yo, .int .i64 ya, .int .i64 yb, .int .i64 yd, .string ⟨ys.toArray⟩]) hx (by rw [hBS]; simp) rfl
    have hq4 : ∀ X, heldB X BS → X.cell? ⟨w.heap.size + 1, 2, none⟩ = some (.int .i64 xa) := fun X hx => heldB_get (vs := [.string ⟨xc.toArray⟩, .bool xo, .int .i64 xa, .int .i64 xb, .int .i64 xd, .string ⟨xs.toArray⟩, .string ⟨yc.toArray⟩, .bool yo, .int .i64 ya, .int .i64 yb, .int .i64 yd, .string ⟨ys.toArray⟩]) hx (by rw [hBS]; simp) rfl
    have hq5 : ∀ X, heldB X BS → X.cell? ⟨w.heap.size + 1, 3, none⟩ = some (.int .i64 xb) := fun X hx => heldB_get (vs := [.string ⟨xc.toArray⟩, .bool xo, .int .i64 xa, .int .i64 xb, .int .i64 xd, .string ⟨xs.toArray⟩, .string ⟨yc.toArray⟩, .bool yo, .int .i64 ya, .int .i64 yb, .int .i64 yd, .string ⟨ys.toArray⟩]) hx (by rw [hBS]; simp) rfl
    have hq6 : ∀ X, heldB X BS → X.cell? ⟨w.heap.size + 1, 4, none⟩ = some (.int .i64 xd) := fun X hx => heldB_get (vs := [.string ⟨xc.toArray⟩, .bool xo, .int .i64 xa, .int .i64 xb, .int .i64 xd, .string ⟨xs.toArray⟩, .string ⟨yc.toArray⟩, .bool yo, .int .i64 ya, .int .i64 yb, .int .i64 yd, .string ⟨ys.toArray⟩]) hx (by rw [hBS]; simp) rfl
    have hq7 : ∀ X, heldB X BS → X.cell? ⟨w.heap.size + 1, 5, none⟩ = some (.string ⟨xs.toArray⟩) := fun X hx => heldB_get (vs := [.string ⟨xc.toArray⟩, .bool xo, .int .i64 xa, .int .i64 xb, .int .i64 xd, .string ⟨xs.toArray⟩, .string ⟨yc.toArray⟩, .bool yo, .int .i64 ya, .int .i64 yb, .int .i64 yd, .string ⟨ys.toArray⟩]) hx (by rw [hBS]; simp) rfl
    have hq8 : ∀ X, heldB X BS → X.cell? ⟨w.heap.size + 1, 6, none⟩ = some (.string ⟨yc.toArray⟩) := fun X hx => heldB_get (vs := [.string ⟨xc.toArray⟩, .bool xo, .int .i64 xa, .int .i64 xb, .int .i64 xd, .string ⟨xs.toArray⟩, .string ⟨yc.toArray⟩, .bool yo, .int .i64 ya, .int .i64 yb, .int .i64 yd, .string ⟨ys.toArray⟩]) hx (by rw [hBS]; simp) rfl
    have hq9 : ∀ X, heldB X BS → X.cell? ⟨w.heap.size + 1, 7, none⟩ = some (.bool yo) := fun X hx => heldB_get (vs := [.string ⟨xc.toArray⟩, .bool xo, .int .i64 xa, .int .i64 xb, .int .i64 xd, .string ⟨xs.toArray⟩, .string ⟨yc.toArray⟩, .bool yo, .int .i64 ya, .int .i64 yb, .int .i64 yd, .string ⟨ys.toArray⟩]) hx (by rw [hBS]; simp) rfl
    have hq10 : ∀ X, heldB X BS → X.cell? ⟨w.heap.size + 1, 8, none⟩ = some (.int .i64 ya) := fun X hx => heldB_get (vs := [.string ⟨xc.toArray⟩, .bool xo, .int .i64 xa, .int .i64 xb, .int .i64 xd, .string ⟨xs.toArray⟩, .string ⟨yc.toArray⟩, .bool yo, .int .i64 ya, .int .i64 yb, .int .i64 yd, .string ⟨ys.toArray⟩]) hx (by rw [hBS]; simp) rfl
    have hq11 : ∀ X, heldB X BS → X.cell? ⟨w.heap.size + 1, 9, none⟩ = some (.int .i64 yb) := fun X hx => heldB_get (vs := [.string ⟨xc.toArray⟩, .bool xo, .int .i64 xa, .int .i64 xb, .int .i64 xd, .string ⟨xs.toArray⟩, .string ⟨yc.toArray⟩, .bool yo, .int .i64 ya, .int .i64 yb, .int .i64 yd, .string ⟨ys.toArray⟩]) hx (by rw [hBS]; simp) rfl
    have hq12 : ∀ X, heldB X BS → X.cell? ⟨w.heap.size + 1, 10, none⟩ = some (.int .i64 yd) := fun X hx => heldB_get (vs := [.string ⟨xc.toArray⟩, .bool xo, .int .i64 xa, .int .i64 xb, .int .i64 xd, .string ⟨xs.toArray⟩, .string ⟨yc.toArray⟩, .bool yo, .int .i64 ya, .int .i64 yb, .int .i64 yd, .string ⟨ys.toArray⟩]) hx (by rw [hBS]; simp) rfl
    have hq13 : ∀ X, heldB X BS → X.cell? ⟨w.heap.size + 1, 11, none⟩ = some (.string ⟨ys.toArray⟩) := fun X hx => heldB_get (vs := [.string ⟨xc.toArray⟩, .bool xo, .int .i64 xa, .int .i64 xb, .int .i64 xd, .string ⟨xs.toArray⟩, .string ⟨yc.toArray⟩, .bool yo, .int .i64 ya, .int .i64 yb, .int .i64 yd, .string ⟨ys.toArray⟩]) hx (by rw [hBS]; simp) rfl
    clear hBS
    have K0 : Hid (Below W5.heap.size W5 W5.drew) := Lib.hid (Below.refl _ _).drew
    refine wp_region_held_drew (S := (fun X => heldB X BS)) (by kernel_rfl) ?_ (fun hHeld => ?_)
    · exact heldB_up K0.out D0.out
    generalize W5.drew = z0 at K0 hHeld ⊢
    refine wpAnyH_take (i := 0) (oi := { dst := some 54, op := Op.load 24 (Operand.tmp 3), type := 24, pos := "law.go:127", after := #[], guard := none }) (v := ?_) rfl (by as_aux_lemma => kernel_rfl) (by as_aux_lemma => kernel_rfl) (by as_aux_lemma => kernel_rfl) (fun _ _ _ h => h) (Or.inl ⟨by rfl, ?_⟩) (by assumption) ?_
    rotate_left
    · intro w' hSw
      try dsimp only at hSw
      go_simp
      try with_reducible rfl
    try simp only [Act.put, List.setIfInBounds_toArray, List.set_cons_zero, List.set_cons_succ]
    refine wpAnyH_take (i := 1) (oi := { dst := some 55, op := Op.indexAddr 49 (Operand.tmp 5) (Operand.const (Value.int IntKind.i64 1)), type := 0, pos := "law.go:127", after := #[], guard := none }) (v := ?_) rfl (by as_aux_lemma => kernel_rfl) (by as_aux_lemma => kernel_rfl) (by as_aux_lemma => kernel_rfl) (fun _ _ _ h => h) (Or.inl ⟨by rfl, ?_⟩) (by assumption) ?_
    rotate_left
    · intro w' hSw
      try dsimp only at hSw
      go_simp
      try with_reducible rfl
    try simp only [Act.put, List.setIfInBounds_toArray, List.set_cons_zero, List.set_cons_succ]
    refine wpAnyH_take (i := 2) (oi := { dst := some 56, op := Op.load 33 (Operand.tmp 55), type := 33, pos := "law.go:127", after := #[{ on := 1, ground := Ground.data }], guard := none }) (v := ?_) rfl (by as_aux_lemma => kernel_rfl) (by as_aux_lemma => kernel_rfl) (by as_aux_lemma => kernel_rfl) (fun _ _ _ h => h) (Or.inl ⟨by rfl, ?_⟩) (by assumption) ?_
    rotate_left
    · intro w' hSw
      try dsimp only at hSw
      go_simp
      try with_reducible rfl
    try simp only [Act.put, List.setIfInBounds_toArray, List.set_cons_zero, List.set_cons_succ]
    refine wpAnyH_take (i := 4) (oi := { dst := some 58, op := Op.indexAddr 49 (Operand.tmp 5) (Operand.const (Value.int IntKind.i64 0)), type := 0, pos := "law.go:127", after := #[], guard := none }) (v := ?_) rfl (by as_aux_lemma => kernel_rfl) (by as_aux_lemma => kernel_rfl) (by as_aux_lemma => kernel_rfl) (fun _ _ _ h => h) (Or.inl ⟨by rfl, ?_⟩) (by assumption) ?_
    rotate_left
    · intro w' hSw
      try dsimp only at hSw
      go_simp
      try with_reducible rfl
    try simp only [Act.put, List.setIfInBounds_toArray, List.set_cons_zero, List.set_cons_succ]
    refine wpAnyH_take (i := 5) (oi := { dst := some 59, op := Op.load 33 (Operand.tmp 58), type := 33, pos := "law.go:127", after := #[{ on := 4, ground := Ground.data }], guard := none }) (v := ?_) rfl (by as_aux_lemma => kernel_rfl) (by as_aux_lemma => kernel_rfl) (by as_aux_lemma => kernel_rfl) (fun _ _ _ h => h) (Or.inl ⟨by rfl, ?_⟩) (by assumption) ?_
    rotate_left
    · intro w' hSw
      try dsimp only at hSw
      go_simp
      try with_reducible rfl
    try simp only [Act.put, List.setIfInBounds_toArray, List.set_cons_zero, List.set_cons_succ]
    refine wpAnyH_ready (rs := [3, 7]) (by as_aux_lemma => kernel_rfl) (by simp) ?_
    refine AllReadyH.cons (o := { dst := some 57, op := Op.call { callee := Callee.value (Operand.func 27), args := #[Operand.tmp 54, Operand.tmp 56, Operand.const (Value.int IntKind.i64 16)], argTypes := #[24, 33, 3] }, type := 24, pos := "law.go:127", after := #[{ on := 0, ground := Ground.data }, { on := 2, ground := Ground.data }], guard := none }) rfl (fun Kx hK => ?_) (AllReadyH.cons (o := { dst := some 9, op := Op.alloc 24, type := 0, pos := "law.go:127", after := #[], guard := none }) rfl (fun Kx hK => ?_) (AllReadyH.nil))
    · go_simp
      refine (qupush_any (V.out.later K0.out) (by omega) true yc ys yo ya yb yd 16 HQ3).mono ?_
      rintro e z1 ⟨u3, rfl, hu3, bz1⟩
      have K1 := Lib.hid (below2Z K0.out bz1)
      have D1 := Lib.hid (heldB_up K1.out D0.out)
      obtain ⟨a3, c3, rfl⟩ := chgs_shape hu3 NC.out
      have U3 := Lib.hid hu3
      clear hu3
      clear bz1
      go_wp2_with fail
      refine hK.out _ _ ?_ (fun hHeld2 => ?_)
      · exact D1.out
      clear hK Kx hHeld
      have hHeld := hHeld2
      clear hHeld2
      try simp only [Act.put, List.setIfInBounds_toArray, List.set_cons_zero, List.set_cons_succ]
      refine wpAnyH_ready (rs := [6, 7]) (by as_aux_lemma => kernel_rfl) (by simp) ?_
      refine AllReadyH.cons (o := { dst := some 60, op := Op.call { callee := Callee.value (Operand.func 27), args := #[Operand.tmp 57, Operand.tmp 59, Operand.const (Value.int IntKind.i64 16)], argTypes := #[24, 33, 3] }, type := 24, pos := "law.go:127", after := #[{ on := 3, ground := Ground.data }, { on := 5, ground := Ground.data }, { on := 3, ground := Ground.chain }], guard := none }) rfl (fun Kx hK => ?_) (AllReadyH.cons (o := { dst := some 9, op := Op.alloc 24, type := 0, pos := "law.go:127", after := #[], guard := none }) rfl (fun Kx hK => ?_) (AllReadyH.nil))
      · go_simp
        refine (qupush_any U3.out (by omega) true xc xs xo xa xb xd 16 HQ4).mono ?_
        rintro e z2 ⟨u4, rfl, hu4, bz2⟩
        have K2 := Lib.hid (below2Z K1.out bz2)
        have D2 := Lib.hid (heldB_up K2.out D0.out)
        replace U3 := Lib.hid (Chgs.later U3.out bz2)
        obtain ⟨a4, c4, rfl⟩ := chgs_shape hu4 ND.out
        have U4 := Lib.hid hu4
        clear hu4
        clear bz2
        go_wp2_with fail
        refine hK.out _ _ ?_ (fun hHeld2 => ?_)
        · exact D2.out
        clear hK Kx hHeld
        have hHeld := hHeld2
        clear hHeld2
        try simp only [Act.put, List.setIfInBounds_toArray, List.set_cons_zero, List.set_cons_succ]
        refine wpAnyH_ready (rs := [7]) (by as_aux_lemma => kernel_rfl) (by simp) ?_
        refine AllReadyH.cons (o := { dst := some 9, op := Op.alloc 24, type := 0, pos := "law.go:127", after := #[], guard := none }) rfl (fun Kx hK => ?_) AllReadyH.nil
        go_simp
        refine hK.out _ _ ?_ (fun hHeld2 => ?_)
        · exact heldB_up (below2Z K2.out (bl_newZ _ _)) D0.out
        clear hK Kx hHeld
        have hHeld := hHeld2
        clear hHeld2
        try simp only [Act.put, List.setIfInBounds_toArray, List.set_cons_zero, List.set_cons_succ]
        have bz3 := bl_newZ z2 (.cells #[.slice none 0 0, .bool false] 24)
        have K3 := Lib.hid (below2Z K2.out bz3)
        have D3 := Lib.hid (heldB_up K3.out D0.out)
        have nz3 := Lib.hid ((MapKept.heap_alloc z2 (.cells #[.slice none 0 0, .bool false] 24)).1)
        have hB3 : W5.heap.size ≤ z2.heap.size := (K2.out).size
        replace U3 := Lib.hid (Chgs.later U3.out bz3)
        replace U4 := Lib.hid (Chgs.later U4.out bz3)
        clear bz3
        generalize z2.alloc (.cells #[.slice none 0 0, .bool false] 24) = z3 at K3 D3 nz3 U3 U4 hHeld ⊢
        generalize z2.heap.size = B3 at nz3 hB3  ⊢
        obtain ⟨⟨r0, r1⟩, g0, g1⟩ := twoQ nz3.out
        refine wpAnyH_ready (rs := [8]) (by as_aux_lemma => kernel_rfl) (by simp) ?_
        refine AllReadyH.cons (o := { dst := none, op := Op.store 24 (Operand.tmp 9) (Operand.tmp 60), type := 0, pos := "law.go:127", after := #[{ on := 7, ground := Ground.data }, { on := 6, ground := Ground.data }, { on := 6, ground := Ground.chain }, { on := 0, ground := Ground.phase }, { on := 1, ground := Ground.phase }, { on := 2, ground := Ground.phase }, { on := 3, ground := Ground.phase }, { on := 4, ground := Ground.phase }, { on := 5, ground := Ground.phase }, { on := 6, ground := Ground.phase }, { on := 7, ground := Ground.phase }], guard := none }) rfl (fun Kx hK => ?_) AllReadyH.nil
        go_simp
        clear r0 r1 g0 g1
        obtain ⟨y0, y1⟩ := set2Q (y0 := .slice a4 n c4) (y1 := .bool true) nz3.out
        have KE := Lib.hid ((((K3.out).setCell (p := ⟨B3, 0, none⟩) hB3 (.slice a4 n c4))).setCell (p := ⟨B3, 1, none⟩) hB3 (.bool true))
        have UE : Hid (Chgs ((z3.setCell ⟨B3, 0, none⟩ (.slice a4 n c4)).setCell ⟨B3, 1, none⟩ (.bool true)) (.slice a4 n c4) l) := Lib.hid (chgs_far U4.out nz3.out)
        refine hK.out _ _ ?_ (fun hHeld2 => ?_)
        · exact heldB_up KE.out D0.out
        clear hK Kx hHeld
        have hHeld := hHeld2
        clear hHeld2
        refine wpAnyH_done (by kernel_rfl) ?_ _
        go_wp2_with fail
        go_meet
        exact ⟨B3, a4, c4, rfl, Lib.hid (cellsAt_two y0 y1), UE, KE⟩
      · go_simp
        refine hK.out _ _ ?_ (fun hHeld2 => ?_)
        · exact heldB_up (below2Z K1.out (bl_newZ _ _)) D0.out
        clear hK Kx hHeld
        have hHeld := hHeld2
        clear hHeld2
        try simp only [Act.put, List.setIfInBounds_toArray, List.set_cons_zero, List.set_cons_succ]
        have bz5 := bl_newZ z1 (.cells #[.slice none 0 0, .bool false] 24)
        have K5 := Lib.hid (below2Z K1.out bz5)
        have D5 := Lib.hid (heldB_up K5.out D0.out)
        have nz5 := Lib.hid ((MapKept.heap_alloc z1 (.cells #[.slice none 0 0, .bool false] 24)).1)
        have hB5 : W5.heap.size ≤ z1.heap.size := (K1.out).size
        replace U3 := Lib.hid (Chgs.later U3.out bz5)
        clear bz5
        generalize z1.alloc (.cells #[.slice none 0 0, .bool false] 24) = z5 at K5 D5 nz5 U3 hHeld ⊢
        generalize z1.heap.size = B5 at nz5 hB5  ⊢
        refine wpAnyH_ready (rs := [6]) (by as_aux_lemma => kernel_rfl) (by simp) ?_
        refine AllReadyH.cons (o := { dst := some 60, op := Op.call { callee := Callee.value (Operand.func 27), args := #[Operand.tmp 57, Operand.tmp 59, Operand.const (Value.int IntKind.i64 16)], argTypes := #[24, 33, 3] }, type := 24, pos := "law.go:127", after := #[{ on := 3, ground := Ground.data }, { on := 5, ground := Ground.data }, { on := 3, ground := Ground.chain }], guard := none }) rfl (fun Kx hK => ?_) AllReadyH.nil
        go_simp
        refine (qupush_any U3.out (by omega) true xc xs xo xa xb xd 16 HQ4).mono ?_
        rintro e z6 ⟨u4, rfl, hu4, bz6⟩
        have K6 := Lib.hid (below2Z K5.out bz6)
        have D6 := Lib.hid (heldB_up K6.out D0.out)
        replace U3 := Lib.hid (Chgs.later U3.out bz6)
        replace nz5 := Lib.hid (((bz6).block _ (Array.getElem?_eq_some_iff.1 (nz5.out)).1).trans (nz5.out))
        obtain ⟨a4, c4, rfl⟩ := chgs_shape hu4 ND.out
        have U4 := Lib.hid hu4
        clear hu4
        clear bz6
        go_wp2_with fail
        refine hK.out _ _ ?_ (fun hHeld2 => ?_)
        · exact D6.out
        clear hK Kx hHeld
        have hHeld := hHeld2
        clear hHeld2
        try simp only [Act.put, List.setIfInBounds_toArray, List.set_cons_zero, List.set_cons_succ]
        obtain ⟨⟨r0, r1⟩, g0, g1⟩ := twoQ nz5.out
        refine wpAnyH_ready (rs := [8]) (by as_aux_lemma => kernel_rfl) (by simp) ?_
        refine AllReadyH.cons (o := { dst := none, op := Op.store 24 (Operand.tmp 9) (Operand.tmp 60), type := 0, pos := "law.go:127", after := #[{ on := 7, ground := Ground.data }, { on := 6, ground := Ground.data }, { on := 6, ground := Ground.chain }, { on := 0, ground := Ground.phase }, { on := 1, ground := Ground.phase }, { on := 2, ground := Ground.phase }, { on := 3, ground := Ground.phase }, { on := 4, ground := Ground.phase }, { on := 5, ground := Ground.phase }, { on := 6, ground := Ground.phase }, { on := 7, ground := Ground.phase }], guard := none }) rfl (fun Kx hK => ?_) AllReadyH.nil
        go_simp
        clear r0 r1 g0 g1
        obtain ⟨y0, y1⟩ := set2Q (y0 := .slice a4 n c4) (y1 := .bool true) nz5.out
        have KE := Lib.hid ((((K6.out).setCell (p := ⟨B5, 0, none⟩) hB5 (.slice a4 n c4))).setCell (p := ⟨B5, 1, none⟩) hB5 (.bool true))
        have UE : Hid (Chgs ((z6.setCell ⟨B5, 0, none⟩ (.slice a4 n c4)).setCell ⟨B5, 1, none⟩ (.bool true)) (.slice a4 n c4) l) := Lib.hid (chgs_far U4.out nz5.out)
        refine hK.out _ _ ?_ (fun hHeld2 => ?_)
        · exact heldB_up KE.out D0.out
        clear hK Kx hHeld
        have hHeld := hHeld2
        clear hHeld2
        refine wpAnyH_done (by kernel_rfl) ?_ _
        go_wp2_with fail
        go_meet
        exact ⟨B5, a4, c4, rfl, Lib.hid (cellsAt_two y0 y1), UE, KE⟩
    · go_simp
      refine hK.out _ _ ?_ (fun hHeld2 => ?_)
      · exact heldB_up (below2Z K0.out (bl_newZ _ _)) D0.out
      clear hK Kx hHeld
      have hHeld := hHeld2
      clear hHeld2
      try simp only [Act.put, List.setIfInBounds_toArray, List.set_cons_zero, List.set_cons_succ]
      have bz8 := bl_newZ z0 (.cells #[.slice none 0 0, .bool false] 24)
      have K8 := Lib.hid (below2Z K0.out bz8)
      have D8 := Lib.hid (heldB_up K8.out D0.out)
      have nz8 := Lib.hid ((MapKept.heap_alloc z0 (.cells #[.slice none 0 0, .bool false] 24)).1)
      have hB8 : W5.heap.size ≤ z0.heap.size := (K0.out).size
      clear bz8
      generalize z0.alloc (.cells #[.slice none 0 0, .bool false] 24) = z8 at K8 D8 nz8 hHeld ⊢
      generalize z0.heap.size = B8 at nz8 hB8  ⊢
      refine wpAnyH_ready (rs := [3]) (by as_aux_lemma => kernel_rfl) (by simp) ?_
      refine AllReadyH.cons (o := { dst := some 57, op := Op.call { callee := Callee.value (Operand.func 27), args := #[Operand.tmp 54, Operand.tmp 56, Operand.const (Value.int IntKind.i64 16)], argTypes := #[24, 33, 3] }, type := 24, pos := "law.go:127", after := #[{ on := 0, ground := Ground.data }, { on := 2, ground := Ground.data }], guard := none }) rfl (fun Kx hK => ?_) AllReadyH.nil
      go_simp
      refine (qupush_any (V.out.later K8.out) (by omega) true yc ys yo ya yb yd 16 HQ3).mono ?_
      rintro e z9 ⟨u3, rfl, hu3, bz9⟩
      have K9 := Lib.hid (below2Z K8.out bz9)
      have D9 := Lib.hid (heldB_up K9.out D0.out)
      replace nz8 := Lib.hid (((bz9).block _ (Array.getElem?_eq_some_iff.1 (nz8.out)).1).trans (nz8.out))
      obtain ⟨a3, c3, rfl⟩ := chgs_shape hu3 NC.out
      have U3 := Lib.hid hu3
      clear hu3
      clear bz9
      go_wp2_with fail
      refine hK.out _ _ ?_ (fun hHeld2 => ?_)
      · exact D9.out
      clear hK Kx hHeld
      have hHeld := hHeld2
      clear hHeld2
      try simp only [Act.put, List.setIfInBounds_toArray, List.set_cons_zero, List.set_cons_succ]
      refine wpAnyH_ready (rs := [6]) (by as_aux_lemma => kernel_rfl) (by simp) ?_
      refine AllReadyH.cons (o := { dst := some 60, op := Op.call { callee := Callee.value (Operand.func 27), args := #[Operand.tmp 57, Operand.tmp 59, Operand.const (Value.int IntKind.i64 16)], argTypes := #[24, 33, 3] }, type := 24, pos := "law.go:127", after := #[{ on := 3, ground := Ground.data }, { on := 5, ground := Ground.data }, { on := 3, ground := Ground.chain }], guard := none }) rfl (fun Kx hK => ?_) AllReadyH.nil
      go_simp
      refine (qupush_any U3.out (by omega) true xc xs xo xa xb xd 16 HQ4).mono ?_
      rintro e z10 ⟨u4, rfl, hu4, bz10⟩
      have K10 := Lib.hid (below2Z K9.out bz10)
      have D10 := Lib.hid (heldB_up K10.out D0.out)
      replace nz8 := Lib.hid (((bz10).block _ (Array.getElem?_eq_some_iff.1 (nz8.out)).1).trans (nz8.out))
      replace U3 := Lib.hid (Chgs.later U3.out bz10)
      obtain ⟨a4, c4, rfl⟩ := chgs_shape hu4 ND.out
      have U4 := Lib.hid hu4
      clear hu4
      clear bz10
      go_wp2_with fail
      refine hK.out _ _ ?_ (fun hHeld2 => ?_)
      · exact D10.out
      clear hK Kx hHeld
      have hHeld := hHeld2
      clear hHeld2
      try simp only [Act.put, List.setIfInBounds_toArray, List.set_cons_zero, List.set_cons_succ]
      obtain ⟨⟨r0, r1⟩, g0, g1⟩ := twoQ nz8.out
      refine wpAnyH_ready (rs := [8]) (by as_aux_lemma => kernel_rfl) (by simp) ?_
      refine AllReadyH.cons (o := { dst := none, op := Op.store 24 (Operand.tmp 9) (Operand.tmp 60), type := 0, pos := "law.go:127", after := #[{ on := 7, ground := Ground.data }, { on := 6, ground := Ground.data }, { on := 6, ground := Ground.chain }, { on := 0, ground := Ground.phase }, { on := 1, ground := Ground.phase }, { on := 2, ground := Ground.phase }, { on := 3, ground := Ground.phase }, { on := 4, ground := Ground.phase }, { on := 5, ground := Ground.phase }, { on := 6, ground := Ground.phase }, { on := 7, ground := Ground.phase }], guard := none }) rfl (fun Kx hK => ?_) AllReadyH.nil
      go_simp
      clear r0 r1 g0 g1
      obtain ⟨y0, y1⟩ := set2Q (y0 := .slice a4 n c4) (y1 := .bool true) nz8.out
      have KE := Lib.hid ((((K10.out).setCell (p := ⟨B8, 0, none⟩) hB8 (.slice a4 n c4))).setCell (p := ⟨B8, 1, none⟩) hB8 (.bool true))
      have UE : Hid (Chgs ((z10.setCell ⟨B8, 0, none⟩ (.slice a4 n c4)).setCell ⟨B8, 1, none⟩ (.bool true)) (.slice a4 n c4) l) := Lib.hid (chgs_far U4.out nz8.out)
      refine hK.out _ _ ?_ (fun hHeld2 => ?_)
      · exact heldB_up KE.out D0.out
      clear hK Kx hHeld
      have hHeld := hHeld2
      clear hHeld2
      refine wpAnyH_done (by kernel_rfl) ?_ _
      go_wp2_with fail
      go_meet
      exact ⟨B8, a4, c4, rfl, Lib.hid (cellsAt_two y0 y1), UE, KE⟩
  case rest =>
    obtain ⟨BE, a4, c4, rfl, E, U4, HK⟩ := hcut
    replace V := Lib.hid (V.out.later HK.out)
    replace T := Lib.hid (T.out.later HK.out)
    replace A := Lib.hid (A.out.later HK.out)
    replace C := Lib.hid (C.out.later HK.out)
    replace U1 := Lib.hid (U1.out.later HK.out)
    replace P := Lib.hid (P.out.later HK.out)
    replace U2 := Lib.hid (U2.out.later HK.out)
    replace Q := Lib.hid (Q.out.later HK.out)
    replace HB := Lib.hid (below2Z HB.out HK.out)
    clear HK
    go_upto_region 6 with fail
    obtain ⟨BS, hBS⟩ : ∃ BS : List (Nat × List Value), BS = [(BP, [.slice a1 n c1, .bool true]), (w.heap.size + 1, [.string ⟨xc.toArray⟩, .bool xo, .int .i64 xa, .int .i64 xb, .int .i64 xd, .string ⟨xs.toArray⟩, .string ⟨yc.toArray⟩, .bool yo, .int .i64 ya, .int .i64 yb, .int .i64 yd, .string ⟨ys.toArray⟩])] := ⟨_, rfl⟩
    have D0 := Lib.hid (show heldB wc BS from by rw [hBS]; exact heldB_cons (P.out) (heldB_cons (C.out) (heldB_nil _)))
    have hq0 : ∀ X, heldB X BS → X.cell? ⟨BP, 0, none⟩ = some (.slice a1 n c1) := fun X hx => heldB_get (vs := [.slice a1 n c1, .bool true]) hx (by rw [hBS]; simp) rfl
    have hq1 : ∀ X, heldB X BS → X.cell? ⟨BP, 1, none⟩ = some (.bool true) := fun X hx => heldB_get (vs := [.slice a1 n c1, .bool true]) hx (by rw [hBS]; simp) rfl
    have hq2 : ∀ X, heldB X BS → X.cell? ⟨w.heap.size + 1, 0, none⟩ = some (.string ⟨xc.toArray⟩) := fun X hx => heldB_get (vs := [.string ⟨xc.toArray⟩, .bool xo, .int .i64 xa, .int .i64 xb, .int .i64 xd, .string ⟨xs.toArray⟩, .string ⟨yc.toArray⟩, .bool yo, .int .i64 ya, .int .i64 yb, .int .i64 yd, .string ⟨ys.toArray⟩]) hx (by rw [hBS]; simp) rfl
    have hq3 : ∀ X, heldB X BS → X.cell? ⟨w.heap.size + 1, 1, none⟩ = some (.bool xo) := fun X hx => heldB_get (vs := [.string ⟨xc.toArray⟩, .bool xo, .int .i64 xa, .int .i64 xb, .int .i64 xd, .string ⟨xs.toArray⟩, .string ⟨yc.toArray⟩, .bool yo, .int .i64 ya, .int .i64 yb, .int .i64 yd, .string ⟨ys.toArray⟩]) hx (by rw [hBS]; simp) rfl
    have hq4 : ∀ X, heldB X BS → X.cell? ⟨w.heap.size + 1, 2, none⟩ = some (.int .i64 xa) := fun X hx => heldB_get (vs := [.string ⟨xc.toArray⟩, .bool xo, .int .i64 xa, .int .i64 xb, .int .i64 xd, .string ⟨xs.toArray⟩, .string ⟨yc.toArray⟩, .bool yo, .int .i64 ya, .int .i64 yb, .int .i64 yd, .string ⟨ys.toArray⟩]) hx (by rw [hBS]; simp) rfl
    have hq5 : ∀ X, heldB X BS → X.cell? ⟨w.heap.size + 1, 3, none⟩ = some (.int .i64 xb) := fun X hx => heldB_get (vs := [.string ⟨xc.toArray⟩, .bool xo, .int .i64 xa, .int .i64 xb, .int .i64 xd, .string ⟨xs.toArray⟩, .string ⟨yc.toArray⟩, .bool yo, .int .i64 ya, .int .i64 yb, .int .i64 yd, .string ⟨ys.toArray⟩]) hx (by rw [hBS]; simp) rfl
    have hq6 : ∀ X, heldB X BS → X.cell? ⟨w.heap.size + 1, 4, none⟩ = some (.int .i64 xd) := fun X hx => heldB_get (vs := [.string ⟨xc.toArray⟩, .bool xo, .int .i64 xa, .int .i64 xb, .int .i64 xd, .string ⟨xs.toArray⟩, .string ⟨yc.toArray⟩, .bool yo, .int .i64 ya, .int .i64 yb, .int .i64 yd, .string ⟨ys.toArray⟩]) hx (by rw [hBS]; simp) rfl
    have hq7 : ∀ X, heldB X BS → X.cell? ⟨w.heap.size + 1, 5, none⟩ = some (.string ⟨xs.toArray⟩) := fun X hx => heldB_get (vs := [.string ⟨xc.toArray⟩, .bool xo, .int .i64 xa, .int .i64 xb, .int .i64 xd, .string ⟨xs.toArray⟩, .string ⟨yc.toArray⟩, .bool yo, .int .i64 ya, .int .i64 yb, .int .i64 yd, .string ⟨ys.toArray⟩]) hx (by rw [hBS]; simp) rfl
    have hq8 : ∀ X, heldB X BS → X.cell? ⟨w.heap.size + 1, 6, none⟩ = some (.string ⟨yc.toArray⟩) := fun X hx => heldB_get (vs := [.string ⟨xc.toArray⟩, .bool xo, .int .i64 xa, .int .i64 xb, .int .i64 xd, .string ⟨xs.toArray⟩, .string ⟨yc.toArray⟩, .bool yo, .int .i64 ya, .int .i64 yb, .int .i64 yd, .string ⟨ys.toArray⟩]) hx (by rw [hBS]; simp) rfl
    have hq9 : ∀ X, heldB X BS → X.cell? ⟨w.heap.size + 1, 7, none⟩ = some (.bool yo) := fun X hx => heldB_get (vs := [.string ⟨xc.toArray⟩, .bool xo, .int .i64 xa, .int .i64 xb, .int .i64 xd, .string ⟨xs.toArray⟩, .string ⟨yc.toArray⟩, .bool yo, .int .i64 ya, .int .i64 yb, .int .i64 yd, .string ⟨ys.toArray⟩]) hx (by rw [hBS]; simp) rfl
    have hq10 : ∀ X, heldB X BS → X.cell? ⟨w.heap.size + 1, 8, none⟩ = some (.int .i64 ya) := fun X hx => heldB_get (vs := [.string ⟨xc.toArray⟩, .bool xo, .int .i64 xa, .int .i64 xb, .int .i64 xd, .string ⟨xs.toArray⟩, .string ⟨yc.toArray⟩, .bool yo, .int .i64 ya, .int .i64 yb, .int .i64 yd, .string ⟨ys.toArray⟩]) hx (by rw [hBS]; simp) rfl
    have hq11 : ∀ X, heldB X BS → X.cell? ⟨w.heap.size + 1, 9, none⟩ = some (.int .i64 yb) := fun X hx => heldB_get (vs := [.string ⟨xc.toArray⟩, .bool xo, .int .i64 xa, .int .i64 xb, .int .i64 xd, .string ⟨xs.toArray⟩, .string ⟨yc.toArray⟩, .bool yo, .int .i64 ya, .int .i64 yb, .int .i64 yd, .string ⟨ys.toArray⟩]) hx (by rw [hBS]; simp) rfl
    have hq12 : ∀ X, heldB X BS → X.cell? ⟨w.heap.size + 1, 10, none⟩ = some (.int .i64 yd) := fun X hx => heldB_get (vs := [.string ⟨xc.toArray⟩, .bool xo, .int .i64 xa, .int .i64 xb, .int .i64 xd, .string ⟨xs.toArray⟩, .string ⟨yc.toArray⟩, .bool yo, .int .i64 ya, .int .i64 yb, .int .i64 yd, .string ⟨ys.toArray⟩]) hx (by rw [hBS]; simp) rfl
    have hq13 : ∀ X, heldB X BS → X.cell? ⟨w.heap.size + 1, 11, none⟩ = some (.string ⟨ys.toArray⟩) := fun X hx => heldB_get (vs := [.string ⟨xc.toArray⟩, .bool xo, .int .i64 xa, .int .i64 xb, .int .i64 xd, .string ⟨xs.toArray⟩, .string ⟨yc.toArray⟩, .bool yo, .int .i64 ya, .int .i64 yb, .int .i64 yd, .string ⟨ys.toArray⟩]) hx (by rw [hBS]; simp) rfl
    clear hBS
    have K0 : Hid (Below wc.heap.size wc wc.drew) := Lib.hid (Below.refl _ _).drew
    refine wp_region_held_drew (S := (fun X => heldB X BS)) (by kernel_rfl) ?_ (fun hHeld => ?_)
    · exact heldB_up K0.out D0.out
    generalize wc.drew = z0 at K0 hHeld ⊢
    refine wpAnyH_take (i := 0) (oi := { dst := some 61, op := Op.load 24 (Operand.tmp 7), type := 24, pos := "law.go:128", after := #[], guard := none }) (v := ?_) rfl (by as_aux_lemma => kernel_rfl) (by as_aux_lemma => kernel_rfl) (by as_aux_lemma => kernel_rfl) (fun _ _ _ h => h) (Or.inl ⟨by rfl, ?_⟩) (by assumption) ?_
    rotate_left
    · intro w' hSw
      try dsimp only at hSw
      go_simp
      try with_reducible rfl
    try simp only [Act.put, List.setIfInBounds_toArray, List.set_cons_zero, List.set_cons_succ]
    refine wpAnyH_take (i := 1) (oi := { dst := some 62, op := Op.indexAddr 49 (Operand.tmp 5) (Operand.const (Value.int IntKind.i64 0)), type := 0, pos := "law.go:128", after := #[], guard := none }) (v := ?_) rfl (by as_aux_lemma => kernel_rfl) (by as_aux_lemma => kernel_rfl) (by as_aux_lemma => kernel_rfl) (fun _ _ _ h => h) (Or.inl ⟨by rfl, ?_⟩) (by assumption) ?_
    rotate_left
    · intro w' hSw
      try dsimp only at hSw
      go_simp
      try with_reducible rfl
    try simp only [Act.put, List.setIfInBounds_toArray, List.set_cons_zero, List.set_cons_succ]
    refine wpAnyH_take (i := 2) (oi := { dst := some 63, op := Op.load 33 (Operand.tmp 62), type := 33, pos := "law.go:128", after := #[{ on := 1, ground := Ground.data }], guard := none }) (v := ?_) rfl (by as_aux_lemma => kernel_rfl) (by as_aux_lemma => kernel_rfl) (by as_aux_lemma => kernel_rfl) (fun _ _ _ h => h) (Or.inl ⟨by rfl, ?_⟩) (by assumption) ?_
    rotate_left
    · intro w' hSw
      try dsimp only at hSw
      go_simp
      try with_reducible rfl
    try simp only [Act.put, List.setIfInBounds_toArray, List.set_cons_zero, List.set_cons_succ]
    refine wpAnyH_take (i := 4) (oi := { dst := some 65, op := Op.load 24 (Operand.tmp 7), type := 24, pos := "law.go:128", after := #[], guard := none }) (v := ?_) rfl (by as_aux_lemma => kernel_rfl) (by as_aux_lemma => kernel_rfl) (by as_aux_lemma => kernel_rfl) (fun _ _ _ h => h) (Or.inl ⟨by rfl, ?_⟩) (by assumption) ?_
    rotate_left
    · intro w' hSw
      try dsimp only at hSw
      go_simp
      try with_reducible rfl
    try simp only [Act.put, List.setIfInBounds_toArray, List.set_cons_zero, List.set_cons_succ]
    refine wpAnyH_ready (rs := [3]) (by as_aux_lemma => kernel_rfl) (by simp) ?_
    refine AllReadyH.cons (o := { dst := some 64, op := Op.call { callee := Callee.value (Operand.func 27), args := #[Operand.tmp 61, Operand.tmp 63, Operand.const (Value.int IntKind.i64 16)], argTypes := #[24, 33, 3] }, type := 24, pos := "law.go:128", after := #[{ on := 0, ground := Ground.data }, { on := 2, ground := Ground.data }], guard := none }) rfl (fun Kx hK => ?_) AllReadyH.nil
    go_simp
    refine (qupush_any (U1.out.later K0.out) (by omega) true xc xs xo xa xb xd 16 HQ5).mono ?_
    rintro e z1 ⟨u5, rfl, hu5, bz1⟩
    have K1 := Lib.hid (below2Z K0.out bz1)
    have D1 := Lib.hid (heldB_up K1.out D0.out)
    obtain ⟨a5, c5, rfl⟩ := chgs_shape hu5 NA.out
    have U5 := Lib.hid hu5
    clear hu5
    clear bz1
    go_wp2_with fail
    refine hK.out _ _ ?_ (fun hHeld2 => ?_)
    · exact D1.out
    clear hK Kx hHeld
    have hHeld := hHeld2
    clear hHeld2
    try simp only [Act.put, List.setIfInBounds_toArray, List.set_cons_zero, List.set_cons_succ]
    refine wpAnyH_ready (rs := [5]) (by as_aux_lemma => kernel_rfl) (by simp) ?_
    refine AllReadyH.cons (o := { dst := some 66, op := Op.call { callee := Callee.value (Operand.func 20), args := #[Operand.tmp 64, Operand.tmp 65], argTypes := #[24, 24] }, type := 4, pos := "law.go:128", after := #[{ on := 3, ground := Ground.data }, { on := 4, ground := Ground.data }, { on := 3, ground := Ground.chain }], guard := none }) rfl (fun Kx hK => ?_) AllReadyH.nil
    go_simp
    refine (qusame_any U5.out (U1.out.later K1.out) true true (Lib.hid (quSame_self _))).mono ?_
    rintro e z2 ⟨rfl, bz2⟩
    have K2 := Lib.hid (below2Z K1.out bz2)
    have D2 := Lib.hid (heldB_up K2.out D0.out)
    replace U5 := Lib.hid (Chgs.later U5.out bz2)
    clear bz2
    go_wp2_with fail
    refine hK.out _ _ ?_ (fun hHeld2 => ?_)
    · exact D2.out
    clear hK Kx hHeld
    have hHeld := hHeld2
    clear hHeld2
    try simp only [Act.put, List.setIfInBounds_toArray, List.set_cons_zero, List.set_cons_succ]
    refine wpAnyH_take (i := 6) (oi := { dst := some 67, op := Op.unOp UnOp.not 4 (Operand.tmp 66), type := 4, pos := "law.go:128", after := #[{ on := 5, ground := Ground.data }], guard := none }) (v := ?_) rfl (by as_aux_lemma => kernel_rfl) (by as_aux_lemma => kernel_rfl) (by as_aux_lemma => kernel_rfl) (fun _ _ _ h => h) (Or.inl ⟨by rfl, ?_⟩) (by assumption) ?_
    rotate_left
    · intro w' hSw
      try dsimp only at hSw
      go_simp
      try with_reducible rfl
    try simp only [Act.put, List.setIfInBounds_toArray, List.set_cons_zero, List.set_cons_succ]
    refine wpAnyH_done (by kernel_rfl) ?_ _
    replace V := Lib.hid (V.out.later K2.out)
    replace T := Lib.hid (T.out.later K2.out)
    replace A := Lib.hid (A.out.later K2.out)
    replace C := Lib.hid (C.out.later K2.out)
    replace U1 := Lib.hid (U1.out.later K2.out)
    replace P := Lib.hid (P.out.later K2.out)
    replace U2 := Lib.hid (U2.out.later K2.out)
    replace Q := Lib.hid (Q.out.later K2.out)
    replace E := Lib.hid (E.out.later K2.out)
    replace U4 := Lib.hid (U4.out.later K2.out)
    replace HB := Lib.hid (below2Z HB.out K2.out)
    clear hHeld U5 D1 D2
    obtain ⟨q0, q1⟩ := twoAt A.out
    obtain ⟨s0, s1⟩ := twoAt Q.out
    obtain ⟨g0, g1⟩ := twoAt E.out
    go_wp2_with fail
    clear q0 q1 s0 s1 g0 g1
    refine (qusame_any U2.out V.out true true (Lib.hid (quSame_self _))).mono ?_
    rintro e w61 ⟨rfl, b61⟩
    replace V := Lib.hid (V.out.later b61)
    replace T := Lib.hid (T.out.later b61)
    replace A := Lib.hid (A.out.later b61)
    replace C := Lib.hid (C.out.later b61)
    replace U1 := Lib.hid (U1.out.later b61)
    replace P := Lib.hid (P.out.later b61)
    replace U2 := Lib.hid (U2.out.later b61)
    replace Q := Lib.hid (Q.out.later b61)
    replace E := Lib.hid (E.out.later b61)
    replace U4 := Lib.hid (U4.out.later b61)
    replace HB := Lib.hid (below2Z HB.out b61)
    clear b61
    obtain ⟨q0, q1⟩ := twoAt A.out
    obtain ⟨g0, g1⟩ := twoAt E.out
    go_wp2_with fail
    clear q0 q1 g0 g1
    refine (qusame_any U4.out V.out true true (Lib.hid (quSame_self _))).mono ?_
    rintro e w62 ⟨rfl, b62⟩
    replace V := Lib.hid (V.out.later b62)
    replace T := Lib.hid (T.out.later b62)
    replace A := Lib.hid (A.out.later b62)
    replace C := Lib.hid (C.out.later b62)
    replace U1 := Lib.hid (U1.out.later b62)
    replace P := Lib.hid (P.out.later b62)
    replace U2 := Lib.hid (U2.out.later b62)
    replace Q := Lib.hid (Q.out.later b62)
    replace E := Lib.hid (E.out.later b62)
    replace U4 := Lib.hid (U4.out.later b62)
    replace HB := Lib.hid (below2Z HB.out b62)
    clear b62
    go_wp2_with fail
    refine (live17 _).mono ?_
    rintro e w63 ⟨rfl, b63⟩
    replace V := Lib.hid (V.out.later b63)
    replace T := Lib.hid (T.out.later b63)
    replace A := Lib.hid (A.out.later b63)
    replace C := Lib.hid (C.out.later b63)
    replace U1 := Lib.hid (U1.out.later b63)
    replace P := Lib.hid (P.out.later b63)
    replace U2 := Lib.hid (U2.out.later b63)
    replace Q := Lib.hid (Q.out.later b63)
    replace E := Lib.hid (E.out.later b63)
    replace U4 := Lib.hid (U4.out.later b63)
    replace HB := Lib.hid (below2Z HB.out b63)
    clear b63
    go_wp2_with fail
    go_ret
    exact ⟨rfl, HB.out⟩

set_option maxHeartbeats 6400000 in
set_option maxRecDepth 100000 in
theorem qtw_10 {w : World} {v vt : Value} {l : List Chg} {t : List Row} (hv : Chgs w v l) (ht : Tab w vt t) (xc xs yc ys : List UInt8) (xo yo : Bool) (xa xb xd ya yb yd : Int) (hs : fewC l 30 = true) (hm : quMay ⟨l, false⟩ 14 = true) (hf : fewT t = true) (hd : diMay t = true) (hc : fewC [⟨xc, xo, ⟨xa, xb, xd, xs⟩⟩, ⟨yc, yo, ⟨ya, yb, yd, ys⟩⟩] 2 = true) (h6 : quOne ⟨xc, xo, ⟨xa, xb, xd, xs⟩⟩ = true) (h7 : quOne ⟨yc, yo, ⟨ya, yb, yd, ys⟩⟩ = true) (hne : ¬ xc = yc) :
    Calls Try.prog 7 #[.agg #[v, .bool false], vt, .agg #[.string ⟨xc.toArray⟩, .bool xo, .int .i64 xa, .int .i64 xb, .int .i64 xd, .string ⟨xs.toArray⟩, .string ⟨yc.toArray⟩, .bool yo, .int .i64 ya, .int .i64 yb, .int .i64 yd, .string ⟨ys.toArray⟩]] w fun e w' => e = .returned (.bool true) ∧ Below w.heap.size w w' := by
  obtain ⟨ao, cap, rfl, _hmx⟩ := hv.open'
  obtain ⟨at_, ct, rfl, _hmt⟩ := ht.open'
  have b0 := bl_newZ w (.cells #[.slice ao l.length cap, .bool false] 24)
  have b00 := bl_newZ (w.alloc (.cells #[.slice ao l.length cap, .bool false] 24)) (.cells #[.string ⟨xc.toArray⟩, .bool xo, .int .i64 xa, .int .i64 xb, .int .i64 xd, .string ⟨xs.toArray⟩, .string ⟨yc.toArray⟩, .bool yo, .int .i64 ya, .int .i64 yb, .int .i64 yd, .string ⟨ys.toArray⟩] 49)
  have HB := Lib.hid (below2Z b0 b00)
  have V := Lib.hid ((hv.later b0).later b00)
  have T := Lib.hid ((ht.later b0).later b00)
  have A := Lib.hid ((cellsAt_made (w := w) (cs := #[.slice ao l.length cap, .bool false]) (vs := [.slice ao l.length cap, .bool false]) rfl 24 rfl).later b00)
  have C := Lib.hid (cellsAt_made (w := w.alloc (.cells #[.slice ao l.length cap, .bool false] 24)) (cs := #[.string ⟨xc.toArray⟩, .bool xo, .int .i64 xa, .int .i64 xb, .int .i64 xd, .string ⟨xs.toArray⟩, .string ⟨yc.toArray⟩, .bool yo, .int .i64 ya, .int .i64 yb, .int .i64 yd, .string ⟨ys.toArray⟩]) (vs := [.string ⟨xc.toArray⟩, .bool xo, .int .i64 xa, .int .i64 xb, .int .i64 xd, .string ⟨xs.toArray⟩, .string ⟨yc.toArray⟩, .bool yo, .int .i64 ya, .int .i64 yb, .int .i64 yd, .string ⟨ys.toArray⟩]) rfl 49 (B := w.heap.size + 1) (by simp))
  have S1 : Hid (Chgs ((w.alloc (.cells #[.slice ao l.length cap, .bool false] 24)).alloc (.cells #[.string ⟨xc.toArray⟩, .bool xo, .int .i64 xa, .int .i64 xb, .int .i64 xd, .string ⟨xs.toArray⟩, .string ⟨yc.toArray⟩, .bool yo, .int .i64 ya, .int .i64 yb, .int .i64 yd, .string ⟨ys.toArray⟩] 49)) (.slice (some ⟨w.heap.size + 1, 0, none⟩) 2 2) [⟨xc, xo, ⟨xa, xb, xd, xs⟩⟩, ⟨yc, yo, ⟨ya, yb, yd, ys⟩⟩]) := Lib.hid (chgs_at (l := [⟨xc, xo, ⟨xa, xb, xd, xs⟩⟩, ⟨yc, yo, ⟨ya, yb, yd, ys⟩⟩]) (by rw [World.size_alloc, World.size_alloc]; omega) (by simp) C.out)
  clear b0 b00 hv ht
  obtain ⟨⟨al, aa⟩, hq1⟩ : ∃ q, quPush ⟨l, false⟩ ⟨xc, xo, ⟨xa, xb, xd, xs⟩⟩ 16 = q := ⟨_, rfl⟩
  obtain ⟨⟨bl, ba⟩, hq2⟩ : ∃ q, quPush ⟨al, aa⟩ ⟨yc, yo, ⟨ya, yb, yd, ys⟩⟩ 16 = q := ⟨_, rfl⟩
  obtain ⟨⟨cl, ca⟩, hq3⟩ : ∃ q, quPush ⟨l, false⟩ ⟨yc, yo, ⟨ya, yb, yd, ys⟩⟩ 16 = q := ⟨_, rfl⟩
  obtain ⟨⟨dl, da⟩, hq4⟩ : ∃ q, quPush ⟨cl, ca⟩ ⟨xc, xo, ⟨xa, xb, xd, xs⟩⟩ 16 = q := ⟨_, rfl⟩
  have hq5 : quPush ⟨al, aa⟩ ⟨xc, xo, ⟨xa, xb, xd, xs⟩⟩ 16 = ⟨al, aa⟩ := by have := push_twice (q := ⟨l, false⟩) (c := ⟨xc, xo, ⟨xa, xb, xd, xs⟩⟩) (room := 16); rw [hq1] at this; exact this
  have hl14 : l.length ≤ 14 := by have := (quMay_iff.1 hm).1; simp only at this; omega
  have ha16 : al.length ≤ 16 := push_short (by simp only; omega) hq1
  have hb16 : bl.length ≤ 16 := push_short (by simp only; omega) hq2
  have hc16 : cl.length ≤ 16 := push_short (by simp only; omega) hq3
  have hd16 : dl.length ≤ 16 := push_short (by simp only; omega) hq4
  have HTWO : Hid (bl.length = dl.length ∧ setAll t bl = setAll t dl) := Lib.hid (by have h := push_two hm rfl (a := ⟨xc, xo, ⟨xa, xb, xd, xs⟩⟩) (b := ⟨yc, yo, ⟨ya, yb, yd, ys⟩⟩) hne (diMay_iff.1 hd).2.2; rw [hq1, hq3, hq2, hq4] at h; exact ⟨h.1, h.2.1⟩)
  have t1 : (xc == yc) = false := by rw [beq_eq_false_iff_ne]; exact hne
  clear hne
  have HQ1 := Lib.hid hq1
  have HQ2 := Lib.hid hq2
  have HQ3 := Lib.hid hq3
  have HQ4 := Lib.hid hq4
  have HQ5 := Lib.hid hq5
  obtain ⟨na, hna⟩ : ∃ n, al.length = n := ⟨_, rfl⟩
  have NA := Lib.hid hna
  obtain ⟨nc, hnc⟩ : ∃ n, cl.length = n := ⟨_, rfl⟩
  have NC := Lib.hid hnc
  obtain ⟨n, hn⟩ : ∃ n, bl.length = n := ⟨_, rfl⟩
  have NB := Lib.hid hn
  have ND : Hid (dl.length = n) := Lib.hid (by rw [← HTWO.out.1]; exact hn)
  clear hq1 hq2 hq3 hq4 hq5 hna hnc hn
  have hl30 := (fewC_get hs).1
  have hlt0 := (fewT_yes hf).1
  have HSH := Lib.hid (fewT_short hf)
  have HC := Lib.hid (fewC_both hc)
  have H1 := Lib.hid hs
  have H2 := Lib.hid hm
  have H3 := Lib.hid hf
  have H4 := Lib.hid hd
  have H5 := Lib.hid hc
  have H6 := Lib.hid h6
  have H7 := Lib.hid h7
  clear hs hm hf hd hc h6 h7
  obtain ⟨q0, q1⟩ := twoAt A.out
  go_enter Try.func7, Try.ntmps7
  go_wp2_with fail
  clear q0 q1
  refine (fewq_any V.out false H1).mono ?_
  rintro e w1 ⟨rfl, b1⟩
  replace V := Lib.hid (V.out.later b1)
  replace T := Lib.hid (T.out.later b1)
  replace A := Lib.hid (A.out.later b1)
  replace C := Lib.hid (C.out.later b1)
  replace S1 := Lib.hid (S1.out.later b1)
  replace HB := Lib.hid (below2Z HB.out b1)
  clear b1
  obtain ⟨q0, q1⟩ := twoAt A.out
  go_wp2_with fail
  clear q0 q1
  refine (rqumay_any V.out (fewC_short H1.out) (by omega) false H2).mono ?_
  rintro e w2 ⟨rfl, b2⟩
  replace V := Lib.hid (V.out.later b2)
  replace T := Lib.hid (T.out.later b2)
  replace A := Lib.hid (A.out.later b2)
  replace C := Lib.hid (C.out.later b2)
  replace S1 := Lib.hid (S1.out.later b2)
  replace HB := Lib.hid (below2Z HB.out b2)
  clear b2
  go_wp2_with fail
  refine (fewt_b2 T.out H3).mono ?_
  rintro e w3 ⟨rfl, b3⟩
  replace V := Lib.hid (V.out.later b3)
  replace T := Lib.hid (T.out.later b3)
  replace A := Lib.hid (A.out.later b3)
  replace C := Lib.hid (C.out.later b3)
  replace S1 := Lib.hid (S1.out.later b3)
  replace HB := Lib.hid (below2Z HB.out b3)
  clear b3
  go_wp2_with fail
  refine (rdimay_eq T.out HSH.out H4).mono ?_
  rintro e w4 ⟨rfl, b4⟩
  replace V := Lib.hid (V.out.later b4)
  replace T := Lib.hid (T.out.later b4)
  replace A := Lib.hid (A.out.later b4)
  replace C := Lib.hid (C.out.later b4)
  replace S1 := Lib.hid (S1.out.later b4)
  replace HB := Lib.hid (below2Z HB.out b4)
  clear b4
  go_wp2_with fail
  refine (fewc_any S1.out 2 H5).mono ?_
  rintro e w5 ⟨rfl, b5⟩
  replace V := Lib.hid (V.out.later b5)
  replace T := Lib.hid (T.out.later b5)
  replace A := Lib.hid (A.out.later b5)
  replace C := Lib.hid (C.out.later b5)
  replace S1 := Lib.hid (S1.out.later b5)
  replace HB := Lib.hid (below2Z HB.out b5)
  clear b5
  obtain ⟨⟨r0, r1, r2, r3, r4, r5⟩, r6, r7, r8, r9, r10, r11⟩ := twelveAt C.out
  go_wp2_with fail
  clear r0 r1 r2 r3 r4 r5 r6 r7 r8 r9 r10 r11
  refine (rquone_any xc xs xo xa xb xd HC.out.1.1 HC.out.1.2 H6 _).mono ?_
  rintro e w6 ⟨rfl, b6⟩
  replace V := Lib.hid (V.out.later b6)
  replace T := Lib.hid (T.out.later b6)
  replace A := Lib.hid (A.out.later b6)
  replace C := Lib.hid (C.out.later b6)
  replace S1 := Lib.hid (S1.out.later b6)
  replace HB := Lib.hid (below2Z HB.out b6)
  clear b6
  obtain ⟨⟨r0, r1, r2, r3, r4, r5⟩, r6, r7, r8, r9, r10, r11⟩ := twelveAt C.out
  go_wp2_with fail
  clear r0 r1 r2 r3 r4 r5 r6 r7 r8 r9 r10 r11
  refine (rquone_any yc ys yo ya yb yd HC.out.2.1 HC.out.2.2 H7 _).mono ?_
  rintro e w7 ⟨rfl, b7⟩
  replace V := Lib.hid (V.out.later b7)
  replace T := Lib.hid (T.out.later b7)
  replace A := Lib.hid (A.out.later b7)
  replace C := Lib.hid (C.out.later b7)
  replace S1 := Lib.hid (S1.out.later b7)
  replace HB := Lib.hid (below2Z HB.out b7)
  clear b7
  clear S1 H1 H2 H3 H4 H5 H6 H7 HC
  obtain ⟨q0, q1⟩ := twoAt A.out
  obtain ⟨⟨r0, r1, r2, r3, r4, r5⟩, r6, r7, r8, r9, r10, r11⟩ := twelveAt C.out
  go_wp2_with fail
  clear q0 q1 r0 r1 r2 r3 r4 r5 r6 r7 r8 r9 r10 r11
  refine (qupush_any V.out (by omega) false xc xs xo xa xb xd 16 HQ1).mono ?_
  rintro e w8 ⟨u1, rfl, hu1, b8⟩
  replace V := Lib.hid (V.out.later b8)
  replace T := Lib.hid (T.out.later b8)
  replace A := Lib.hid (A.out.later b8)
  replace C := Lib.hid (C.out.later b8)
  replace HB := Lib.hid (below2Z HB.out b8)
  obtain ⟨a1, c1, rfl⟩ := chgs_shape hu1 NA.out
  have U1 := Lib.hid hu1
  clear hu1
  clear b8
  have b9 := bl_newZ w8 (.cells #[.slice a1 na c1, .bool aa] 24)
  have P := Lib.hid (cellsAt_made (w := w8) (cs := #[.slice a1 na c1, .bool aa]) (vs := [.slice a1 na c1, .bool aa]) rfl 24 rfl)
  replace V := Lib.hid (V.out.later b9)
  replace T := Lib.hid (T.out.later b9)
  replace A := Lib.hid (A.out.later b9)
  replace C := Lib.hid (C.out.later b9)
  replace U1 := Lib.hid (U1.out.later b9)
  replace HB := Lib.hid (below2Z HB.out b9)
  clear b9
  obtain ⟨p0, p1⟩ := twoAt P.out
  obtain ⟨⟨r0, r1, r2, r3, r4, r5⟩, r6, r7, r8, r9, r10, r11⟩ := twelveAt C.out
  go_wp2_with fail
  clear p0 p1 r0 r1 r2 r3 r4 r5 r6 r7 r8 r9 r10 r11
  refine (qupush_any U1.out (by omega) aa yc ys yo ya yb yd 16 HQ2).mono ?_
  rintro e w10 ⟨u2, rfl, hu2, b10⟩
  replace V := Lib.hid (V.out.later b10)
  replace T := Lib.hid (T.out.later b10)
  replace A := Lib.hid (A.out.later b10)
  replace C := Lib.hid (C.out.later b10)
  replace U1 := Lib.hid (U1.out.later b10)
  replace P := Lib.hid (P.out.later b10)
  replace HB := Lib.hid (below2Z HB.out b10)
  obtain ⟨a2, c2, rfl⟩ := chgs_shape hu2 NB.out
  have U2 := Lib.hid hu2
  clear hu2
  clear b10
  have b11 := bl_newZ w10 (.cells #[.slice a2 n c2, .bool ba] 24)
  have Q := Lib.hid (cellsAt_made (w := w10) (cs := #[.slice a2 n c2, .bool ba]) (vs := [.slice a2 n c2, .bool ba]) rfl 24 rfl)
  replace V := Lib.hid (V.out.later b11)
  replace T := Lib.hid (T.out.later b11)
  replace A := Lib.hid (A.out.later b11)
  replace C := Lib.hid (C.out.later b11)
  replace U1 := Lib.hid (U1.out.later b11)
  replace P := Lib.hid (P.out.later b11)
  replace U2 := Lib.hid (U2.out.later b11)
  replace HB := Lib.hid (below2Z HB.out b11)
  clear b11
  go_upto_region 5 with fail
  generalize w10.alloc (.cells #[.slice a2 n c2, .bool ba] 24) = W5 at V T A C U1 P U2 Q HB ⊢
  generalize w8.heap.size = BP at P ⊢
  generalize w10.heap.size = BQ at Q ⊢
  go_cut [9] from 54 (fun p wx => ∃ B ua uc, p = .pointer (some ⟨B, 0, none⟩) ∧ Hid (CellsAt wx B 0 [.slice ua n uc, .bool da]) ∧ Hid (Chgs wx (.slice ua n uc) dl) ∧ Hid (Below W5.heap.size W5 wx))
  case first =>
    obtain ⟨BS, hBS⟩ : ∃ BS : List (Nat × List Value), BS = [(w.heap.size, [.slice ao l.length cap, .bool false]), (w.heap.size + 1, [.string ⟨xc.toArray⟩, .bool xo, .int .i64 xa, .int .i64 xb, .int .i64 xd, .string ⟨xs.toArray⟩, .string ⟨yc.toArray⟩, .bool yo, .int .i64 ya, .int .i64 yb, .int .i64 yd, .string ⟨ys.toArray⟩])] := ⟨_, rfl⟩
    have D0 := Lib.hid (show heldB W5 BS from by rw [hBS]; exact heldB_cons (A.out) (heldB_cons (C.out) (heldB_nil _)))
    have hq0 : ∀ X, heldB X BS → X.cell? ⟨w.heap.size, 0, none⟩ = some (.slice ao l.length cap) := fun X hx => heldB_get (vs := [.slice ao l.length cap, .bool false]) hx (by rw [hBS]; simp) rfl
    have hq1 : ∀ X, heldB X BS → X.cell? ⟨w.heap.size, 1, none⟩ = some (.bool false) := fun X hx => heldB_get (vs := [.slice ao l.length cap, .bool false]) hx (by rw [hBS]; simp) rfl
    have hq2 : ∀ X, heldB X BS → X.cell? ⟨w.heap.size + 1, 0, none⟩ = some (.string ⟨xc.toArray⟩) := fun X hx => heldB_get (vs := [.string ⟨xc.toArray⟩, .bool xo, .int .i64 xa, .int .i64 xb, .int .i64 xd, .string ⟨xs.toArray⟩, .string ⟨yc.toArray⟩, .bool yo, .int .i64 ya, .int .i64 yb, .int .i64 yd, .string ⟨ys.toArray⟩]) hx (by rw [hBS]; simp) rfl
    have hq3 : ∀ X, heldB X BS → X.cell? ⟨w.heap.size + 1, 1, none⟩ = some (.bool xo) := fun X hx => heldB_get (vs := [.string ⟨xc.toArray⟩, .bool xo, .int .i64 xa, .int .i64 xb, .int .i64 xd, .string ⟨xs.toArray⟩, .string ⟨yc.toArray⟩, .bool yo, .int .i64 ya, .int .i64 yb, .int .i64 yd, .string ⟨ys.toArray⟩]) hx (by rw [hBS]; simp) rfl
    have hq4 : ∀ X, heldB X BS → X.cell? ⟨w.heap.size + 1, 2, none⟩ = some (.int .i64 xa) := fun X hx => heldB_get (vs := [.string ⟨xc.toArray⟩, .bool xo, .int .i64 xa, .int .i64 xb, .int .i64 xd, .string ⟨xs.toArray⟩, .string ⟨yc.toArray⟩, .bool yo, .int .i64 ya, .int .i64 yb, .int .i64 yd, .string ⟨ys.toArray⟩]) hx (by rw [hBS]; simp) rfl
    have hq5 : ∀ X, heldB X BS → X.cell? ⟨w.heap.size + 1, 3, none⟩ = some (.int .i64 xb) := fun X hx => heldB_get (vs := [.string ⟨xc.toArray⟩, .bool xo, .int .i64 xa, .int .i64 xb, .int .i64 xd, .string ⟨xs.toArray⟩, .string ⟨yc.toArray⟩, .bool yo, .int .i64 ya, .int .i64 yb, .int .i64 yd, .string ⟨ys.toArray⟩]) hx (by rw [hBS]; simp) rfl
    have hq6 : ∀ X, heldB X BS → X.cell? ⟨w.heap.size + 1, 4, none⟩ = some (.int .i64 xd) := fun X hx => heldB_get (vs := [.string ⟨xc.toArray⟩, .bool xo, .int .i64 xa, .int .i64 xb, .int .i64 xd, .string ⟨xs.toArray⟩, .string ⟨yc.toArray⟩, .bool yo, .int .i64 ya, .int .i64 yb, .int .i64 yd, .string ⟨ys.toArray⟩]) hx (by rw [hBS]; simp) rfl
    have hq7 : ∀ X, heldB X BS → X.cell? ⟨w.heap.size + 1, 5, none⟩ = some (.string ⟨xs.toArray⟩) := fun X hx => heldB_get (vs := [.string ⟨xc.toArray⟩, .bool xo, .int .i64 xa, .int .i64 xb, .int .i64 xd, .string ⟨xs.toArray⟩, .string ⟨yc.toArray⟩, .bool yo, .int .i64 ya, .int .i64 yb, .int .i64 yd, .string ⟨ys.toArray⟩]) hx (by rw [hBS]; simp) rfl
    have hq8 : ∀ X, heldB X BS → X.cell? ⟨w.heap.size + 1, 6, none⟩ = some (.string ⟨yc.toArray⟩) := fun X hx => heldB_get (vs := [.string ⟨xc.toArray⟩, .bool xo, .int .i64 xa, .int .i64 xb, .int .i64 xd, .string ⟨xs.toArray⟩, .string ⟨yc.toArray⟩, .bool yo, .int .i64 ya, .int .i64 yb, .int .i64 yd, .string ⟨ys.toArray⟩]) hx (by rw [hBS]; simp) rfl
    have hq9 : ∀ X, heldB X BS → X.cell? ⟨w.heap.size + 1, 7, none⟩ = some (.bool yo) := fun X hx => heldB_get (vs := [.string ⟨xc.toArray⟩, .bool xo, .int .i64 xa, .int .i64 xb, .int .i64 xd, .string ⟨xs.toArray⟩, .string ⟨yc.toArray⟩, .bool yo, .int .i64 ya, .int .i64 yb, .int .i64 yd, .string ⟨ys.toArray⟩]) hx (by rw [hBS]; simp) rfl
    have hq10 : ∀ X, heldB X BS → X.cell? ⟨w.heap.size + 1, 8, none⟩ = some (.int .i64 ya) := fun X hx => heldB_get (vs := [.string ⟨xc.toArray⟩, .bool xo, .int .i64 xa, .int .i64 xb, .int .i64 xd, .string ⟨xs.toArray⟩, .string ⟨yc.toArray⟩, .bool yo, .int .i64 ya, .int .i64 yb, .int .i64 yd, .string ⟨ys.toArray⟩]) hx (by rw [hBS]; simp) rfl
    have hq11 : ∀ X, heldB X BS → X.cell? ⟨w.heap.size + 1, 9, none⟩ = some (.int .i64 yb) := fun X hx => heldB_get (vs := [.string ⟨xc.toArray⟩, .bool xo, .int .i64 xa, .int .i64 xb, .int .i64 xd, .string ⟨xs.toArray⟩, .string ⟨yc.toArray⟩, .bool yo, .int .i64 ya, .int .i64 yb, .int .i64 yd, .string ⟨ys.toArray⟩]) hx (by rw [hBS]; simp) rfl
    have hq12 : ∀ X, heldB X BS → X.cell? ⟨w.heap.size + 1, 10, none⟩ = some (.int .i64 yd) := fun X hx => heldB_get (vs := [.string ⟨xc.toArray⟩, .bool xo, .int .i64 xa, .int .i64 xb, .int .i64 xd, .string ⟨xs.toArray⟩, .string ⟨yc.toArray⟩, .bool yo, .int .i64 ya, .int .i64 yb, .int .i64 yd, .string ⟨ys.toArray⟩]) hx (by rw [hBS]; simp) rfl
    have hq13 : ∀ X, heldB X BS → X.cell? ⟨w.heap.size + 1, 11, none⟩ = some (.string ⟨ys.toArray⟩) := fun X hx => heldB_get (vs := [.string ⟨xc.toArray⟩, .bool xo, .int .i64 xa, .int .i64 xb, .int .i64 xd, .string ⟨xs.toArray⟩, .string ⟨yc.toArray⟩, .bool yo, .int .i64 ya, .int .i64 yb, .int .i64 yd, .string ⟨ys.toArray⟩]) hx (by rw [hBS]; simp) rfl
    clear hBS
    have K0 : Hid (Below W5.heap.size W5 W5.drew) := Lib.hid (Below.refl _ _).drew
    refine wp_region_held_drew (S := (fun X => heldB X BS)) (by kernel_rfl) ?_ (fun hHeld => ?_)
    · exact heldB_up K0.out D0.out
    generalize W5.drew = z0 at K0 hHeld ⊢
    refine wpAnyH_take (i := 0) (oi := { dst := some 54, op := Op.load 24 (Operand.tmp 3), type := 24, pos := "law.go:127", after := #[], guard := none }) (v := ?_) rfl (by as_aux_lemma => kernel_rfl) (by as_aux_lemma => kernel_rfl) (by as_aux_lemma => kernel_rfl) (fun _ _ _ h => h) (Or.inl ⟨by rfl, ?_⟩) (by assumption) ?_
    rotate_left
    · intro w' hSw
      try dsimp only at hSw
      go_simp
      try with_reducible rfl
    try simp only [Act.put, List.setIfInBounds_toArray, List.set_cons_zero, List.set_cons_succ]
    refine wpAnyH_take (i := 1) (oi := { dst := some 55, op := Op.indexAddr 49 (Operand.tmp 5) (Operand.const (Value.int IntKind.i64 1)), type := 0, pos := "law.go:127", after := #[], guard := none }) (v := ?_) rfl (by as_aux_lemma => kernel_rfl) (by as_aux_lemma => kernel_rfl) (by as_aux_lemma => kernel_rfl) (fun _ _ _ h => h) (Or.inl ⟨by rfl, ?_⟩) (by assumption) ?_
    rotate_left
    · intro w' hSw
      try dsimp only at hSw
      go_simp
      try with_reducible rfl
    try simp only [Act.put, List.setIfInBounds_toArray, List.set_cons_zero, List.set_cons_succ]
    refine wpAnyH_take (i := 2) (oi := { dst := some 56, op := Op.load 33 (Operand.tmp 55), type := 33, pos := "law.go:127", after := #[{ on := 1, ground := Ground.data }], guard := none }) (v := ?_) rfl (by as_aux_lemma => kernel_rfl) (by as_aux_lemma => kernel_rfl) (by as_aux_lemma => kernel_rfl) (fun _ _ _ h => h) (Or.inl ⟨by rfl, ?_⟩) (by assumption) ?_
    rotate_left
    · intro w' hSw
      try dsimp only at hSw
      go_simp
      try with_reducible rfl
    try simp only [Act.put, List.setIfInBounds_toArray, List.set_cons_zero, List.set_cons_succ]
    refine wpAnyH_take (i := 4) (oi := { dst := some 58, op := Op.indexAddr 49 (Operand.tmp 5) (Operand.const (Value.int IntKind.i64 0)), type := 0, pos := "law.go:127", after := #[], guard := none }) (v := ?_) rfl (by as_aux_lemma => kernel_rfl) (by as_aux_lemma => kernel_rfl) (by as_aux_lemma => kernel_rfl) (fun _ _ _ h => h) (Or.inl ⟨by rfl, ?_⟩) (by assumption) ?_
    rotate_left
    · intro w' hSw
      try dsimp only at hSw
      go_simp
      try with_reducible rfl
    try simp only [Act.put, List.setIfInBounds_toArray, List.set_cons_zero, List.set_cons_succ]
    refine wpAnyH_take (i := 5) (oi := { dst := some 59, op := Op.load 33 (Operand.tmp 58), type := 33, pos := "law.go:127", after := #[{ on := 4, ground := Ground.data }], guard := none }) (v := ?_) rfl (by as_aux_lemma => kernel_rfl) (by as_aux_lemma => kernel_rfl) (by as_aux_lemma => kernel_rfl) (fun _ _ _ h => h) (Or.inl ⟨by rfl, ?_⟩) (by assumption) ?_
    rotate_left
    · intro w' hSw
      try dsimp only at hSw
      go_simp
      try with_reducible rfl
    try simp only [Act.put, List.setIfInBounds_toArray, List.set_cons_zero, List.set_cons_succ]
    refine wpAnyH_ready (rs := [3, 7]) (by as_aux_lemma => kernel_rfl) (by simp) ?_
    refine AllReadyH.cons (o := { dst := some 57, op := Op.call { callee := Callee.value (Operand.func 27), args := #[Operand.tmp 54, Operand.tmp 56, Operand.const (Value.int IntKind.i64 16)], argTypes := #[24, 33, 3] }, type := 24, pos := "law.go:127", after := #[{ on := 0, ground := Ground.data }, { on := 2, ground := Ground.data }], guard := none }) rfl (fun Kx hK => ?_) (AllReadyH.cons (o := { dst := some 9, op := Op.alloc 24, type := 0, pos := "law.go:127", after := #[], guard := none }) rfl (fun Kx hK => ?_) (AllReadyH.nil))
    · go_simp
      refine (qupush_any (V.out.later K0.out) (by omega) false yc ys yo ya yb yd 16 HQ3).mono ?_
      rintro e z1 ⟨u3, rfl, hu3, bz1⟩
      have K1 := Lib.hid (below2Z K0.out bz1)
      have D1 := Lib.hid (heldB_up K1.out D0.out)
      obtain ⟨a3, c3, rfl⟩ := chgs_shape hu3 NC.out
      have U3 := Lib.hid hu3
      clear hu3
      clear bz1
      go_wp2_with fail
      refine hK.out _ _ ?_ (fun hHeld2 => ?_)
      · exact D1.out
      clear hK Kx hHeld
      have hHeld := hHeld2
      clear hHeld2
      try simp only [Act.put, List.setIfInBounds_toArray, List.set_cons_zero, List.set_cons_succ]
      refine wpAnyH_ready (rs := [6, 7]) (by as_aux_lemma => kernel_rfl) (by simp) ?_
      refine AllReadyH.cons (o := { dst := some 60, op := Op.call { callee := Callee.value (Operand.func 27), args := #[Operand.tmp 57, Operand.tmp 59, Operand.const (Value.int IntKind.i64 16)], argTypes := #[24, 33, 3] }, type := 24, pos := "law.go:127", after := #[{ on := 3, ground := Ground.data }, { on := 5, ground := Ground.data }, { on := 3, ground := Ground.chain }], guard := none }) rfl (fun Kx hK => ?_) (AllReadyH.cons (o := { dst := some 9, op := Op.alloc 24, type := 0, pos := "law.go:127", after := #[], guard := none }) rfl (fun Kx hK => ?_) (AllReadyH.nil))
      · go_simp
        refine (qupush_any U3.out (by omega) ca xc xs xo xa xb xd 16 HQ4).mono ?_
        rintro e z2 ⟨u4, rfl, hu4, bz2⟩
        have K2 := Lib.hid (below2Z K1.out bz2)
        have D2 := Lib.hid (heldB_up K2.out D0.out)
        replace U3 := Lib.hid (Chgs.later U3.out bz2)
        obtain ⟨a4, c4, rfl⟩ := chgs_shape hu4 ND.out
        have U4 := Lib.hid hu4
        clear hu4
        clear bz2
        go_wp2_with fail
        refine hK.out _ _ ?_ (fun hHeld2 => ?_)
        · exact D2.out
        clear hK Kx hHeld
        have hHeld := hHeld2
        clear hHeld2
        try simp only [Act.put, List.setIfInBounds_toArray, List.set_cons_zero, List.set_cons_succ]
        refine wpAnyH_ready (rs := [7]) (by as_aux_lemma => kernel_rfl) (by simp) ?_
        refine AllReadyH.cons (o := { dst := some 9, op := Op.alloc 24, type := 0, pos := "law.go:127", after := #[], guard := none }) rfl (fun Kx hK => ?_) AllReadyH.nil
        go_simp
        refine hK.out _ _ ?_ (fun hHeld2 => ?_)
        · exact heldB_up (below2Z K2.out (bl_newZ _ _)) D0.out
        clear hK Kx hHeld
        have hHeld := hHeld2
        clear hHeld2
        try simp only [Act.put, List.setIfInBounds_toArray, List.set_cons_zero, List.set_cons_succ]
        have bz3 := bl_newZ z2 (.cells #[.slice none 0 0, .bool false] 24)
        have K3 := Lib.hid (below2Z K2.out bz3)
        have D3 := Lib.hid (heldB_up K3.out D0.out)
        have nz3 := Lib.hid ((MapKept.heap_alloc z2 (.cells #[.slice none 0 0, .bool false] 24)).1)
        have hB3 : W5.heap.size ≤ z2.heap.size := (K2.out).size
        replace U3 := Lib.hid (Chgs.later U3.out bz3)
        replace U4 := Lib.hid (Chgs.later U4.out bz3)
        clear bz3
        generalize z2.alloc (.cells #[.slice none 0 0, .bool false] 24) = z3 at K3 D3 nz3 U3 U4 hHeld ⊢
        generalize z2.heap.size = B3 at nz3 hB3  ⊢
        obtain ⟨⟨r0, r1⟩, g0, g1⟩ := twoQ nz3.out
        refine wpAnyH_ready (rs := [8]) (by as_aux_lemma => kernel_rfl) (by simp) ?_
        refine AllReadyH.cons (o := { dst := none, op := Op.store 24 (Operand.tmp 9) (Operand.tmp 60), type := 0, pos := "law.go:127", after := #[{ on := 7, ground := Ground.data }, { on := 6, ground := Ground.data }, { on := 6, ground := Ground.chain }, { on := 0, ground := Ground.phase }, { on := 1, ground := Ground.phase }, { on := 2, ground := Ground.phase }, { on := 3, ground := Ground.phase }, { on := 4, ground := Ground.phase }, { on := 5, ground := Ground.phase }, { on := 6, ground := Ground.phase }, { on := 7, ground := Ground.phase }], guard := none }) rfl (fun Kx hK => ?_) AllReadyH.nil
        go_simp
        clear r0 r1 g0 g1
        obtain ⟨y0, y1⟩ := set2Q (y0 := .slice a4 n c4) (y1 := .bool da) nz3.out
        have KE := Lib.hid ((((K3.out).setCell (p := ⟨B3, 0, none⟩) hB3 (.slice a4 n c4))).setCell (p := ⟨B3, 1, none⟩) hB3 (.bool da))
        have UE : Hid (Chgs ((z3.setCell ⟨B3, 0, none⟩ (.slice a4 n c4)).setCell ⟨B3, 1, none⟩ (.bool da)) (.slice a4 n c4) dl) := Lib.hid (chgs_far U4.out nz3.out)
        refine hK.out _ _ ?_ (fun hHeld2 => ?_)
        · exact heldB_up KE.out D0.out
        clear hK Kx hHeld
        have hHeld := hHeld2
        clear hHeld2
        refine wpAnyH_done (by kernel_rfl) ?_ _
        go_wp2_with fail
        go_meet
        exact ⟨B3, a4, c4, rfl, Lib.hid (cellsAt_two y0 y1), UE, KE⟩
      · go_simp
        refine hK.out _ _ ?_ (fun hHeld2 => ?_)
        · exact heldB_up (below2Z K1.out (bl_newZ _ _)) D0.out
        clear hK Kx hHeld
        have hHeld := hHeld2
        clear hHeld2
        try simp only [Act.put, List.setIfInBounds_toArray, List.set_cons_zero, List.set_cons_succ]
        have bz5 := bl_newZ z1 (.cells #[.slice none 0 0, .bool false] 24)
        have K5 := Lib.hid (below2Z K1.out bz5)
        have D5 := Lib.hid (heldB_up K5.out D0.out)
        have nz5 := Lib.hid ((MapKept.heap_alloc z1 (.cells #[.slice none 0 0, .bool false] 24)).1)
        have hB5 : W5.heap.size ≤ z1.heap.size := (K1.out).size
        replace U3 := Lib.hid (Chgs.later U3.out bz5)
        clear bz5
        generalize z1.alloc (.cells #[.slice none 0 0, .bool false] 24) = z5 at K5 D5 nz5 U3 hHeld ⊢
        generalize z1.heap.size = B5 at nz5 hB5  ⊢
        refine wpAnyH_ready (rs := [6]) (by as_aux_lemma => kernel_rfl) (by simp) ?_
        refine AllReadyH.cons (o := { dst := some 60, op := Op.call { callee := Callee.value (Operand.func 27), args := #[Operand.tmp 57, Operand.tmp 59, Operand.const (Value.int IntKind.i64 16)], argTypes := #[24, 33, 3] }, type := 24, pos := "law.go:127", after := #[{ on := 3, ground := Ground.data }, { on := 5, ground := Ground.data }, { on := 3, ground := Ground.chain }], guard := none }) rfl (fun Kx hK => ?_) AllReadyH.nil
        go_simp
        refine (qupush_any U3.out (by omega) ca xc xs xo xa xb xd 16 HQ4).mono ?_
        rintro e z6 ⟨u4, rfl, hu4, bz6⟩
        have K6 := Lib.hid (below2Z K5.out bz6)
        have D6 := Lib.hid (heldB_up K6.out D0.out)
        replace U3 := Lib.hid (Chgs.later U3.out bz6)
        replace nz5 := Lib.hid (((bz6).block _ (Array.getElem?_eq_some_iff.1 (nz5.out)).1).trans (nz5.out))
        obtain ⟨a4, c4, rfl⟩ := chgs_shape hu4 ND.out
        have U4 := Lib.hid hu4
        clear hu4
        clear bz6
        go_wp2_with fail
        refine hK.out _ _ ?_ (fun hHeld2 => ?_)
        · exact D6.out
        clear hK Kx hHeld
        have hHeld := hHeld2
        clear hHeld2
        try simp only [Act.put, List.setIfInBounds_toArray, List.set_cons_zero, List.set_cons_succ]
        obtain ⟨⟨r0, r1⟩, g0, g1⟩ := twoQ nz5.out
        refine wpAnyH_ready (rs := [8]) (by as_aux_lemma => kernel_rfl) (by simp) ?_
        refine AllReadyH.cons (o := { dst := none, op := Op.store 24 (Operand.tmp 9) (Operand.tmp 60), type := 0, pos := "law.go:127", after := #[{ on := 7, ground := Ground.data }, { on := 6, ground := Ground.data }, { on := 6, ground := Ground.chain }, { on := 0, ground := Ground.phase }, { on := 1, ground := Ground.phase }, { on := 2, ground := Ground.phase }, { on := 3, ground := Ground.phase }, { on := 4, ground := Ground.phase }, { on := 5, ground := Ground.phase }, { on := 6, ground := Ground.phase }, { on := 7, ground := Ground.phase }], guard := none }) rfl (fun Kx hK => ?_) AllReadyH.nil
        go_simp
        clear r0 r1 g0 g1
        obtain ⟨y0, y1⟩ := set2Q (y0 := .slice a4 n c4) (y1 := .bool da) nz5.out
        have KE := Lib.hid ((((K6.out).setCell (p := ⟨B5, 0, none⟩) hB5 (.slice a4 n c4))).setCell (p := ⟨B5, 1, none⟩) hB5 (.bool da))
        have UE : Hid (Chgs ((z6.setCell ⟨B5, 0, none⟩ (.slice a4 n c4)).setCell ⟨B5, 1, none⟩ (.bool da)) (.slice a4 n c4) dl) := Lib.hid (chgs_far U4.out nz5.out)
        refine hK.out _ _ ?_ (fun hHeld2 => ?_)
        · exact heldB_up KE.out D0.out
        clear hK Kx hHeld
        have hHeld := hHeld2
        clear hHeld2
        refine wpAnyH_done (by kernel_rfl) ?_ _
        go_wp2_with fail
        go_meet
        exact ⟨B5, a4, c4, rfl, Lib.hid (cellsAt_two y0 y1), UE, KE⟩
    · go_simp
      refine hK.out _ _ ?_ (fun hHeld2 => ?_)
      · exact heldB_up (below2Z K0.out (bl_newZ _ _)) D0.out
      clear hK Kx hHeld
      have hHeld := hHeld2
      clear hHeld2
      try simp only [Act.put, List.setIfInBounds_toArray, List.set_cons_zero, List.set_cons_succ]
      have bz8 := bl_newZ z0 (.cells #[.slice none 0 0, .bool false] 24)
      have K8 := Lib.hid (below2Z K0.out bz8)
      have D8 := Lib.hid (heldB_up K8.out D0.out)
      have nz8 := Lib.hid ((MapKept.heap_alloc z0 (.cells #[.slice none 0 0, .bool false] 24)).1)
      have hB8 : W5.heap.size ≤ z0.heap.size := (K0.out).size
      clear bz8
      generalize z0.alloc (.cells #[.slice none 0 0, .bool false] 24) = z8 at K8 D8 nz8 hHeld ⊢
      generalize z0.heap.size = B8 at nz8 hB8  ⊢
      refine wpAnyH_ready (rs := [3]) (by as_aux_lemma => kernel_rfl) (by simp) ?_
      refine AllReadyH.cons (o := { dst := some 57, op := Op.call { callee := Callee.value (Operand.func 27), args := #[Operand.tmp 54, Operand.tmp 56, Operand.const (Value.int IntKind.i64 16)], argTypes := #[24, 33, 3] }, type := 24, pos := "law.go:127", after := #[{ on := 0, ground := Ground.data }, { on := 2, ground := Ground.data }], guard := none }) rfl (fun Kx hK => ?_) AllReadyH.nil
      go_simp
      refine (qupush_any (V.out.later K8.out) (by omega) false yc ys yo ya yb yd 16 HQ3).mono ?_
      rintro e z9 ⟨u3, rfl, hu3, bz9⟩
      have K9 := Lib.hid (below2Z K8.out bz9)
      have D9 := Lib.hid (heldB_up K9.out D0.out)
      replace nz8 := Lib.hid (((bz9).block _ (Array.getElem?_eq_some_iff.1 (nz8.out)).1).trans (nz8.out))
      obtain ⟨a3, c3, rfl⟩ := chgs_shape hu3 NC.out
      have U3 := Lib.hid hu3
      clear hu3
      clear bz9
      go_wp2_with fail
      refine hK.out _ _ ?_ (fun hHeld2 => ?_)
      · exact D9.out
      clear hK Kx hHeld
      have hHeld := hHeld2
      clear hHeld2
      try simp only [Act.put, List.setIfInBounds_toArray, List.set_cons_zero, List.set_cons_succ]
      refine wpAnyH_ready (rs := [6]) (by as_aux_lemma => kernel_rfl) (by simp) ?_
      refine AllReadyH.cons (o := { dst := some 60, op := Op.call { callee := Callee.value (Operand.func 27), args := #[Operand.tmp 57, Operand.tmp 59, Operand.const (Value.int IntKind.i64 16)], argTypes := #[24, 33, 3] }, type := 24, pos := "law.go:127", after := #[{ on := 3, ground := Ground.data }, { on := 5, ground := Ground.data }, { on := 3, ground := Ground.chain }], guard := none }) rfl (fun Kx hK => ?_) AllReadyH.nil
      go_simp
      refine (qupush_any U3.out (by omega) ca xc xs xo xa xb xd 16 HQ4).mono ?_
      rintro e z10 ⟨u4, rfl, hu4, bz10⟩
      have K10 := Lib.hid (below2Z K9.out bz10)
      have D10 := Lib.hid (heldB_up K10.out D0.out)
      replace nz8 := Lib.hid (((bz10).block _ (Array.getElem?_eq_some_iff.1 (nz8.out)).1).trans (nz8.out))
      replace U3 := Lib.hid (Chgs.later U3.out bz10)
      obtain ⟨a4, c4, rfl⟩ := chgs_shape hu4 ND.out
      have U4 := Lib.hid hu4
      clear hu4
      clear bz10
      go_wp2_with fail
      refine hK.out _ _ ?_ (fun hHeld2 => ?_)
      · exact D10.out
      clear hK Kx hHeld
      have hHeld := hHeld2
      clear hHeld2
      try simp only [Act.put, List.setIfInBounds_toArray, List.set_cons_zero, List.set_cons_succ]
      obtain ⟨⟨r0, r1⟩, g0, g1⟩ := twoQ nz8.out
      refine wpAnyH_ready (rs := [8]) (by as_aux_lemma => kernel_rfl) (by simp) ?_
      refine AllReadyH.cons (o := { dst := none, op := Op.store 24 (Operand.tmp 9) (Operand.tmp 60), type := 0, pos := "law.go:127", after := #[{ on := 7, ground := Ground.data }, { on := 6, ground := Ground.data }, { on := 6, ground := Ground.chain }, { on := 0, ground := Ground.phase }, { on := 1, ground := Ground.phase }, { on := 2, ground := Ground.phase }, { on := 3, ground := Ground.phase }, { on := 4, ground := Ground.phase }, { on := 5, ground := Ground.phase }, { on := 6, ground := Ground.phase }, { on := 7, ground := Ground.phase }], guard := none }) rfl (fun Kx hK => ?_) AllReadyH.nil
      go_simp
      clear r0 r1 g0 g1
      obtain ⟨y0, y1⟩ := set2Q (y0 := .slice a4 n c4) (y1 := .bool da) nz8.out
      have KE := Lib.hid ((((K10.out).setCell (p := ⟨B8, 0, none⟩) hB8 (.slice a4 n c4))).setCell (p := ⟨B8, 1, none⟩) hB8 (.bool da))
      have UE : Hid (Chgs ((z10.setCell ⟨B8, 0, none⟩ (.slice a4 n c4)).setCell ⟨B8, 1, none⟩ (.bool da)) (.slice a4 n c4) dl) := Lib.hid (chgs_far U4.out nz8.out)
      refine hK.out _ _ ?_ (fun hHeld2 => ?_)
      · exact heldB_up KE.out D0.out
      clear hK Kx hHeld
      have hHeld := hHeld2
      clear hHeld2
      refine wpAnyH_done (by kernel_rfl) ?_ _
      go_wp2_with fail
      go_meet
      exact ⟨B8, a4, c4, rfl, Lib.hid (cellsAt_two y0 y1), UE, KE⟩
  case rest =>
    obtain ⟨BE, a4, c4, rfl, E, U4, HK⟩ := hcut
    replace V := Lib.hid (V.out.later HK.out)
    replace T := Lib.hid (T.out.later HK.out)
    replace A := Lib.hid (A.out.later HK.out)
    replace C := Lib.hid (C.out.later HK.out)
    replace U1 := Lib.hid (U1.out.later HK.out)
    replace P := Lib.hid (P.out.later HK.out)
    replace U2 := Lib.hid (U2.out.later HK.out)
    replace Q := Lib.hid (Q.out.later HK.out)
    replace HB := Lib.hid (below2Z HB.out HK.out)
    clear HK
    go_upto_region 6 with fail
    obtain ⟨BS, hBS⟩ : ∃ BS : List (Nat × List Value), BS = [(BP, [.slice a1 na c1, .bool aa]), (w.heap.size + 1, [.string ⟨xc.toArray⟩, .bool xo, .int .i64 xa, .int .i64 xb, .int .i64 xd, .string ⟨xs.toArray⟩, .string ⟨yc.toArray⟩, .bool yo, .int .i64 ya, .int .i64 yb, .int .i64 yd, .string ⟨ys.toArray⟩])] := ⟨_, rfl⟩
    have D0 := Lib.hid (show heldB wc BS from by rw [hBS]; exact heldB_cons (P.out) (heldB_cons (C.out) (heldB_nil _)))
    have hq0 : ∀ X, heldB X BS → X.cell? ⟨BP, 0, none⟩ = some (.slice a1 na c1) := fun X hx => heldB_get (vs := [.slice a1 na c1, .bool aa]) hx (by rw [hBS]; simp) rfl
    have hq1 : ∀ X, heldB X BS → X.cell? ⟨BP, 1, none⟩ = some (.bool aa) := fun X hx => heldB_get (vs := [.slice a1 na c1, .bool aa]) hx (by rw [hBS]; simp) rfl
    have hq2 : ∀ X, heldB X BS → X.cell? ⟨w.heap.size + 1, 0, none⟩ = some (.string ⟨xc.toArray⟩) := fun X hx => heldB_get (vs := [.string ⟨xc.toArray⟩, .bool xo, .int .i64 xa, .int .i64 xb, .int .i64 xd, .string ⟨xs.toArray⟩, .string ⟨yc.toArray⟩, .bool yo, .int .i64 ya, .int .i64 yb, .int .i64 yd, .string ⟨ys.toArray⟩]) hx (by rw [hBS]; simp) rfl
    have hq3 : ∀ X, heldB X BS → X.cell? ⟨w.heap.size + 1, 1, none⟩ = some (.bool xo) := fun X hx => heldB_get (vs := [.string ⟨xc.toArray⟩, .bool xo, .int .i64 xa, .int .i64 xb, .int .i64 xd, .string ⟨xs.toArray⟩, .string ⟨yc.toArray⟩, .bool yo, .int .i64 ya, .int .i64 yb, .int .i64 yd, .string ⟨ys.toArray⟩]) hx (by rw [hBS]; simp) rfl
    have hq4 : ∀ X, heldB X BS → X.cell? ⟨w.heap.size + 1, 2, none⟩ = some (.int .i64 xa) := fun X hx => heldB_get (vs := [.string ⟨xc.toArray⟩, .bool xo, .int .i64 xa, .int .i64 xb, .int .i64 xd, .string ⟨xs.toArray⟩, .string ⟨yc.toArray⟩, .bool yo, .int .i64 ya, .int .i64 yb, .int .i64 yd, .string ⟨ys.toArray⟩]) hx (by rw [hBS]; simp) rfl
    have hq5 : ∀ X, heldB X BS → X.cell? ⟨w.heap.size + 1, 3, none⟩ = some (.int .i64 xb) := fun X hx => heldB_get (vs := [.string ⟨xc.toArray⟩, .bool xo, .int .i64 xa, .int .i64 xb, .int .i64 xd, .string ⟨xs.toArray⟩, .string ⟨yc.toArray⟩, .bool yo, .int .i64 ya, .int .i64 yb, .int .i64 yd, .string ⟨ys.toArray⟩]) hx (by rw [hBS]; simp) rfl
    have hq6 : ∀ X, heldB X BS → X.cell? ⟨w.heap.size + 1, 4, none⟩ = some (.int .i64 xd) := fun X hx => heldB_get (vs := [.string ⟨xc.toArray⟩, .bool xo, .int .i64 xa, .int .i64 xb, .int .i64 xd, .string ⟨xs.toArray⟩, .string ⟨yc.toArray⟩, .bool yo, .int .i64 ya, .int .i64 yb, .int .i64 yd, .string ⟨ys.toArray⟩]) hx (by rw [hBS]; simp) rfl
    have hq7 : ∀ X, heldB X BS → X.cell? ⟨w.heap.size + 1, 5, none⟩ = some (.string ⟨xs.toArray⟩) := fun X hx => heldB_get (vs := [.string ⟨xc.toArray⟩, .bool xo, .int .i64 xa, .int .i64 xb, .int .i64 xd, .string ⟨xs.toArray⟩, .string ⟨yc.toArray⟩, .bool yo, .int .i64 ya, .int .i64 yb, .int .i64 yd, .string ⟨ys.toArray⟩]) hx (by rw [hBS]; simp) rfl
    have hq8 : ∀ X, heldB X BS → X.cell? ⟨w.heap.size + 1, 6, none⟩ = some (.string ⟨yc.toArray⟩) := fun X hx => heldB_get (vs := [.string ⟨xc.toArray⟩, .bool xo, .int .i64 xa, .int .i64 xb, .int .i64 xd, .string ⟨xs.toArray⟩, .string ⟨yc.toArray⟩, .bool yo, .int .i64 ya, .int .i64 yb, .int .i64 yd, .string ⟨ys.toArray⟩]) hx (by rw [hBS]; simp) rfl
    have hq9 : ∀ X, heldB X BS → X.cell? ⟨w.heap.size + 1, 7, none⟩ = some (.bool yo) := fun X hx => heldB_get (vs := [.string ⟨xc.toArray⟩, .bool xo, .int .i64 xa, .int .i64 xb, .int .i64 xd, .string ⟨xs.toArray⟩, .string ⟨yc.toArray⟩, .bool yo, .int .i64 ya, .int .i64 yb, .int .i64 yd, .string ⟨ys.toArray⟩]) hx (by rw [hBS]; simp) rfl
    have hq10 : ∀ X, heldB X BS → X.cell? ⟨w.heap.size + 1, 8, none⟩ = some (.int .i64 ya) := fun X hx => heldB_get (vs := [.string ⟨xc.toArray⟩, .bool xo, .int .i64 xa, .int .i64 xb, .int .i64 xd, .string ⟨xs.toArray⟩, .string ⟨yc.toArray⟩, .bool yo, .int .i64 ya, .int .i64 yb, .int .i64 yd, .string ⟨ys.toArray⟩]) hx (by rw [hBS]; simp) rfl
    have hq11 : ∀ X, heldB X BS → X.cell? ⟨w.heap.size + 1, 9, none⟩ = some (.int .i64 yb) := fun X hx => heldB_get (vs := [.string ⟨xc.toArray⟩, .bool xo, .int .i64 xa, .int .i64 xb, .int .i64 xd, .string ⟨xs.toArray⟩, .string ⟨yc.toArray⟩, .bool yo, .int .i64 ya, .int .i64 yb, .int .i64 yd, .string ⟨ys.toArray⟩]) hx (by rw [hBS]; simp) rfl
    have hq12 : ∀ X, heldB X BS → X.cell? ⟨w.heap.size + 1, 10, none⟩ = some (.int .i64 yd) := fun X hx => heldB_get (vs := [.string ⟨xc.toArray⟩, .bool xo, .int .i64 xa, .int .i64 xb, .int .i64 xd, .string ⟨xs.toArray⟩, .string ⟨yc.toArray⟩, .bool yo, .int .i64 ya, .int .i64 yb, .int .i64 yd, .string ⟨ys.toArray⟩]) hx (by rw [hBS]; simp) rfl
    have hq13 : ∀ X, heldB X BS → X.cell? ⟨w.heap.size + 1, 11, none⟩ = some (.string ⟨ys.toArray⟩) := fun X hx => heldB_get (vs := [.string ⟨xc.toArray⟩, .bool xo, .int .i64 xa, .int .i64 xb, .int .i64 xd, .string ⟨xs.toArray⟩, .string ⟨yc.toArray⟩, .bool yo, .int .i64 ya, .int .i64 yb, .int .i64 yd, .string ⟨ys.toArray⟩]) hx (by rw [hBS]; simp) rfl
    clear hBS
    have K0 : Hid (Below wc.heap.size wc wc.drew) := Lib.hid (Below.refl _ _).drew
    refine wp_region_held_drew (S := (fun X => heldB X BS)) (by kernel_rfl) ?_ (fun hHeld => ?_)
    · exact heldB_up K0.out D0.out
    generalize wc.drew = z0 at K0 hHeld ⊢
    refine wpAnyH_take (i := 0) (oi := { dst := some 61, op := Op.load 24 (Operand.tmp 7), type := 24, pos := "law.go:128", after := #[], guard := none }) (v := ?_) rfl (by as_aux_lemma => kernel_rfl) (by as_aux_lemma => kernel_rfl) (by as_aux_lemma => kernel_rfl) (fun _ _ _ h => h) (Or.inl ⟨by rfl, ?_⟩) (by assumption) ?_
    rotate_left
    · intro w' hSw
      try dsimp only at hSw
      go_simp
      try with_reducible rfl
    try simp only [Act.put, List.setIfInBounds_toArray, List.set_cons_zero, List.set_cons_succ]
    refine wpAnyH_take (i := 1) (oi := { dst := some 62, op := Op.indexAddr 49 (Operand.tmp 5) (Operand.const (Value.int IntKind.i64 0)), type := 0, pos := "law.go:128", after := #[], guard := none }) (v := ?_) rfl (by as_aux_lemma => kernel_rfl) (by as_aux_lemma => kernel_rfl) (by as_aux_lemma => kernel_rfl) (fun _ _ _ h => h) (Or.inl ⟨by rfl, ?_⟩) (by assumption) ?_
    rotate_left
    · intro w' hSw
      try dsimp only at hSw
      go_simp
      try with_reducible rfl
    try simp only [Act.put, List.setIfInBounds_toArray, List.set_cons_zero, List.set_cons_succ]
    refine wpAnyH_take (i := 2) (oi := { dst := some 63, op := Op.load 33 (Operand.tmp 62), type := 33, pos := "law.go:128", after := #[{ on := 1, ground := Ground.data }], guard := none }) (v := ?_) rfl (by as_aux_lemma => kernel_rfl) (by as_aux_lemma => kernel_rfl) (by as_aux_lemma => kernel_rfl) (fun _ _ _ h => h) (Or.inl ⟨by rfl, ?_⟩) (by assumption) ?_
    rotate_left
    · intro w' hSw
      try dsimp only at hSw
      go_simp
      try with_reducible rfl
    try simp only [Act.put, List.setIfInBounds_toArray, List.set_cons_zero, List.set_cons_succ]
    refine wpAnyH_take (i := 4) (oi := { dst := some 65, op := Op.load 24 (Operand.tmp 7), type := 24, pos := "law.go:128", after := #[], guard := none }) (v := ?_) rfl (by as_aux_lemma => kernel_rfl) (by as_aux_lemma => kernel_rfl) (by as_aux_lemma => kernel_rfl) (fun _ _ _ h => h) (Or.inl ⟨by rfl, ?_⟩) (by assumption) ?_
    rotate_left
    · intro w' hSw
      try dsimp only at hSw
      go_simp
      try with_reducible rfl
    try simp only [Act.put, List.setIfInBounds_toArray, List.set_cons_zero, List.set_cons_succ]
    refine wpAnyH_ready (rs := [3]) (by as_aux_lemma => kernel_rfl) (by simp) ?_
    refine AllReadyH.cons (o := { dst := some 64, op := Op.call { callee := Callee.value (Operand.func 27), args := #[Operand.tmp 61, Operand.tmp 63, Operand.const (Value.int IntKind.i64 16)], argTypes := #[24, 33, 3] }, type := 24, pos := "law.go:128", after := #[{ on := 0, ground := Ground.data }, { on := 2, ground := Ground.data }], guard := none }) rfl (fun Kx hK => ?_) AllReadyH.nil
    go_simp
    refine (qupush_any (U1.out.later K0.out) (by omega) aa xc xs xo xa xb xd 16 HQ5).mono ?_
    rintro e z1 ⟨u5, rfl, hu5, bz1⟩
    have K1 := Lib.hid (below2Z K0.out bz1)
    have D1 := Lib.hid (heldB_up K1.out D0.out)
    obtain ⟨a5, c5, rfl⟩ := chgs_shape hu5 NA.out
    have U5 := Lib.hid hu5
    clear hu5
    clear bz1
    go_wp2_with fail
    refine hK.out _ _ ?_ (fun hHeld2 => ?_)
    · exact D1.out
    clear hK Kx hHeld
    have hHeld := hHeld2
    clear hHeld2
    try simp only [Act.put, List.setIfInBounds_toArray, List.set_cons_zero, List.set_cons_succ]
    refine wpAnyH_ready (rs := [5]) (by as_aux_lemma => kernel_rfl) (by simp) ?_
    refine AllReadyH.cons (o := { dst := some 66, op := Op.call { callee := Callee.value (Operand.func 20), args := #[Operand.tmp 64, Operand.tmp 65], argTypes := #[24, 24] }, type := 4, pos := "law.go:128", after := #[{ on := 3, ground := Ground.data }, { on := 4, ground := Ground.data }, { on := 3, ground := Ground.chain }], guard := none }) rfl (fun Kx hK => ?_) AllReadyH.nil
    go_simp
    refine (qusame_any U5.out (U1.out.later K1.out) aa aa (Lib.hid (quSame_self _))).mono ?_
    rintro e z2 ⟨rfl, bz2⟩
    have K2 := Lib.hid (below2Z K1.out bz2)
    have D2 := Lib.hid (heldB_up K2.out D0.out)
    replace U5 := Lib.hid (Chgs.later U5.out bz2)
    clear bz2
    go_wp2_with fail
    refine hK.out _ _ ?_ (fun hHeld2 => ?_)
    · exact D2.out
    clear hK Kx hHeld
    have hHeld := hHeld2
    clear hHeld2
    try simp only [Act.put, List.setIfInBounds_toArray, List.set_cons_zero, List.set_cons_succ]
    refine wpAnyH_take (i := 6) (oi := { dst := some 67, op := Op.unOp UnOp.not 4 (Operand.tmp 66), type := 4, pos := "law.go:128", after := #[{ on := 5, ground := Ground.data }], guard := none }) (v := ?_) rfl (by as_aux_lemma => kernel_rfl) (by as_aux_lemma => kernel_rfl) (by as_aux_lemma => kernel_rfl) (fun _ _ _ h => h) (Or.inl ⟨by rfl, ?_⟩) (by assumption) ?_
    rotate_left
    · intro w' hSw
      try dsimp only at hSw
      go_simp
      try with_reducible rfl
    try simp only [Act.put, List.setIfInBounds_toArray, List.set_cons_zero, List.set_cons_succ]
    refine wpAnyH_done (by kernel_rfl) ?_ _
    replace V := Lib.hid (V.out.later K2.out)
    replace T := Lib.hid (T.out.later K2.out)
    replace A := Lib.hid (A.out.later K2.out)
    replace C := Lib.hid (C.out.later K2.out)
    replace U1 := Lib.hid (U1.out.later K2.out)
    replace P := Lib.hid (P.out.later K2.out)
    replace U2 := Lib.hid (U2.out.later K2.out)
    replace Q := Lib.hid (Q.out.later K2.out)
    replace E := Lib.hid (E.out.later K2.out)
    replace U4 := Lib.hid (U4.out.later K2.out)
    replace HB := Lib.hid (below2Z HB.out K2.out)
    clear hHeld U5 D1 D2
    obtain ⟨q0, q1⟩ := twoAt A.out
    obtain ⟨⟨r0, r1, r2, r3, r4, r5⟩, r6, r7, r8, r9, r10, r11⟩ := twelveAt C.out
    go_upto_region 12 with fail
    clear q0 q1 r0 r1 r2 r3 r4 r5 r6 r7 r8 r9 r10 r11
    try clear hHeld
    try clear D0
    try clear K0
    try clear hBS
    try clear hq0
    try clear hq1
    try clear hq2
    try clear hq3
    try clear hq4
    try clear hq5
    try clear hq6
    try clear hq7
    try clear hq8
    try clear hq9
    try clear hq10
    try clear hq11
    try clear hq12
    try clear hq13
    obtain ⟨BS, hBS⟩ : ∃ BS : List (Nat × List Value), BS = [(BQ, [.slice a2 n c2, .bool ba]), (BE, [.slice a4 n c4, .bool da])] := ⟨_, rfl⟩
    have D0 := Lib.hid (show heldB z2 BS from by rw [hBS]; exact heldB_cons (Q.out) (heldB_cons (E.out) (heldB_nil _)))
    have hq0 : ∀ X, heldB X BS → X.cell? ⟨BQ, 0, none⟩ = some (.slice a2 n c2) := fun X hx => heldB_get (vs := [.slice a2 n c2, .bool ba]) hx (by rw [hBS]; simp) rfl
    have hq1 : ∀ X, heldB X BS → X.cell? ⟨BQ, 1, none⟩ = some (.bool ba) := fun X hx => heldB_get (vs := [.slice a2 n c2, .bool ba]) hx (by rw [hBS]; simp) rfl
    have hq2 : ∀ X, heldB X BS → X.cell? ⟨BE, 0, none⟩ = some (.slice a4 n c4) := fun X hx => heldB_get (vs := [.slice a4 n c4, .bool da]) hx (by rw [hBS]; simp) rfl
    have hq3 : ∀ X, heldB X BS → X.cell? ⟨BE, 1, none⟩ = some (.bool da) := fun X hx => heldB_get (vs := [.slice a4 n c4, .bool da]) hx (by rw [hBS]; simp) rfl
    clear hBS
    have K0 : Hid (Below z2.heap.size z2 z2.drew) := Lib.hid (Below.refl _ _).drew
    refine wp_region_held_drew (S := (fun X => heldB X BS)) (by kernel_rfl) ?_ (fun hHeld => ?_)
    · exact heldB_up K0.out D0.out
    generalize z2.drew = z0 at K0 hHeld ⊢
    refine wpAnyH_take (i := 0) (oi := { dst := some 89, op := Op.fieldAddr 24 (Operand.tmp 8) 0, type := 0, pos := "law.go:137", after := #[], guard := none }) (v := ?_) rfl (by as_aux_lemma => kernel_rfl) (by as_aux_lemma => kernel_rfl) (by as_aux_lemma => kernel_rfl) (fun _ _ _ h => h) (Or.inl ⟨by rfl, ?_⟩) (by assumption) ?_
    rotate_left
    · intro w' hSw
      try dsimp only at hSw
      go_simp
      try with_reducible rfl
    try simp only [Act.put, List.setIfInBounds_toArray, List.set_cons_zero, List.set_cons_succ]
    refine wpAnyH_take (i := 1) (oi := { dst := some 90, op := Op.load 22 (Operand.tmp 89), type := 22, pos := "law.go:137", after := #[{ on := 0, ground := Ground.data }], guard := none }) (v := ?_) rfl (by as_aux_lemma => kernel_rfl) (by as_aux_lemma => kernel_rfl) (by as_aux_lemma => kernel_rfl) (fun _ _ _ h => h) (Or.inl ⟨by rfl, ?_⟩) (by assumption) ?_
    rotate_left
    · intro w' hSw
      try dsimp only at hSw
      go_simp
      try with_reducible rfl
    try simp only [Act.put, List.setIfInBounds_toArray, List.set_cons_zero, List.set_cons_succ]
    refine wpAnyH_take (i := 2) (oi := { dst := some 91, op := Op.call { callee := Callee.builtin Builtin.len, args := #[Operand.tmp 90], argTypes := #[22] }, type := 3, pos := "law.go:137", after := #[{ on := 1, ground := Ground.data }], guard := none }) (v := ?_) rfl (by as_aux_lemma => kernel_rfl) (by as_aux_lemma => kernel_rfl) (by as_aux_lemma => kernel_rfl) (fun _ _ _ h => h) (Or.inl ⟨by rfl, ?_⟩) (by assumption) ?_
    rotate_left
    · intro w' hSw
      try dsimp only at hSw
      go_simp
      try with_reducible rfl
    try simp only [Act.put, List.setIfInBounds_toArray, List.set_cons_zero, List.set_cons_succ]
    refine wpAnyH_take (i := 3) (oi := { dst := some 92, op := Op.fieldAddr 24 (Operand.tmp 9) 0, type := 0, pos := "law.go:137", after := #[], guard := none }) (v := ?_) rfl (by as_aux_lemma => kernel_rfl) (by as_aux_lemma => kernel_rfl) (by as_aux_lemma => kernel_rfl) (fun _ _ _ h => h) (Or.inl ⟨by rfl, ?_⟩) (by assumption) ?_
    rotate_left
    · intro w' hSw
      try dsimp only at hSw
      go_simp
      try with_reducible rfl
    try simp only [Act.put, List.setIfInBounds_toArray, List.set_cons_zero, List.set_cons_succ]
    refine wpAnyH_take (i := 4) (oi := { dst := some 93, op := Op.load 22 (Operand.tmp 92), type := 22, pos := "law.go:137", after := #[{ on := 3, ground := Ground.data }], guard := none }) (v := ?_) rfl (by as_aux_lemma => kernel_rfl) (by as_aux_lemma => kernel_rfl) (by as_aux_lemma => kernel_rfl) (fun _ _ _ h => h) (Or.inl ⟨by rfl, ?_⟩) (by assumption) ?_
    rotate_left
    · intro w' hSw
      try dsimp only at hSw
      go_simp
      try with_reducible rfl
    try simp only [Act.put, List.setIfInBounds_toArray, List.set_cons_zero, List.set_cons_succ]
    refine wpAnyH_take (i := 5) (oi := { dst := some 94, op := Op.call { callee := Callee.builtin Builtin.len, args := #[Operand.tmp 93], argTypes := #[22] }, type := 3, pos := "law.go:137", after := #[{ on := 4, ground := Ground.data }], guard := none }) (v := ?_) rfl (by as_aux_lemma => kernel_rfl) (by as_aux_lemma => kernel_rfl) (by as_aux_lemma => kernel_rfl) (fun _ _ _ h => h) (Or.inl ⟨by rfl, ?_⟩) (by assumption) ?_
    rotate_left
    · intro w' hSw
      try dsimp only at hSw
      go_simp
      try with_reducible rfl
    try simp only [Act.put, List.setIfInBounds_toArray, List.set_cons_zero, List.set_cons_succ]
    refine wpAnyH_take (i := 6) (oi := { dst := some 95, op := Op.binOp BinOp.eql 3 (Operand.tmp 91) (Operand.tmp 94) 3, type := 4, pos := "law.go:137", after := #[{ on := 2, ground := Ground.data }, { on := 5, ground := Ground.data }], guard := none }) (v := ?_) rfl (by as_aux_lemma => kernel_rfl) (by as_aux_lemma => kernel_rfl) (by as_aux_lemma => kernel_rfl) (fun _ _ _ h => h) (Or.inl ⟨by rfl, ?_⟩) (by assumption) ?_
    rotate_left
    · intro w' hSw
      try dsimp only at hSw
      go_simp
      try with_reducible rfl
    try simp only [Act.put, List.setIfInBounds_toArray, List.set_cons_zero, List.set_cons_succ]
    refine wpAnyH_take (i := 7) (oi := { dst := some 96, op := Op.move (Operand.tmp 95), type := 4, pos := "law.go:137", after := #[{ on := 6, ground := Ground.data }], guard := none }) (v := ?_) rfl (by as_aux_lemma => kernel_rfl) (by as_aux_lemma => kernel_rfl) (by as_aux_lemma => kernel_rfl) (fun _ _ _ h => h) (Or.inl ⟨by rfl, ?_⟩) (by assumption) ?_
    rotate_left
    · intro w' hSw
      try dsimp only at hSw
      go_simp
      try with_reducible rfl
    try simp only [Act.put, List.setIfInBounds_toArray, List.set_cons_zero, List.set_cons_succ]
    refine wpAnyH_take (i := 8) (oi := { dst := some 97, op := Op.move (Operand.tmp 1), type := 25, pos := "law.go:137", after := #[{ on := 7, ground := Ground.guard }], guard := some (7, true) }) (v := ?_) rfl (by as_aux_lemma => kernel_rfl) (by as_aux_lemma => kernel_rfl) (by as_aux_lemma => kernel_rfl) (fun _ _ _ h => h) (Or.inl ⟨by rfl, ?_⟩) (by assumption) ?_
    rotate_left
    · intro w' hSw
      try dsimp only at hSw
      go_simp
      try with_reducible rfl
    try simp only [Act.put, List.setIfInBounds_toArray, List.set_cons_zero, List.set_cons_succ]
    refine wpAnyH_take (i := 9) (oi := { dst := some 98, op := Op.load 24 (Operand.tmp 8), type := 24, pos := "law.go:137", after := #[{ on := 7, ground := Ground.guard }], guard := some (7, true) }) (v := ?_) rfl (by as_aux_lemma => kernel_rfl) (by as_aux_lemma => kernel_rfl) (by as_aux_lemma => kernel_rfl) (fun _ _ _ h => h) (Or.inl ⟨by rfl, ?_⟩) (by assumption) ?_
    rotate_left
    · intro w' hSw
      try dsimp only at hSw
      go_simp
      try with_reducible rfl
    try simp only [Act.put, List.setIfInBounds_toArray, List.set_cons_zero, List.set_cons_succ]
    refine wpAnyH_take (i := 11) (oi := { dst := some 100, op := Op.move (Operand.tmp 1), type := 25, pos := "law.go:137", after := #[{ on := 7, ground := Ground.guard }], guard := some (7, true) }) (v := ?_) rfl (by as_aux_lemma => kernel_rfl) (by as_aux_lemma => kernel_rfl) (by as_aux_lemma => kernel_rfl) (fun _ _ _ h => h) (Or.inl ⟨by rfl, ?_⟩) (by assumption) ?_
    rotate_left
    · intro w' hSw
      try dsimp only at hSw
      go_simp
      try with_reducible rfl
    try simp only [Act.put, List.setIfInBounds_toArray, List.set_cons_zero, List.set_cons_succ]
    refine wpAnyH_take (i := 12) (oi := { dst := some 101, op := Op.load 24 (Operand.tmp 9), type := 24, pos := "law.go:137", after := #[{ on := 7, ground := Ground.guard }], guard := some (7, true) }) (v := ?_) rfl (by as_aux_lemma => kernel_rfl) (by as_aux_lemma => kernel_rfl) (by as_aux_lemma => kernel_rfl) (fun _ _ _ h => h) (Or.inl ⟨by rfl, ?_⟩) (by assumption) ?_
    rotate_left
    · intro w' hSw
      try dsimp only at hSw
      go_simp
      try with_reducible rfl
    try simp only [Act.put, List.setIfInBounds_toArray, List.set_cons_zero, List.set_cons_succ]
    refine wpAnyH_ready (rs := [10]) (by as_aux_lemma => kernel_rfl) (by simp) ?_
    refine AllReadyH.cons (o := { dst := some 99, op := Op.call { callee := Callee.value (Operand.func 24), args := #[Operand.tmp 97, Operand.tmp 98], argTypes := #[25, 24] }, type := 25, pos := "law.go:137", after := #[{ on := 8, ground := Ground.data }, { on := 9, ground := Ground.data }, { on := 7, ground := Ground.chain }, { on := 7, ground := Ground.guard }], guard := some (7, true) }) rfl (fun Kx hK => ?_) AllReadyH.nil
    go_simp
    refine (quover_any (T.out.later K0.out) (by omega) (U2.out.later K0.out) (by omega) ba).mono ?_
    rintro e z21 ⟨x1, rfl, hx1, bz21⟩
    have K21 := Lib.hid (below2Z K0.out bz21)
    have D21 := Lib.hid (heldB_up K21.out D0.out)
    obtain ⟨xa1, xc1, rfl, -⟩ := hx1.open'
    have O1 := Lib.hid hx1
    clear hx1
    clear bz21
    go_wp2_with fail
    refine hK.out _ _ ?_ (fun hHeld2 => ?_)
    · exact D21.out
    clear hK Kx hHeld
    have hHeld := hHeld2
    clear hHeld2
    try simp only [Act.put, List.setIfInBounds_toArray, List.set_cons_zero, List.set_cons_succ]
    refine wpAnyH_ready (rs := [13]) (by as_aux_lemma => kernel_rfl) (by simp) ?_
    refine AllReadyH.cons (o := { dst := some 102, op := Op.call { callee := Callee.value (Operand.func 24), args := #[Operand.tmp 100, Operand.tmp 101], argTypes := #[25, 24] }, type := 25, pos := "law.go:137", after := #[{ on := 11, ground := Ground.data }, { on := 12, ground := Ground.data }, { on := 10, ground := Ground.chain }, { on := 7, ground := Ground.guard }], guard := some (7, true) }) rfl (fun Kx hK => ?_) AllReadyH.nil
    go_simp
    refine (quover_any (T.out.later K21.out) (by omega) (U4.out.later K21.out) (by omega) da).mono ?_
    rintro e z22 ⟨x2, rfl, hx2, bz22⟩
    have K22 := Lib.hid (below2Z K21.out bz22)
    have D22 := Lib.hid (heldB_up K22.out D0.out)
    replace O1 := Lib.hid (Tab.later O1.out bz22)
    obtain ⟨xa2, xc2, rfl, -⟩ := hx2.open'
    have O2 := Lib.hid hx2
    clear hx2
    clear bz22
    go_wp2_with fail
    refine hK.out _ _ ?_ (fun hHeld2 => ?_)
    · exact D22.out
    clear hK Kx hHeld
    have hHeld := hHeld2
    clear hHeld2
    try simp only [Act.put, List.setIfInBounds_toArray, List.set_cons_zero, List.set_cons_succ]
    refine wpAnyH_ready (rs := [14]) (by as_aux_lemma => kernel_rfl) (by simp) ?_
    refine AllReadyH.cons (o := { dst := some 103, op := Op.call { callee := Callee.value (Operand.func 23), args := #[Operand.tmp 99, Operand.tmp 102], argTypes := #[25, 25] }, type := 4, pos := "law.go:137", after := #[{ on := 10, ground := Ground.data }, { on := 13, ground := Ground.data }, { on := 13, ground := Ground.chain }, { on := 7, ground := Ground.guard }], guard := some (7, true) }) rfl (fun Kx hK => ?_) AllReadyH.nil
    go_simp
    refine (tsame_eq O1.out O2.out (Lib.hid (tSame_iff.2 HTWO.out.2))).mono ?_
    rintro e z23 ⟨rfl, bz23⟩
    have K23 := Lib.hid (below2Z K22.out bz23)
    have D23 := Lib.hid (heldB_up K23.out D0.out)
    replace O1 := Lib.hid (Tab.later O1.out bz23)
    replace O2 := Lib.hid (Tab.later O2.out bz23)
    clear bz23
    go_wp2_with fail
    refine hK.out _ _ ?_ (fun hHeld2 => ?_)
    · exact D23.out
    clear hK Kx hHeld
    have hHeld := hHeld2
    clear hHeld2
    try simp only [Act.put, List.setIfInBounds_toArray, List.set_cons_zero, List.set_cons_succ]
    refine wpAnyH_take (i := 15) (oi := { dst := some 104, op := Op.pick (Operand.tmp 96) (Operand.tmp 103) (Operand.const (Value.bool false)), type := 4, pos := "law.go:137", after := #[{ on := 7, ground := Ground.data }, { on := 14, ground := Ground.data }], guard := none }) (v := ?_) rfl (by as_aux_lemma => kernel_rfl) (by as_aux_lemma => kernel_rfl) (by as_aux_lemma => kernel_rfl) (fun _ _ _ h => h) (Or.inl ⟨by rfl, ?_⟩) (by assumption) ?_
    rotate_left
    · intro w' hSw
      try dsimp only at hSw
      go_simp
      try with_reducible rfl
    try simp only [Act.put, List.setIfInBounds_toArray, List.set_cons_zero, List.set_cons_succ]
    refine wpAnyH_take (i := 16) (oi := { dst := some 105, op := Op.move (Operand.tmp 104), type := 4, pos := "law.go:137", after := #[{ on := 15, ground := Ground.data }, { on := 14, ground := Ground.chain }], guard := none }) (v := ?_) rfl (by as_aux_lemma => kernel_rfl) (by as_aux_lemma => kernel_rfl) (by as_aux_lemma => kernel_rfl) (fun _ _ _ h => h) (Or.inl ⟨by rfl, ?_⟩) (by assumption) ?_
    rotate_left
    · intro w' hSw
      try dsimp only at hSw
      go_simp
      try with_reducible rfl
    try simp only [Act.put, List.setIfInBounds_toArray, List.set_cons_zero, List.set_cons_succ]
    refine wpAnyH_ready (rs := [17]) (by as_aux_lemma => kernel_rfl) (by simp) ?_
    refine AllReadyH.cons (o := { dst := some 106, op := Op.call { callee := Callee.value (Operand.func 11), args := #[], argTypes := #[] }, type := 4, pos := "law.go:137", after := #[{ on := 16, ground := Ground.chain }, { on := 16, ground := Ground.guard }], guard := some (16, true) }) rfl (fun Kx hK => ?_) AllReadyH.nil
    go_simp
    refine (live17 _).mono ?_
    rintro e z24 ⟨rfl, bz24⟩
    have K24 := Lib.hid (below2Z K23.out bz24)
    have D24 := Lib.hid (heldB_up K24.out D0.out)
    replace O1 := Lib.hid (Tab.later O1.out bz24)
    replace O2 := Lib.hid (Tab.later O2.out bz24)
    clear bz24
    go_wp2_with fail
    refine hK.out _ _ ?_ (fun hHeld2 => ?_)
    · exact D24.out
    clear hK Kx hHeld
    have hHeld := hHeld2
    clear hHeld2
    try simp only [Act.put, List.setIfInBounds_toArray, List.set_cons_zero, List.set_cons_succ]
    refine wpAnyH_take (i := 18) (oi := { dst := some 107, op := Op.pick (Operand.tmp 105) (Operand.tmp 106) (Operand.const (Value.bool false)), type := 4, pos := "law.go:137", after := #[{ on := 16, ground := Ground.data }, { on := 17, ground := Ground.data }], guard := none }) (v := ?_) rfl (by as_aux_lemma => kernel_rfl) (by as_aux_lemma => kernel_rfl) (by as_aux_lemma => kernel_rfl) (fun _ _ _ h => h) (Or.inl ⟨by rfl, ?_⟩) (by assumption) ?_
    rotate_left
    · intro w' hSw
      try dsimp only at hSw
      go_simp
      try with_reducible rfl
    try simp only [Act.put, List.setIfInBounds_toArray, List.set_cons_zero, List.set_cons_succ]
    refine wpAnyH_take (i := 19) (oi := { dst := some 6, op := Op.assign (Operand.tmp 107), type := 4, pos := "law.go:137", after := #[{ on := 18, ground := Ground.data }, { on := 17, ground := Ground.chain }, { on := 0, ground := Ground.phase }, { on := 1, ground := Ground.phase }, { on := 2, ground := Ground.phase }, { on := 3, ground := Ground.phase }, { on := 4, ground := Ground.phase }, { on := 5, ground := Ground.phase }, { on := 6, ground := Ground.phase }, { on := 7, ground := Ground.phase }, { on := 8, ground := Ground.phase }, { on := 9, ground := Ground.phase }, { on := 10, ground := Ground.phase }, { on := 11, ground := Ground.phase }, { on := 12, ground := Ground.phase }, { on := 13, ground := Ground.phase }, { on := 14, ground := Ground.phase }, { on := 15, ground := Ground.phase }, { on := 16, ground := Ground.phase }, { on := 17, ground := Ground.phase }, { on := 18, ground := Ground.phase }], guard := none }) (v := ?_) rfl (by as_aux_lemma => kernel_rfl) (by as_aux_lemma => kernel_rfl) (by as_aux_lemma => kernel_rfl) (fun _ _ _ h => h) (Or.inl ⟨by rfl, ?_⟩) (by assumption) ?_
    rotate_left
    · intro w' hSw
      try dsimp only at hSw
      go_simp
      try with_reducible rfl
    try simp only [Act.put, List.setIfInBounds_toArray, List.set_cons_zero, List.set_cons_succ]
    refine wpAnyH_done (by kernel_rfl) ?_ _
    replace HB := Lib.hid (below2Z HB.out K24.out)
    go_wp2_with fail
    go_ret
    exact ⟨rfl, HB.out⟩

set_option maxHeartbeats 6400000 in
set_option maxRecDepth 100000 in
theorem qtw_9 {w : World} {v vt : Value} {l : List Chg} {t : List Row} (hv : Chgs w v l) (ht : Tab w vt t) (xc xs ys : List UInt8) (xo yo : Bool) (xa xb xd ya yb yd : Int) (hs : fewC l 30 = true) (hm : quMay ⟨l, false⟩ 14 = true) (hf : fewT t = true) (hd : diMay t = true) (hc : fewC [⟨xc, xo, ⟨xa, xb, xd, xs⟩⟩, ⟨xc, yo, ⟨ya, yb, yd, ys⟩⟩] 2 = true) (h6 : quOne ⟨xc, xo, ⟨xa, xb, xd, xs⟩⟩ = true) (h7 : quOne ⟨xc, yo, ⟨ya, yb, yd, ys⟩⟩ = true) :
    Calls Try.prog 7 #[.agg #[v, .bool false], vt, .agg #[.string ⟨xc.toArray⟩, .bool xo, .int .i64 xa, .int .i64 xb, .int .i64 xd, .string ⟨xs.toArray⟩, .string ⟨xc.toArray⟩, .bool yo, .int .i64 ya, .int .i64 yb, .int .i64 yd, .string ⟨ys.toArray⟩]] w fun e w' => e = .returned (.bool true) ∧ Below w.heap.size w w' := by
  obtain ⟨ao, cap, rfl, _hmx⟩ := hv.open'
  obtain ⟨at_, ct, rfl, _hmt⟩ := ht.open'
  have b0 := bl_newZ w (.cells #[.slice ao l.length cap, .bool false] 24)
  have b00 := bl_newZ (w.alloc (.cells #[.slice ao l.length cap, .bool false] 24)) (.cells #[.string ⟨xc.toArray⟩, .bool xo, .int .i64 xa, .int .i64 xb, .int .i64 xd, .string ⟨xs.toArray⟩, .string ⟨xc.toArray⟩, .bool yo, .int .i64 ya, .int .i64 yb, .int .i64 yd, .string ⟨ys.toArray⟩] 49)
  have HB := Lib.hid (below2Z b0 b00)
  have V := Lib.hid ((hv.later b0).later b00)
  have T := Lib.hid ((ht.later b0).later b00)
  have A := Lib.hid ((cellsAt_made (w := w) (cs := #[.slice ao l.length cap, .bool false]) (vs := [.slice ao l.length cap, .bool false]) rfl 24 rfl).later b00)
  have C := Lib.hid (cellsAt_made (w := w.alloc (.cells #[.slice ao l.length cap, .bool false] 24)) (cs := #[.string ⟨xc.toArray⟩, .bool xo, .int .i64 xa, .int .i64 xb, .int .i64 xd, .string ⟨xs.toArray⟩, .string ⟨xc.toArray⟩, .bool yo, .int .i64 ya, .int .i64 yb, .int .i64 yd, .string ⟨ys.toArray⟩]) (vs := [.string ⟨xc.toArray⟩, .bool xo, .int .i64 xa, .int .i64 xb, .int .i64 xd, .string ⟨xs.toArray⟩, .string ⟨xc.toArray⟩, .bool yo, .int .i64 ya, .int .i64 yb, .int .i64 yd, .string ⟨ys.toArray⟩]) rfl 49 (B := w.heap.size + 1) (by simp))
  have S1 : Hid (Chgs ((w.alloc (.cells #[.slice ao l.length cap, .bool false] 24)).alloc (.cells #[.string ⟨xc.toArray⟩, .bool xo, .int .i64 xa, .int .i64 xb, .int .i64 xd, .string ⟨xs.toArray⟩, .string ⟨xc.toArray⟩, .bool yo, .int .i64 ya, .int .i64 yb, .int .i64 yd, .string ⟨ys.toArray⟩] 49)) (.slice (some ⟨w.heap.size + 1, 0, none⟩) 2 2) [⟨xc, xo, ⟨xa, xb, xd, xs⟩⟩, ⟨xc, yo, ⟨ya, yb, yd, ys⟩⟩]) := Lib.hid (chgs_at (l := [⟨xc, xo, ⟨xa, xb, xd, xs⟩⟩, ⟨xc, yo, ⟨ya, yb, yd, ys⟩⟩]) (by rw [World.size_alloc, World.size_alloc]; omega) (by simp) C.out)
  clear b0 b00 hv ht
  obtain ⟨⟨al, aa⟩, hq1⟩ : ∃ q, quPush ⟨l, false⟩ ⟨xc, xo, ⟨xa, xb, xd, xs⟩⟩ 16 = q := ⟨_, rfl⟩
  obtain ⟨⟨bl, ba⟩, hq2⟩ : ∃ q, quPush ⟨al, aa⟩ ⟨xc, yo, ⟨ya, yb, yd, ys⟩⟩ 16 = q := ⟨_, rfl⟩
  obtain ⟨⟨cl, ca⟩, hq3⟩ : ∃ q, quPush ⟨l, false⟩ ⟨xc, yo, ⟨ya, yb, yd, ys⟩⟩ 16 = q := ⟨_, rfl⟩
  obtain ⟨⟨dl, da⟩, hq4⟩ : ∃ q, quPush ⟨cl, ca⟩ ⟨xc, xo, ⟨xa, xb, xd, xs⟩⟩ 16 = q := ⟨_, rfl⟩
  have hq5 : quPush ⟨al, aa⟩ ⟨xc, xo, ⟨xa, xb, xd, xs⟩⟩ 16 = ⟨al, aa⟩ := by have := push_twice (q := ⟨l, false⟩) (c := ⟨xc, xo, ⟨xa, xb, xd, xs⟩⟩) (room := 16); rw [hq1] at this; exact this
  have hl14 : l.length ≤ 14 := by have := (quMay_iff.1 hm).1; simp only at this; omega
  have ha16 : al.length ≤ 16 := push_short (by simp only; omega) hq1
  have hb16 : bl.length ≤ 16 := push_short (by simp only; omega) hq2
  have hc16 : cl.length ≤ 16 := push_short (by simp only; omega) hq3
  have hd16 : dl.length ≤ 16 := push_short (by simp only; omega) hq4
  have t1 : (xc == xc) = true := beq_self_eq_true xc
  have HQ1 := Lib.hid hq1
  have HQ2 := Lib.hid hq2
  have HQ3 := Lib.hid hq3
  have HQ4 := Lib.hid hq4
  have HQ5 := Lib.hid hq5
  obtain ⟨na, hna⟩ : ∃ n, al.length = n := ⟨_, rfl⟩
  have NA := Lib.hid hna
  obtain ⟨nc, hnc⟩ : ∃ n, cl.length = n := ⟨_, rfl⟩
  have NC := Lib.hid hnc
  obtain ⟨n, hn⟩ : ∃ n, bl.length = n := ⟨_, rfl⟩
  have NB := Lib.hid hn
  obtain ⟨m, hm2⟩ : ∃ n, dl.length = n := ⟨_, rfl⟩
  have ND := Lib.hid hm2
  clear hm2
  clear hq1 hq2 hq3 hq4 hq5 hna hnc hn
  have hl30 := (fewC_get hs).1
  have hlt0 := (fewT_yes hf).1
  have HSH := Lib.hid (fewT_short hf)
  have HC := Lib.hid (fewC_both hc)
  have H1 := Lib.hid hs
  have H2 := Lib.hid hm
  have H3 := Lib.hid hf
  have H4 := Lib.hid hd
  have H5 := Lib.hid hc
  have H6 := Lib.hid h6
  have H7 := Lib.hid h7
  clear hs hm hf hd hc h6 h7
  obtain ⟨q0, q1⟩ := twoAt A.out
  go_enter Try.func7, Try.ntmps7
  go_wp2_with fail
  clear q0 q1
  refine (fewq_any V.out false H1).mono ?_
  rintro e w1 ⟨rfl, b1⟩
  replace V := Lib.hid (V.out.later b1)
  replace T := Lib.hid (T.out.later b1)
  replace A := Lib.hid (A.out.later b1)
  replace C := Lib.hid (C.out.later b1)
  replace S1 := Lib.hid (S1.out.later b1)
  replace HB := Lib.hid (below2Z HB.out b1)
  clear b1
  obtain ⟨q0, q1⟩ := twoAt A.out
  go_wp2_with fail
  clear q0 q1
  refine (rqumay_any V.out (fewC_short H1.out) (by omega) false H2).mono ?_
  rintro e w2 ⟨rfl, b2⟩
  replace V := Lib.hid (V.out.later b2)
  replace T := Lib.hid (T.out.later b2)
  replace A := Lib.hid (A.out.later b2)
  replace C := Lib.hid (C.out.later b2)
  replace S1 := Lib.hid (S1.out.later b2)
  replace HB := Lib.hid (below2Z HB.out b2)
  clear b2
  go_wp2_with fail
  refine (fewt_b2 T.out H3).mono ?_
  rintro e w3 ⟨rfl, b3⟩
  replace V := Lib.hid (V.out.later b3)
  replace T := Lib.hid (T.out.later b3)
  replace A := Lib.hid (A.out.later b3)
  replace C := Lib.hid (C.out.later b3)
  replace S1 := Lib.hid (S1.out.later b3)
  replace HB := Lib.hid (below2Z HB.out b3)
  clear b3
  go_wp2_with fail
  refine (rdimay_eq T.out HSH.out H4).mono ?_
  rintro e w4 ⟨rfl, b4⟩
  replace V := Lib.hid (V.out.later b4)
  replace T := Lib.hid (T.out.later b4)
  replace A := Lib.hid (A.out.later b4)
  replace C := Lib.hid (C.out.later b4)
  replace S1 := Lib.hid (S1.out.later b4)
  replace HB := Lib.hid (below2Z HB.out b4)
  clear b4
  go_wp2_with fail
  refine (fewc_any S1.out 2 H5).mono ?_
  rintro e w5 ⟨rfl, b5⟩
  replace V := Lib.hid (V.out.later b5)
  replace T := Lib.hid (T.out.later b5)
  replace A := Lib.hid (A.out.later b5)
  replace C := Lib.hid (C.out.later b5)
  replace S1 := Lib.hid (S1.out.later b5)
  replace HB := Lib.hid (below2Z HB.out b5)
  clear b5
  obtain ⟨⟨r0, r1, r2, r3, r4, r5⟩, r6, r7, r8, r9, r10, r11⟩ := twelveAt C.out
  go_wp2_with fail
  clear r0 r1 r2 r3 r4 r5 r6 r7 r8 r9 r10 r11
  refine (rquone_any xc xs xo xa xb xd HC.out.1.1 HC.out.1.2 H6 _).mono ?_
  rintro e w6 ⟨rfl, b6⟩
  replace V := Lib.hid (V.out.later b6)
  replace T := Lib.hid (T.out.later b6)
  replace A := Lib.hid (A.out.later b6)
  replace C := Lib.hid (C.out.later b6)
  replace S1 := Lib.hid (S1.out.later b6)
  replace HB := Lib.hid (below2Z HB.out b6)
  clear b6
  obtain ⟨⟨r0, r1, r2, r3, r4, r5⟩, r6, r7, r8, r9, r10, r11⟩ := twelveAt C.out
  go_wp2_with fail
  clear r0 r1 r2 r3 r4 r5 r6 r7 r8 r9 r10 r11
  refine (rquone_any xc ys yo ya yb yd HC.out.2.1 HC.out.2.2 H7 _).mono ?_
  rintro e w7 ⟨rfl, b7⟩
  replace V := Lib.hid (V.out.later b7)
  replace T := Lib.hid (T.out.later b7)
  replace A := Lib.hid (A.out.later b7)
  replace C := Lib.hid (C.out.later b7)
  replace S1 := Lib.hid (S1.out.later b7)
  replace HB := Lib.hid (below2Z HB.out b7)
  clear b7
  clear S1 H1 H2 H3 H4 H5 H6 H7 HC
  obtain ⟨q0, q1⟩ := twoAt A.out
  obtain ⟨⟨r0, r1, r2, r3, r4, r5⟩, r6, r7, r8, r9, r10, r11⟩ := twelveAt C.out
  go_wp2_with fail
  clear q0 q1 r0 r1 r2 r3 r4 r5 r6 r7 r8 r9 r10 r11
  refine (qupush_any V.out (by omega) false xc xs xo xa xb xd 16 HQ1).mono ?_
  rintro e w8 ⟨u1, rfl, hu1, b8⟩
  replace V := Lib.hid (V.out.later b8)
  replace T := Lib.hid (T.out.later b8)
  replace A := Lib.hid (A.out.later b8)
  replace C := Lib.hid (C.out.later b8)
  replace HB := Lib.hid (below2Z HB.out b8)
  obtain ⟨a1, c1, rfl⟩ := chgs_shape hu1 NA.out
  have U1 := Lib.hid hu1
  clear hu1
  clear b8
  have b9 := bl_newZ w8 (.cells #[.slice a1 na c1, .bool aa] 24)
  have P := Lib.hid (cellsAt_made (w := w8) (cs := #[.slice a1 na c1, .bool aa]) (vs := [.slice a1 na c1, .bool aa]) rfl 24 rfl)
  replace V := Lib.hid (V.out.later b9)
  replace T := Lib.hid (T.out.later b9)
  replace A := Lib.hid (A.out.later b9)
  replace C := Lib.hid (C.out.later b9)
  replace U1 := Lib.hid (U1.out.later b9)
  replace HB := Lib.hid (below2Z HB.out b9)
  clear b9
  obtain ⟨p0, p1⟩ := twoAt P.out
  obtain ⟨⟨r0, r1, r2, r3, r4, r5⟩, r6, r7, r8, r9, r10, r11⟩ := twelveAt C.out
  go_wp2_with fail
  clear p0 p1 r0 r1 r2 r3 r4 r5 r6 r7 r8 r9 r10 r11
  refine (qupush_any U1.out (by omega) aa xc ys yo ya yb yd 16 HQ2).mono ?_
  rintro e w10 ⟨u2, rfl, hu2, b10⟩
  replace V := Lib.hid (V.out.later b10)
  replace T := Lib.hid (T.out.later b10)
  replace A := Lib.hid (A.out.later b10)
  replace C := Lib.hid (C.out.later b10)
  replace U1 := Lib.hid (U1.out.later b10)
  replace P := Lib.hid (P.out.later b10)
  replace HB := Lib.hid (below2Z HB.out b10)
  obtain ⟨a2, c2, rfl⟩ := chgs_shape hu2 NB.out
  have U2 := Lib.hid hu2
  clear hu2
  clear b10
  have b11 := bl_newZ w10 (.cells #[.slice a2 n c2, .bool ba] 24)
  have Q := Lib.hid (cellsAt_made (w := w10) (cs := #[.slice a2 n c2, .bool ba]) (vs := [.slice a2 n c2, .bool ba]) rfl 24 rfl)
  replace V := Lib.hid (V.out.later b11)
  replace T := Lib.hid (T.out.later b11)
  replace A := Lib.hid (A.out.later b11)
  replace C := Lib.hid (C.out.later b11)
  replace U1 := Lib.hid (U1.out.later b11)
  replace P := Lib.hid (P.out.later b11)
  replace U2 := Lib.hid (U2.out.later b11)
  replace HB := Lib.hid (below2Z HB.out b11)
  clear b11
  go_upto_region 5 with fail
  generalize w10.alloc (.cells #[.slice a2 n c2, .bool ba] 24) = W5 at V T A C U1 P U2 Q HB ⊢
  generalize w8.heap.size = BP at P ⊢
  generalize w10.heap.size = BQ at Q ⊢
  go_cut [9] from 54 (fun p wx => ∃ B ua uc, p = .pointer (some ⟨B, 0, none⟩) ∧ Hid (CellsAt wx B 0 [.slice ua m uc, .bool da]) ∧ Hid (Chgs wx (.slice ua m uc) dl) ∧ Hid (Below W5.heap.size W5 wx))
  case first =>
    obtain ⟨BS, hBS⟩ : ∃ BS : List (Nat × List Value), BS = [(w.heap.size, [.slice ao l.length cap, .bool false]), (w.heap.size + 1, [.string ⟨xc.toArray⟩, .bool xo, .int .i64 xa, .int .i64 xb, .int .i64 xd, .string ⟨xs.toArray⟩, .string ⟨xc.toArray⟩, .bool yo, .int .i64 ya, .int .i64 yb, .int .i64 yd, .string ⟨ys.toArray⟩])] := ⟨_, rfl⟩
    have D0 := Lib.hid (show heldB W5 BS from by rw [hBS]; exact heldB_cons (A.out) (heldB_cons (C.out) (heldB_nil _)))
    have hq0 : ∀ X, heldB X BS → X.cell? ⟨w.heap.size, 0, none⟩ = some (.slice ao l.length cap) := fun X hx => heldB_get (vs := [.slice ao l.length cap, .bool false]) hx (by rw [hBS]; simp) rfl
    have hq1 : ∀ X, heldB X BS → X.cell? ⟨w.heap.size, 1, none⟩ = some (.bool false) := fun X hx => heldB_get (vs := [.slice ao l.length cap, .bool false]) hx (by rw [hBS]; simp) rfl
    have hq2 : ∀ X, heldB X BS → X.cell? ⟨w.heap.size + 1, 0, none⟩ = some (.string ⟨xc.toArray⟩) := fun X hx => heldB_get (vs := [.string ⟨xc.toArray⟩, .bool xo, .int .i64 xa, .int .i64 xb, .int .i64 xd, .string ⟨xs.toArray⟩, .string ⟨xc.toArray⟩, .bool yo, .int .i64 ya, .int .i64 yb, .int .i64 yd, .string ⟨ys.toArray⟩]) hx (by rw [hBS]; simp) rfl
    have hq3 : ∀ X, heldB X BS → X.cell? ⟨w.heap.size + 1, 1, none⟩ = some (.bool xo) := fun X hx => heldB_get (vs := [.string ⟨xc.toArray⟩, .bool xo, .int .i64 xa, .int .i64 xb, .int .i64 xd, .string ⟨xs.toArray⟩, .string ⟨xc.toArray⟩, .bool yo, .int .i64 ya, .int .i64 yb, .int .i64 yd, .string ⟨ys.toArray⟩]) hx (by rw [hBS]; simp) rfl
    have hq4 : ∀ X, heldB X BS → X.cell? ⟨w.heap.size + 1, 2, none⟩ = some (.int .i64 xa) := fun X hx => heldB_get (vs := [.string ⟨xc.toArray⟩, .bool xo, .int .i64 xa, .int .i64 xb, .int .i64 xd, .string ⟨xs.toArray⟩, .string ⟨xc.toArray⟩, .bool yo, .int .i64 ya, .int .i64 yb, .int .i64 yd, .string ⟨ys.toArray⟩]) hx (by rw [hBS]; simp) rfl
    have hq5 : ∀ X, heldB X BS → X.cell? ⟨w.heap.size + 1, 3, none⟩ = some (.int .i64 xb) := fun X hx => heldB_get (vs := [.string ⟨xc.toArray⟩, .bool xo, .int .i64 xa, .int .i64 xb, .int .i64 xd, .string ⟨xs.toArray⟩, .string ⟨xc.toArray⟩, .bool yo, .int .i64 ya, .int .i64 yb, .int .i64 yd, .string ⟨ys.toArray⟩]) hx (by rw [hBS]; simp) rfl
    have hq6 : ∀ X, heldB X BS → X.cell? ⟨w.heap.size + 1, 4, none⟩ = some (.int .i64 xd) := fun X hx => heldB_get (vs := [.string ⟨xc.toArray⟩, .bool xo, .int .i64 xa, .int .i64 xb, .int .i64 xd, .string ⟨xs.toArray⟩, .string ⟨xc.toArray⟩, .bool yo, .int .i64 ya, .int .i64 yb, .int .i64 yd, .string ⟨ys.toArray⟩]) hx (by rw [hBS]; simp) rfl
    have hq7 : ∀ X, heldB X BS → X.cell? ⟨w.heap.size + 1, 5, none⟩ = some (.string ⟨xs.toArray⟩) := fun X hx => heldB_get (vs := [.string ⟨xc.toArray⟩, .bool xo, .int .i64 xa, .int .i64 xb, .int .i64 xd, .string ⟨xs.toArray⟩, .string ⟨xc.toArray⟩, .bool yo, .int .i64 ya, .int .i64 yb, .int .i64 yd, .string ⟨ys.toArray⟩]) hx (by rw [hBS]; simp) rfl
    have hq8 : ∀ X, heldB X BS → X.cell? ⟨w.heap.size + 1, 6, none⟩ = some (.string ⟨xc.toArray⟩) := fun X hx => heldB_get (vs := [.string ⟨xc.toArray⟩, .bool xo, .int .i64 xa, .int .i64 xb, .int .i64 xd, .string ⟨xs.toArray⟩, .string ⟨xc.toArray⟩, .bool yo, .int .i64 ya, .int .i64 yb, .int .i64 yd, .string ⟨ys.toArray⟩]) hx (by rw [hBS]; simp) rfl
    have hq9 : ∀ X, heldB X BS → X.cell? ⟨w.heap.size + 1, 7, none⟩ = some (.bool yo) := fun X hx => heldB_get (vs := [.string ⟨xc.toArray⟩, .bool xo, .int .i64 xa, .int .i64 xb, .int .i64 xd, .string ⟨xs.toArray⟩, .string ⟨xc.toArray⟩, .bool yo, .int .i64 ya, .int .i64 yb, .int .i64 yd, .string ⟨ys.toArray⟩]) hx (by rw [hBS]; simp) rfl
    have hq10 : ∀ X, heldB X BS → X.cell? ⟨w.heap.size + 1, 8, none⟩ = some (.int .i64 ya) := fun X hx => heldB_get (vs := [.string ⟨xc.toArray⟩, .bool xo, .int .i64 xa, .int .i64 xb, .int .i64 xd, .string ⟨xs.toArray⟩, .string ⟨xc.toArray⟩, .bool yo, .int .i64 ya, .int .i64 yb, .int .i64 yd, .string ⟨ys.toArray⟩]) hx (by rw [hBS]; simp) rfl
    have hq11 : ∀ X, heldB X BS → X.cell? ⟨w.heap.size + 1, 9, none⟩ = some (.int .i64 yb) := fun X hx => heldB_get (vs := [.string ⟨xc.toArray⟩, .bool xo, .int .i64 xa, .int .i64 xb, .int .i64 xd, .string ⟨xs.toArray⟩, .string ⟨xc.toArray⟩, .bool yo, .int .i64 ya, .int .i64 yb, .int .i64 yd, .string ⟨ys.toArray⟩]) hx (by rw [hBS]; simp) rfl
    have hq12 : ∀ X, heldB X BS → X.cell? ⟨w.heap.size + 1, 10, none⟩ = some (.int .i64 yd) := fun X hx => heldB_get (vs := [.string ⟨xc.toArray⟩, .bool xo, .int .i64 xa, .int .i64 xb, .int .i64 xd, .string ⟨xs.toArray⟩, .string ⟨xc.toArray⟩, .bool yo, .int .i64 ya, .int .i64 yb, .int .i64 yd, .string ⟨ys.toArray⟩]) hx (by rw [hBS]; simp) rfl
    have hq13 : ∀ X, heldB X BS → X.cell? ⟨w.heap.size + 1, 11, none⟩ = some (.string ⟨ys.toArray⟩) := fun X hx => heldB_get (vs := [.string ⟨xc.toArray⟩, .bool xo, .int .i64 xa, .int .i64 xb, .int .i64 xd, .string ⟨xs.toArray⟩, .string ⟨xc.toArray⟩, .bool yo, .int .i64 ya, .int .i64 yb, .int .i64 yd, .string ⟨ys.toArray⟩]) hx (by rw [hBS]; simp) rfl
    clear hBS
    have K0 : Hid (Below W5.heap.size W5 W5.drew) := Lib.hid (Below.refl _ _).drew
    refine wp_region_held_drew (S := (fun X => heldB X BS)) (by kernel_rfl) ?_ (fun hHeld => ?_)
    · exact heldB_up K0.out D0.out
    generalize W5.drew = z0 at K0 hHeld ⊢
    refine wpAnyH_take (i := 0) (oi := { dst := some 54, op := Op.load 24 (Operand.tmp 3), type := 24, pos := "law.go:127", after := #[], guard := none }) (v := ?_) rfl (by as_aux_lemma => kernel_rfl) (by as_aux_lemma => kernel_rfl) (by as_aux_lemma => kernel_rfl) (fun _ _ _ h => h) (Or.inl ⟨by rfl, ?_⟩) (by assumption) ?_
    rotate_left
    · intro w' hSw
      try dsimp only at hSw
      go_simp
      try with_reducible rfl
    try simp only [Act.put, List.setIfInBounds_toArray, List.set_cons_zero, List.set_cons_succ]
    refine wpAnyH_take (i := 1) (oi := { dst := some 55, op := Op.indexAddr 49 (Operand.tmp 5) (Operand.const (Value.int IntKind.i64 1)), type := 0, pos := "law.go:127", after := #[], guard := none }) (v := ?_) rfl (by as_aux_lemma => kernel_rfl) (by as_aux_lemma => kernel_rfl) (by as_aux_lemma => kernel_rfl) (fun _ _ _ h => h) (Or.inl ⟨by rfl, ?_⟩) (by assumption) ?_
    rotate_left
    · intro w' hSw
      try dsimp only at hSw
      go_simp
      try with_reducible rfl
    try simp only [Act.put, List.setIfInBounds_toArray, List.set_cons_zero, List.set_cons_succ]
    refine wpAnyH_take (i := 2) (oi := { dst := some 56, op := Op.load 33 (Operand.tmp 55), type := 33, pos := "law.go:127", after := #[{ on := 1, ground := Ground.data }], guard := none }) (v := ?_) rfl (by as_aux_lemma => kernel_rfl) (by as_aux_lemma => kernel_rfl) (by as_aux_lemma => kernel_rfl) (fun _ _ _ h => h) (Or.inl ⟨by rfl, ?_⟩) (by assumption) ?_
    rotate_left
    · intro w' hSw
      try dsimp only at hSw
      go_simp
      try with_reducible rfl
    try simp only [Act.put, List.setIfInBounds_toArray, List.set_cons_zero, List.set_cons_succ]
    refine wpAnyH_take (i := 4) (oi := { dst := some 58, op := Op.indexAddr 49 (Operand.tmp 5) (Operand.const (Value.int IntKind.i64 0)), type := 0, pos := "law.go:127", after := #[], guard := none }) (v := ?_) rfl (by as_aux_lemma => kernel_rfl) (by as_aux_lemma => kernel_rfl) (by as_aux_lemma => kernel_rfl) (fun _ _ _ h => h) (Or.inl ⟨by rfl, ?_⟩) (by assumption) ?_
    rotate_left
    · intro w' hSw
      try dsimp only at hSw
      go_simp
      try with_reducible rfl
    try simp only [Act.put, List.setIfInBounds_toArray, List.set_cons_zero, List.set_cons_succ]
    refine wpAnyH_take (i := 5) (oi := { dst := some 59, op := Op.load 33 (Operand.tmp 58), type := 33, pos := "law.go:127", after := #[{ on := 4, ground := Ground.data }], guard := none }) (v := ?_) rfl (by as_aux_lemma => kernel_rfl) (by as_aux_lemma => kernel_rfl) (by as_aux_lemma => kernel_rfl) (fun _ _ _ h => h) (Or.inl ⟨by rfl, ?_⟩) (by assumption) ?_
    rotate_left
    · intro w' hSw
      try dsimp only at hSw
      go_simp
      try with_reducible rfl
    try simp only [Act.put, List.setIfInBounds_toArray, List.set_cons_zero, List.set_cons_succ]
    refine wpAnyH_ready (rs := [3, 7]) (by as_aux_lemma => kernel_rfl) (by simp) ?_
    refine AllReadyH.cons (o := { dst := some 57, op := Op.call { callee := Callee.value (Operand.func 27), args := #[Operand.tmp 54, Operand.tmp 56, Operand.const (Value.int IntKind.i64 16)], argTypes := #[24, 33, 3] }, type := 24, pos := "law.go:127", after := #[{ on := 0, ground := Ground.data }, { on := 2, ground := Ground.data }], guard := none }) rfl (fun Kx hK => ?_) (AllReadyH.cons (o := { dst := some 9, op := Op.alloc 24, type := 0, pos := "law.go:127", after := #[], guard := none }) rfl (fun Kx hK => ?_) (AllReadyH.nil))
    · go_simp
      refine (qupush_any (V.out.later K0.out) (by omega) false xc ys yo ya yb yd 16 HQ3).mono ?_
      rintro e z1 ⟨u3, rfl, hu3, bz1⟩
      have K1 := Lib.hid (below2Z K0.out bz1)
      have D1 := Lib.hid (heldB_up K1.out D0.out)
      obtain ⟨a3, c3, rfl⟩ := chgs_shape hu3 NC.out
      have U3 := Lib.hid hu3
      clear hu3
      clear bz1
      go_wp2_with fail
      refine hK.out _ _ ?_ (fun hHeld2 => ?_)
      · exact D1.out
      clear hK Kx hHeld
      have hHeld := hHeld2
      clear hHeld2
      try simp only [Act.put, List.setIfInBounds_toArray, List.set_cons_zero, List.set_cons_succ]
      refine wpAnyH_ready (rs := [6, 7]) (by as_aux_lemma => kernel_rfl) (by simp) ?_
      refine AllReadyH.cons (o := { dst := some 60, op := Op.call { callee := Callee.value (Operand.func 27), args := #[Operand.tmp 57, Operand.tmp 59, Operand.const (Value.int IntKind.i64 16)], argTypes := #[24, 33, 3] }, type := 24, pos := "law.go:127", after := #[{ on := 3, ground := Ground.data }, { on := 5, ground := Ground.data }, { on := 3, ground := Ground.chain }], guard := none }) rfl (fun Kx hK => ?_) (AllReadyH.cons (o := { dst := some 9, op := Op.alloc 24, type := 0, pos := "law.go:127", after := #[], guard := none }) rfl (fun Kx hK => ?_) (AllReadyH.nil))
      · go_simp
        refine (qupush_any U3.out (by omega) ca xc xs xo xa xb xd 16 HQ4).mono ?_
        rintro e z2 ⟨u4, rfl, hu4, bz2⟩
        have K2 := Lib.hid (below2Z K1.out bz2)
        have D2 := Lib.hid (heldB_up K2.out D0.out)
        replace U3 := Lib.hid (Chgs.later U3.out bz2)
        obtain ⟨a4, c4, rfl⟩ := chgs_shape hu4 ND.out
        have U4 := Lib.hid hu4
        clear hu4
        clear bz2
        go_wp2_with fail
        refine hK.out _ _ ?_ (fun hHeld2 => ?_)
        · exact D2.out
        clear hK Kx hHeld
        have hHeld := hHeld2
        clear hHeld2
        try simp only [Act.put, List.setIfInBounds_toArray, List.set_cons_zero, List.set_cons_succ]
        refine wpAnyH_ready (rs := [7]) (by as_aux_lemma => kernel_rfl) (by simp) ?_
        refine AllReadyH.cons (o := { dst := some 9, op := Op.alloc 24, type := 0, pos := "law.go:127", after := #[], guard := none }) rfl (fun Kx hK => ?_) AllReadyH.nil
        go_simp
        refine hK.out _ _ ?_ (fun hHeld2 => ?_)
        · exact heldB_up (below2Z K2.out (bl_newZ _ _)) D0.out
        clear hK Kx hHeld
        have hHeld := hHeld2
        clear hHeld2
        try simp only [Act.put, List.setIfInBounds_toArray, List.set_cons_zero, List.set_cons_succ]
        have bz3 := bl_newZ z2 (.cells #[.slice none 0 0, .bool false] 24)
        have K3 := Lib.hid (below2Z K2.out bz3)
        have D3 := Lib.hid (heldB_up K3.out D0.out)
        have nz3 := Lib.hid ((MapKept.heap_alloc z2 (.cells #[.slice none 0 0, .bool false] 24)).1)
        have hB3 : W5.heap.size ≤ z2.heap.size := (K2.out).size
        replace U3 := Lib.hid (Chgs.later U3.out bz3)
        replace U4 := Lib.hid (Chgs.later U4.out bz3)
        clear bz3
        generalize z2.alloc (.cells #[.slice none 0 0, .bool false] 24) = z3 at K3 D3 nz3 U3 U4 hHeld ⊢
        generalize z2.heap.size = B3 at nz3 hB3  ⊢
        obtain ⟨⟨r0, r1⟩, g0, g1⟩ := twoQ nz3.out
        refine wpAnyH_ready (rs := [8]) (by as_aux_lemma => kernel_rfl) (by simp) ?_
        refine AllReadyH.cons (o := { dst := none, op := Op.store 24 (Operand.tmp 9) (Operand.tmp 60), type := 0, pos := "law.go:127", after := #[{ on := 7, ground := Ground.data }, { on := 6, ground := Ground.data }, { on := 6, ground := Ground.chain }, { on := 0, ground := Ground.phase }, { on := 1, ground := Ground.phase }, { on := 2, ground := Ground.phase }, { on := 3, ground := Ground.phase }, { on := 4, ground := Ground.phase }, { on := 5, ground := Ground.phase }, { on := 6, ground := Ground.phase }, { on := 7, ground := Ground.phase }], guard := none }) rfl (fun Kx hK => ?_) AllReadyH.nil
        go_simp
        clear r0 r1 g0 g1
        obtain ⟨y0, y1⟩ := set2Q (y0 := .slice a4 m c4) (y1 := .bool da) nz3.out
        have KE := Lib.hid ((((K3.out).setCell (p := ⟨B3, 0, none⟩) hB3 (.slice a4 m c4))).setCell (p := ⟨B3, 1, none⟩) hB3 (.bool da))
        have UE : Hid (Chgs ((z3.setCell ⟨B3, 0, none⟩ (.slice a4 m c4)).setCell ⟨B3, 1, none⟩ (.bool da)) (.slice a4 m c4) dl) := Lib.hid (chgs_far U4.out nz3.out)
        refine hK.out _ _ ?_ (fun hHeld2 => ?_)
        · exact heldB_up KE.out D0.out
        clear hK Kx hHeld
        have hHeld := hHeld2
        clear hHeld2
        refine wpAnyH_done (by kernel_rfl) ?_ _
        go_wp2_with fail
        go_meet
        exact ⟨B3, a4, c4, rfl, Lib.hid (cellsAt_two y0 y1), UE, KE⟩
      · go_simp
        refine hK.out _ _ ?_ (fun hHeld2 => ?_)
        · exact heldB_up (below2Z K1.out (bl_newZ _ _)) D0.out
        clear hK Kx hHeld
        have hHeld := hHeld2
        clear hHeld2
        try simp only [Act.put, List.setIfInBounds_toArray, List.set_cons_zero, List.set_cons_succ]
        have bz5 := bl_newZ z1 (.cells #[.slice none 0 0, .bool false] 24)
        have K5 := Lib.hid (below2Z K1.out bz5)
        have D5 := Lib.hid (heldB_up K5.out D0.out)
        have nz5 := Lib.hid ((MapKept.heap_alloc z1 (.cells #[.slice none 0 0, .bool false] 24)).1)
        have hB5 : W5.heap.size ≤ z1.heap.size := (K1.out).size
        replace U3 := Lib.hid (Chgs.later U3.out bz5)
        clear bz5
        generalize z1.alloc (.cells #[.slice none 0 0, .bool false] 24) = z5 at K5 D5 nz5 U3 hHeld ⊢
        generalize z1.heap.size = B5 at nz5 hB5  ⊢
        refine wpAnyH_ready (rs := [6]) (by as_aux_lemma => kernel_rfl) (by simp) ?_
        refine AllReadyH.cons (o := { dst := some 60, op := Op.call { callee := Callee.value (Operand.func 27), args := #[Operand.tmp 57, Operand.tmp 59, Operand.const (Value.int IntKind.i64 16)], argTypes := #[24, 33, 3] }, type := 24, pos := "law.go:127", after := #[{ on := 3, ground := Ground.data }, { on := 5, ground := Ground.data }, { on := 3, ground := Ground.chain }], guard := none }) rfl (fun Kx hK => ?_) AllReadyH.nil
        go_simp
        refine (qupush_any U3.out (by omega) ca xc xs xo xa xb xd 16 HQ4).mono ?_
        rintro e z6 ⟨u4, rfl, hu4, bz6⟩
        have K6 := Lib.hid (below2Z K5.out bz6)
        have D6 := Lib.hid (heldB_up K6.out D0.out)
        replace U3 := Lib.hid (Chgs.later U3.out bz6)
        replace nz5 := Lib.hid (((bz6).block _ (Array.getElem?_eq_some_iff.1 (nz5.out)).1).trans (nz5.out))
        obtain ⟨a4, c4, rfl⟩ := chgs_shape hu4 ND.out
        have U4 := Lib.hid hu4
        clear hu4
        clear bz6
        go_wp2_with fail
        refine hK.out _ _ ?_ (fun hHeld2 => ?_)
        · exact D6.out
        clear hK Kx hHeld
        have hHeld := hHeld2
        clear hHeld2
        try simp only [Act.put, List.setIfInBounds_toArray, List.set_cons_zero, List.set_cons_succ]
        obtain ⟨⟨r0, r1⟩, g0, g1⟩ := twoQ nz5.out
        refine wpAnyH_ready (rs := [8]) (by as_aux_lemma => kernel_rfl) (by simp) ?_
        refine AllReadyH.cons (o := { dst := none, op := Op.store 24 (Operand.tmp 9) (Operand.tmp 60), type := 0, pos := "law.go:127", after := #[{ on := 7, ground := Ground.data }, { on := 6, ground := Ground.data }, { on := 6, ground := Ground.chain }, { on := 0, ground := Ground.phase }, { on := 1, ground := Ground.phase }, { on := 2, ground := Ground.phase }, { on := 3, ground := Ground.phase }, { on := 4, ground := Ground.phase }, { on := 5, ground := Ground.phase }, { on := 6, ground := Ground.phase }, { on := 7, ground := Ground.phase }], guard := none }) rfl (fun Kx hK => ?_) AllReadyH.nil
        go_simp
        clear r0 r1 g0 g1
        obtain ⟨y0, y1⟩ := set2Q (y0 := .slice a4 m c4) (y1 := .bool da) nz5.out
        have KE := Lib.hid ((((K6.out).setCell (p := ⟨B5, 0, none⟩) hB5 (.slice a4 m c4))).setCell (p := ⟨B5, 1, none⟩) hB5 (.bool da))
        have UE : Hid (Chgs ((z6.setCell ⟨B5, 0, none⟩ (.slice a4 m c4)).setCell ⟨B5, 1, none⟩ (.bool da)) (.slice a4 m c4) dl) := Lib.hid (chgs_far U4.out nz5.out)
        refine hK.out _ _ ?_ (fun hHeld2 => ?_)
        · exact heldB_up KE.out D0.out
        clear hK Kx hHeld
        have hHeld := hHeld2
        clear hHeld2
        refine wpAnyH_done (by kernel_rfl) ?_ _
        go_wp2_with fail
        go_meet
        exact ⟨B5, a4, c4, rfl, Lib.hid (cellsAt_two y0 y1), UE, KE⟩
    · go_simp
      refine hK.out _ _ ?_ (fun hHeld2 => ?_)
      · exact heldB_up (below2Z K0.out (bl_newZ _ _)) D0.out
      clear hK Kx hHeld
      have hHeld := hHeld2
      clear hHeld2
      try simp only [Act.put, List.setIfInBounds_toArray, List.set_cons_zero, List.set_cons_succ]
      have bz8 := bl_newZ z0 (.cells #[.slice none 0 0, .bool false] 24)
      have K8 := Lib.hid (below2Z K0.out bz8)
      have D8 := Lib.hid (heldB_up K8.out D0.out)
      have nz8 := Lib.hid ((MapKept.heap_alloc z0 (.cells #[.slice none 0 0, .bool false] 24)).1)
      have hB8 : W5.heap.size ≤ z0.heap.size := (K0.out).size
      clear bz8
      generalize z0.alloc (.cells #[.slice none 0 0, .bool false] 24) = z8 at K8 D8 nz8 hHeld ⊢
      generalize z0.heap.size = B8 at nz8 hB8  ⊢
      refine wpAnyH_ready (rs := [3]) (by as_aux_lemma => kernel_rfl) (by simp) ?_
      refine AllReadyH.cons (o := { dst := some 57, op := Op.call { callee := Callee.value (Operand.func 27), args := #[Operand.tmp 54, Operand.tmp 56, Operand.const (Value.int IntKind.i64 16)], argTypes := #[24, 33, 3] }, type := 24, pos := "law.go:127", after := #[{ on := 0, ground := Ground.data }, { on := 2, ground := Ground.data }], guard := none }) rfl (fun Kx hK => ?_) AllReadyH.nil
      go_simp
      refine (qupush_any (V.out.later K8.out) (by omega) false xc ys yo ya yb yd 16 HQ3).mono ?_
      rintro e z9 ⟨u3, rfl, hu3, bz9⟩
      have K9 := Lib.hid (below2Z K8.out bz9)
      have D9 := Lib.hid (heldB_up K9.out D0.out)
      replace nz8 := Lib.hid (((bz9).block _ (Array.getElem?_eq_some_iff.1 (nz8.out)).1).trans (nz8.out))
      obtain ⟨a3, c3, rfl⟩ := chgs_shape hu3 NC.out
      have U3 := Lib.hid hu3
      clear hu3
      clear bz9
      go_wp2_with fail
      refine hK.out _ _ ?_ (fun hHeld2 => ?_)
      · exact D9.out
      clear hK Kx hHeld
      have hHeld := hHeld2
      clear hHeld2
      try simp only [Act.put, List.setIfInBounds_toArray, List.set_cons_zero, List.set_cons_succ]
      refine wpAnyH_ready (rs := [6]) (by as_aux_lemma => kernel_rfl) (by simp) ?_
      refine AllReadyH.cons (o := { dst := some 60, op := Op.call { callee := Callee.value (Operand.func 27), args := #[Operand.tmp 57, Operand.tmp 59, Operand.const (Value.int IntKind.i64 16)], argTypes := #[24, 33, 3] }, type := 24, pos := "law.go:127", after := #[{ on := 3, ground := Ground.data }, { on := 5, ground := Ground.data }, { on := 3, ground := Ground.chain }], guard := none }) rfl (fun Kx hK => ?_) AllReadyH.nil
      go_simp
      refine (qupush_any U3.out (by omega) ca xc xs xo xa xb xd 16 HQ4).mono ?_
      rintro e z10 ⟨u4, rfl, hu4, bz10⟩
      have K10 := Lib.hid (below2Z K9.out bz10)
      have D10 := Lib.hid (heldB_up K10.out D0.out)
      replace nz8 := Lib.hid (((bz10).block _ (Array.getElem?_eq_some_iff.1 (nz8.out)).1).trans (nz8.out))
      replace U3 := Lib.hid (Chgs.later U3.out bz10)
      obtain ⟨a4, c4, rfl⟩ := chgs_shape hu4 ND.out
      have U4 := Lib.hid hu4
      clear hu4
      clear bz10
      go_wp2_with fail
      refine hK.out _ _ ?_ (fun hHeld2 => ?_)
      · exact D10.out
      clear hK Kx hHeld
      have hHeld := hHeld2
      clear hHeld2
      try simp only [Act.put, List.setIfInBounds_toArray, List.set_cons_zero, List.set_cons_succ]
      obtain ⟨⟨r0, r1⟩, g0, g1⟩ := twoQ nz8.out
      refine wpAnyH_ready (rs := [8]) (by as_aux_lemma => kernel_rfl) (by simp) ?_
      refine AllReadyH.cons (o := { dst := none, op := Op.store 24 (Operand.tmp 9) (Operand.tmp 60), type := 0, pos := "law.go:127", after := #[{ on := 7, ground := Ground.data }, { on := 6, ground := Ground.data }, { on := 6, ground := Ground.chain }, { on := 0, ground := Ground.phase }, { on := 1, ground := Ground.phase }, { on := 2, ground := Ground.phase }, { on := 3, ground := Ground.phase }, { on := 4, ground := Ground.phase }, { on := 5, ground := Ground.phase }, { on := 6, ground := Ground.phase }, { on := 7, ground := Ground.phase }], guard := none }) rfl (fun Kx hK => ?_) AllReadyH.nil
      go_simp
      clear r0 r1 g0 g1
      obtain ⟨y0, y1⟩ := set2Q (y0 := .slice a4 m c4) (y1 := .bool da) nz8.out
      have KE := Lib.hid ((((K10.out).setCell (p := ⟨B8, 0, none⟩) hB8 (.slice a4 m c4))).setCell (p := ⟨B8, 1, none⟩) hB8 (.bool da))
      have UE : Hid (Chgs ((z10.setCell ⟨B8, 0, none⟩ (.slice a4 m c4)).setCell ⟨B8, 1, none⟩ (.bool da)) (.slice a4 m c4) dl) := Lib.hid (chgs_far U4.out nz8.out)
      refine hK.out _ _ ?_ (fun hHeld2 => ?_)
      · exact heldB_up KE.out D0.out
      clear hK Kx hHeld
      have hHeld := hHeld2
      clear hHeld2
      refine wpAnyH_done (by kernel_rfl) ?_ _
      go_wp2_with fail
      go_meet
      exact ⟨B8, a4, c4, rfl, Lib.hid (cellsAt_two y0 y1), UE, KE⟩
  case rest =>
    obtain ⟨BE, a4, c4, rfl, E, U4, HK⟩ := hcut
    replace V := Lib.hid (V.out.later HK.out)
    replace T := Lib.hid (T.out.later HK.out)
    replace A := Lib.hid (A.out.later HK.out)
    replace C := Lib.hid (C.out.later HK.out)
    replace U1 := Lib.hid (U1.out.later HK.out)
    replace P := Lib.hid (P.out.later HK.out)
    replace U2 := Lib.hid (U2.out.later HK.out)
    replace Q := Lib.hid (Q.out.later HK.out)
    replace HB := Lib.hid (below2Z HB.out HK.out)
    clear HK
    go_upto_region 6 with fail
    obtain ⟨BS, hBS⟩ : ∃ BS : List (Nat × List Value), BS = [(BP, [.slice a1 na c1, .bool aa]), (w.heap.size + 1, [.string ⟨xc.toArray⟩, .bool xo, .int .i64 xa, .int .i64 xb, .int .i64 xd, .string ⟨xs.toArray⟩, .string ⟨xc.toArray⟩, .bool yo, .int .i64 ya, .int .i64 yb, .int .i64 yd, .string ⟨ys.toArray⟩])] := ⟨_, rfl⟩
    have D0 := Lib.hid (show heldB wc BS from by rw [hBS]; exact heldB_cons (P.out) (heldB_cons (C.out) (heldB_nil _)))
    have hq0 : ∀ X, heldB X BS → X.cell? ⟨BP, 0, none⟩ = some (.slice a1 na c1) := fun X hx => heldB_get (vs := [.slice a1 na c1, .bool aa]) hx (by rw [hBS]; simp) rfl
    have hq1 : ∀ X, heldB X BS → X.cell? ⟨BP, 1, none⟩ = some (.bool aa) := fun X hx => heldB_get (vs := [.slice a1 na c1, .bool aa]) hx (by rw [hBS]; simp) rfl
    have hq2 : ∀ X, heldB X BS → X.cell? ⟨w.heap.size + 1, 0, none⟩ = some (.string ⟨xc.toArray⟩) := fun X hx => heldB_get (vs := [.string ⟨xc.toArray⟩, .bool xo, .int .i64 xa, .int .i64 xb, .int .i64 xd, .string ⟨xs.toArray⟩, .string ⟨xc.toArray⟩, .bool yo, .int .i64 ya, .int .i64 yb, .int .i64 yd, .string ⟨ys.toArray⟩]) hx (by rw [hBS]; simp) rfl
    have hq3 : ∀ X, heldB X BS → X.cell? ⟨w.heap.size + 1, 1, none⟩ = some (.bool xo) := fun X hx => heldB_get (vs := [.string ⟨xc.toArray⟩, .bool xo, .int .i64 xa, .int .i64 xb, .int .i64 xd, .string ⟨xs.toArray⟩, .string ⟨xc.toArray⟩, .bool yo, .int .i64 ya, .int .i64 yb, .int .i64 yd, .string ⟨ys.toArray⟩]) hx (by rw [hBS]; simp) rfl
    have hq4 : ∀ X, heldB X BS → X.cell? ⟨w.heap.size + 1, 2, none⟩ = some (.int .i64 xa) := fun X hx => heldB_get (vs := [.string ⟨xc.toArray⟩, .bool xo, .int .i64 xa, .int .i64 xb, .int .i64 xd, .string ⟨xs.toArray⟩, .string ⟨xc.toArray⟩, .bool yo, .int .i64 ya, .int .i64 yb, .int .i64 yd, .string ⟨ys.toArray⟩]) hx (by rw [hBS]; simp) rfl
    have hq5 : ∀ X, heldB X BS → X.cell? ⟨w.heap.size + 1, 3, none⟩ = some (.int .i64 xb) := fun X hx => heldB_get (vs := [.string ⟨xc.toArray⟩, .bool xo, .int .i64 xa, .int .i64 xb, .int .i64 xd, .string ⟨xs.toArray⟩, .string ⟨xc.toArray⟩, .bool yo, .int .i64 ya, .int .i64 yb, .int .i64 yd, .string ⟨ys.toArray⟩]) hx (by rw [hBS]; simp) rfl
    have hq6 : ∀ X, heldB X BS → X.cell? ⟨w.heap.size + 1, 4, none⟩ = some (.int .i64 xd) := fun X hx => heldB_get (vs := [.string ⟨xc.toArray⟩, .bool xo, .int .i64 xa, .int .i64 xb, .int .i64 xd, .string ⟨xs.toArray⟩, .string ⟨xc.toArray⟩, .bool yo, .int .i64 ya, .int .i64 yb, .int .i64 yd, .string ⟨ys.toArray⟩]) hx (by rw [hBS]; simp) rfl
    have hq7 : ∀ X, heldB X BS → X.cell? ⟨w.heap.size + 1, 5, none⟩ = some (.string ⟨xs.toArray⟩) := fun X hx => heldB_get (vs := [.string ⟨xc.toArray⟩, .bool xo, .int .i64 xa, .int .i64 xb, .int .i64 xd, .string ⟨xs.toArray⟩, .string ⟨xc.toArray⟩, .bool yo, .int .i64 ya, .int .i64 yb, .int .i64 yd, .string ⟨ys.toArray⟩]) hx (by rw [hBS]; simp) rfl
    have hq8 : ∀ X, heldB X BS → X.cell? ⟨w.heap.size + 1, 6, none⟩ = some (.string ⟨xc.toArray⟩) := fun X hx => heldB_get (vs := [.string ⟨xc.toArray⟩, .bool xo, .int .i64 xa, .int .i64 xb, .int .i64 xd, .string ⟨xs.toArray⟩, .string ⟨xc.toArray⟩, .bool yo, .int .i64 ya, .int .i64 yb, .int .i64 yd, .string ⟨ys.toArray⟩]) hx (by rw [hBS]; simp) rfl
    have hq9 : ∀ X, heldB X BS → X.cell? ⟨w.heap.size + 1, 7, none⟩ = some (.bool yo) := fun X hx => heldB_get (vs := [.string ⟨xc.toArray⟩, .bool xo, .int .i64 xa, .int .i64 xb, .int .i64 xd, .string ⟨xs.toArray⟩, .string ⟨xc.toArray⟩, .bool yo, .int .i64 ya, .int .i64 yb, .int .i64 yd, .string ⟨ys.toArray⟩]) hx (by rw [hBS]; simp) rfl
    have hq10 : ∀ X, heldB X BS → X.cell? ⟨w.heap.size + 1, 8, none⟩ = some (.int .i64 ya) := fun X hx => heldB_get (vs := [.string ⟨xc.toArray⟩, .bool xo, .int .i64 xa, .int .i64 xb, .int .i64 xd, .string ⟨xs.toArray⟩, .string ⟨xc.toArray⟩, .bool yo, .int .i64 ya, .int .i64 yb, .int .i64 yd, .string ⟨ys.toArray⟩]) hx (by rw [hBS]; simp) rfl
    have hq11 : ∀ X, heldB X BS → X.cell? ⟨w.heap.size + 1, 9, none⟩ = some (.int .i64 yb) := fun X hx => heldB_get (vs := [.string ⟨xc.toArray⟩, .bool xo, .int .i64 xa, .int .i64 xb, .int .i64 xd, .string ⟨xs.toArray⟩, .string ⟨xc.toArray⟩, .bool yo, .int .i64 ya, .int .i64 yb, .int .i64 yd, .string ⟨ys.toArray⟩]) hx (by rw [hBS]; simp) rfl
    have hq12 : ∀ X, heldB X BS → X.cell? ⟨w.heap.size + 1, 10, none⟩ = some (.int .i64 yd) := fun X hx => heldB_get (vs := [.string ⟨xc.toArray⟩, .bool xo, .int .i64 xa, .int .i64 xb, .int .i64 xd, .string ⟨xs.toArray⟩, .string ⟨xc.toArray⟩, .bool yo, .int .i64 ya, .int .i64 yb, .int .i64 yd, .string ⟨ys.toArray⟩]) hx (by rw [hBS]; simp) rfl
    have hq13 : ∀ X, heldB X BS → X.cell? ⟨w.heap.size + 1, 11, none⟩ = some (.string ⟨ys.toArray⟩) := fun X hx => heldB_get (vs := [.string ⟨xc.toArray⟩, .bool xo, .int .i64 xa, .int .i64 xb, .int .i64 xd, .string ⟨xs.toArray⟩, .string ⟨xc.toArray⟩, .bool yo, .int .i64 ya, .int .i64 yb, .int .i64 yd, .string ⟨ys.toArray⟩]) hx (by rw [hBS]; simp) rfl
    clear hBS
    have K0 : Hid (Below wc.heap.size wc wc.drew) := Lib.hid (Below.refl _ _).drew
    refine wp_region_held_drew (S := (fun X => heldB X BS)) (by kernel_rfl) ?_ (fun hHeld => ?_)
    · exact heldB_up K0.out D0.out
    generalize wc.drew = z0 at K0 hHeld ⊢
    refine wpAnyH_take (i := 0) (oi := { dst := some 61, op := Op.load 24 (Operand.tmp 7), type := 24, pos := "law.go:128", after := #[], guard := none }) (v := ?_) rfl (by as_aux_lemma => kernel_rfl) (by as_aux_lemma => kernel_rfl) (by as_aux_lemma => kernel_rfl) (fun _ _ _ h => h) (Or.inl ⟨by rfl, ?_⟩) (by assumption) ?_
    rotate_left
    · intro w' hSw
      try dsimp only at hSw
      go_simp
      try with_reducible rfl
    try simp only [Act.put, List.setIfInBounds_toArray, List.set_cons_zero, List.set_cons_succ]
    refine wpAnyH_take (i := 1) (oi := { dst := some 62, op := Op.indexAddr 49 (Operand.tmp 5) (Operand.const (Value.int IntKind.i64 0)), type := 0, pos := "law.go:128", after := #[], guard := none }) (v := ?_) rfl (by as_aux_lemma => kernel_rfl) (by as_aux_lemma => kernel_rfl) (by as_aux_lemma => kernel_rfl) (fun _ _ _ h => h) (Or.inl ⟨by rfl, ?_⟩) (by assumption) ?_
    rotate_left
    · intro w' hSw
      try dsimp only at hSw
      go_simp
      try with_reducible rfl
    try simp only [Act.put, List.setIfInBounds_toArray, List.set_cons_zero, List.set_cons_succ]
    refine wpAnyH_take (i := 2) (oi := { dst := some 63, op := Op.load 33 (Operand.tmp 62), type := 33, pos := "law.go:128", after := #[{ on := 1, ground := Ground.data }], guard := none }) (v := ?_) rfl (by as_aux_lemma => kernel_rfl) (by as_aux_lemma => kernel_rfl) (by as_aux_lemma => kernel_rfl) (fun _ _ _ h => h) (Or.inl ⟨by rfl, ?_⟩) (by assumption) ?_
    rotate_left
    · intro w' hSw
      try dsimp only at hSw
      go_simp
      try with_reducible rfl
    try simp only [Act.put, List.setIfInBounds_toArray, List.set_cons_zero, List.set_cons_succ]
    refine wpAnyH_take (i := 4) (oi := { dst := some 65, op := Op.load 24 (Operand.tmp 7), type := 24, pos := "law.go:128", after := #[], guard := none }) (v := ?_) rfl (by as_aux_lemma => kernel_rfl) (by as_aux_lemma => kernel_rfl) (by as_aux_lemma => kernel_rfl) (fun _ _ _ h => h) (Or.inl ⟨by rfl, ?_⟩) (by assumption) ?_
    rotate_left
    · intro w' hSw
      try dsimp only at hSw
      go_simp
      try with_reducible rfl
    try simp only [Act.put, List.setIfInBounds_toArray, List.set_cons_zero, List.set_cons_succ]
    refine wpAnyH_ready (rs := [3]) (by as_aux_lemma => kernel_rfl) (by simp) ?_
    refine AllReadyH.cons (o := { dst := some 64, op := Op.call { callee := Callee.value (Operand.func 27), args := #[Operand.tmp 61, Operand.tmp 63, Operand.const (Value.int IntKind.i64 16)], argTypes := #[24, 33, 3] }, type := 24, pos := "law.go:128", after := #[{ on := 0, ground := Ground.data }, { on := 2, ground := Ground.data }], guard := none }) rfl (fun Kx hK => ?_) AllReadyH.nil
    go_simp
    refine (qupush_any (U1.out.later K0.out) (by omega) aa xc xs xo xa xb xd 16 HQ5).mono ?_
    rintro e z1 ⟨u5, rfl, hu5, bz1⟩
    have K1 := Lib.hid (below2Z K0.out bz1)
    have D1 := Lib.hid (heldB_up K1.out D0.out)
    obtain ⟨a5, c5, rfl⟩ := chgs_shape hu5 NA.out
    have U5 := Lib.hid hu5
    clear hu5
    clear bz1
    go_wp2_with fail
    refine hK.out _ _ ?_ (fun hHeld2 => ?_)
    · exact D1.out
    clear hK Kx hHeld
    have hHeld := hHeld2
    clear hHeld2
    try simp only [Act.put, List.setIfInBounds_toArray, List.set_cons_zero, List.set_cons_succ]
    refine wpAnyH_ready (rs := [5]) (by as_aux_lemma => kernel_rfl) (by simp) ?_
    refine AllReadyH.cons (o := { dst := some 66, op := Op.call { callee := Callee.value (Operand.func 20), args := #[Operand.tmp 64, Operand.tmp 65], argTypes := #[24, 24] }, type := 4, pos := "law.go:128", after := #[{ on := 3, ground := Ground.data }, { on := 4, ground := Ground.data }, { on := 3, ground := Ground.chain }], guard := none }) rfl (fun Kx hK => ?_) AllReadyH.nil
    go_simp
    refine (qusame_any U5.out (U1.out.later K1.out) aa aa (Lib.hid (quSame_self _))).mono ?_
    rintro e z2 ⟨rfl, bz2⟩
    have K2 := Lib.hid (below2Z K1.out bz2)
    have D2 := Lib.hid (heldB_up K2.out D0.out)
    replace U5 := Lib.hid (Chgs.later U5.out bz2)
    clear bz2
    go_wp2_with fail
    refine hK.out _ _ ?_ (fun hHeld2 => ?_)
    · exact D2.out
    clear hK Kx hHeld
    have hHeld := hHeld2
    clear hHeld2
    try simp only [Act.put, List.setIfInBounds_toArray, List.set_cons_zero, List.set_cons_succ]
    refine wpAnyH_take (i := 6) (oi := { dst := some 67, op := Op.unOp UnOp.not 4 (Operand.tmp 66), type := 4, pos := "law.go:128", after := #[{ on := 5, ground := Ground.data }], guard := none }) (v := ?_) rfl (by as_aux_lemma => kernel_rfl) (by as_aux_lemma => kernel_rfl) (by as_aux_lemma => kernel_rfl) (fun _ _ _ h => h) (Or.inl ⟨by rfl, ?_⟩) (by assumption) ?_
    rotate_left
    · intro w' hSw
      try dsimp only at hSw
      go_simp
      try with_reducible rfl
    try simp only [Act.put, List.setIfInBounds_toArray, List.set_cons_zero, List.set_cons_succ]
    refine wpAnyH_done (by kernel_rfl) ?_ _
    replace V := Lib.hid (V.out.later K2.out)
    replace T := Lib.hid (T.out.later K2.out)
    replace A := Lib.hid (A.out.later K2.out)
    replace C := Lib.hid (C.out.later K2.out)
    replace U1 := Lib.hid (U1.out.later K2.out)
    replace P := Lib.hid (P.out.later K2.out)
    replace U2 := Lib.hid (U2.out.later K2.out)
    replace Q := Lib.hid (Q.out.later K2.out)
    replace E := Lib.hid (E.out.later K2.out)
    replace U4 := Lib.hid (U4.out.later K2.out)
    replace HB := Lib.hid (below2Z HB.out K2.out)
    clear hHeld U5 D1 D2
    obtain ⟨q0, q1⟩ := twoAt A.out
    obtain ⟨⟨r0, r1, r2, r3, r4, r5⟩, r6, r7, r8, r9, r10, r11⟩ := twelveAt C.out
    go_wp2_with fail
    clear q0 q1 r0 r1 r2 r3 r4 r5 r6 r7 r8 r9 r10 r11
    refine (live17 _).mono ?_
    rintro e w61 ⟨rfl, b61⟩
    replace V := Lib.hid (V.out.later b61)
    replace T := Lib.hid (T.out.later b61)
    replace A := Lib.hid (A.out.later b61)
    replace C := Lib.hid (C.out.later b61)
    replace U1 := Lib.hid (U1.out.later b61)
    replace P := Lib.hid (P.out.later b61)
    replace U2 := Lib.hid (U2.out.later b61)
    replace Q := Lib.hid (Q.out.later b61)
    replace E := Lib.hid (E.out.later b61)
    replace U4 := Lib.hid (U4.out.later b61)
    replace HB := Lib.hid (below2Z HB.out b61)
    clear b61
    go_wp2_with fail
    go_ret
    exact ⟨rfl, HB.out⟩

theorem walkQueueTwo {w : World} {v vt : Value} {q : Que} {t : List Row} (hv : Chgs w v q.l) (ht : Tab w vt t) (a b : Chg) :
    Calls Try.prog 7 #[.agg #[v, .bool q.la], vt, chg2Agg a b] w fun e w' => e = .returned (.bool true) ∧ Below w.heap.size w w' := by
  obtain ⟨l, la⟩ := q
  obtain ⟨xc, xo, ⟨xa, xb, xd, xs⟩⟩ := a
  obtain ⟨yc, yo, ⟨ya, yb, yd, ys⟩⟩ := b
  cases hs : fewC l 30 with
  | false => exact qtw_1 hv la ht xc xs yc ys xo yo xa xb xd ya yb yd hs
  | true =>
    cases hm : quMay ⟨l, la⟩ 14 with
    | false => exact qtw_2 hv la ht xc xs yc ys xo yo xa xb xd ya yb yd hs hm
    | true =>
      cases hf : fewT t with
      | false => exact qtw_3 hv la ht xc xs yc ys xo yo xa xb xd ya yb yd hs hm hf
      | true =>
        cases hd : diMay t with
        | false => exact qtw_4 hv la ht xc xs yc ys xo yo xa xb xd ya yb yd hs hm hf hd
        | true =>
          cases hc : fewC [⟨xc, xo, ⟨xa, xb, xd, xs⟩⟩, ⟨yc, yo, ⟨ya, yb, yd, ys⟩⟩] 2 with
          | false => exact qtw_5 hv la ht xc xs yc ys xo yo xa xb xd ya yb yd hs hm hf hd hc
          | true =>
            cases h6 : quOne ⟨xc, xo, ⟨xa, xb, xd, xs⟩⟩ with
            | false => exact qtw_6 hv la ht xc xs yc ys xo yo xa xb xd ya yb yd hs hm hf hd hc h6
            | true =>
              cases h7 : quOne ⟨yc, yo, ⟨ya, yb, yd, ys⟩⟩ with
              | false => exact qtw_7 hv la ht xc xs yc ys xo yo xa xb xd ya yb yd hs hm hf hd hc h6 h7
              | true =>
                cases la with
                | true => exact qtw_8 hv ht xc xs yc ys xo yo xa xb xd ya yb yd hs hm hf hd hc h6 h7
                | false =>
                  by_cases hne : xc = yc
                  · subst hne
                    exact qtw_9 hv ht xc xs ys xo yo xa xb xd ya yb yd hs hm hf hd hc h6 h7
                  · exact qtw_10 hv ht xc xs yc ys xo yo xa xb xd ya yb yd hs hm hf hd hc h6 h7 hne

end Go.Proofs.Ythlkfbiclhgdoaa

end

section

/-
  THE FRAME OF THE PROOF OF QueueTwo: for every input the law returns true, and each argument reads behind the call as it read before. No condition.
-/
namespace Go.Proofs.Ythlkfbiclhgdoaa.queueTwo
open Go.ChangeShapes Go.WideShapes Go.ChangeAt Go.RowKit
open Go.ChangeMaps (open_string shut_string)
set_option linter.unusedVariables false

theorem own : ownKnob Try.prog.godebug = none := by kernel_rfl
theorem laidOut : laidOutB Try.prog = true := by kernel_rfl

set_option maxRecDepth 100000 in
theorem lifted (os : Os) (started : os.Started) (H : Type) (enc : TypeId × Value → H) :
    ReturnsInHanded {} Try.checked os 7 .any (Rows.queueTwoSpec.pre6 enc Try.prog Try.f7 Rows.queueTwoRow.domain false) (Rows.queueTwoSpec.post enc Try.prog Try.f7 false true false false) := by
  refine returnsInHanded_of_change (C := Try.checked) own started (by kernel_rfl) Try.func7
    (ChangeSpec.witness6 (enc := enc) (C := Try.checked) false ⟨#[], #[.agg #[.slice none 0 0, .bool false], .slice none 0 0, .agg #[.string ByteArray.empty, .bool false, .int .i64 0, .int .i64 0, .int .i64 0, .string ByteArray.empty, .string ByteArray.empty, .bool false, .int .i64 0, .int .i64 0, .int .i64 0, .string ByteArray.empty]], []⟩ 8 (by kernel_rfl) (by kernel_rfl) (by kernel_rfl) (by kernel_rfl)) ?_
  intro W base args ds gs before hval0 hW hcnd _
  have hval : ∀ (j : Nat) t v, Try.f7.params[j]? = some t → args[j]? = some v → Value.okWide Try.prog W .any base t v := hval0
  have hW' := hW
  obtain ⟨p, q, hA0, hV, rfl, hfz, hnd⟩ := hW
  have hA : DataW.TrodAll enc Try.prog W 0 (fun _ => true) true Try.f7.params.toList args.toList ds p := hA0
  rw [Try.params7] at hA hval
  obtain ⟨v0, vs0, d0, ds0, p0, q0, hargs, rfl, rfl, h0, r0⟩ := trodAll_cons hA
  obtain ⟨v1, vs1, d1, ds1, p1, q1, rfl, rfl, rfl, h1, r1⟩ := trodAll_cons r0
  obtain ⟨v2, vs2, d2, ds2, p2, q2, rfl, rfl, rfl, h2, r2⟩ := trodAll_cons r1
  obtain ⟨rfl, rfl, rfl⟩ := trodAll_nil r2
  obtain rfl : args = #[v0, v1, v2] := by cases args; simp_all
  obtain ⟨rfl, rfl⟩ := trodVars_none hV
  have k0 := h0
  have lt0 : ∀ x ∈ p0, x.block < W.heap.size := by obtain ⟨m, hm⟩ := k0; exact DataW.trod_lt m _ _ _ hm
  obtain ⟨x0, a0, rfl, w0⟩ := open_que (hval 0 24 v0 rfl rfl) h0
  have k1 := h1
  have lt1 : ∀ x ∈ p1, x.block < W.heap.size := by obtain ⟨m, hm⟩ := k1; exact DataW.trod_lt m _ _ _ hm
  obtain ⟨l1, w1, f1⟩ := open_tab (hval 1 25 v1 rfl rfl) h1
  have k2 := h2
  have lt2 : ∀ x ∈ p2, x.block < W.heap.size := by obtain ⟨m, hm⟩ := k2; exact DataW.trod_lt m _ _ _ hm
  obtain ⟨a2, e2, rfl⟩ := open_chg2 (hval 2 49 v2 rfl rfl) h2
  clear hA0 hval0
  refine (walkQueueTwo (w := W) w0 w1 a2 e2).mono fun e W' ⟨he, bel⟩ => ?_
  subst he
  exact ⟨_, rfl, _, _, _, [], _, [], hW', trodAll_mk1 (shut_bool Try.underlying4 _), (trodAll_cons_mk (Below.trod laidOut (by kernel_rfl) (of_decide_eq_true (by kernel_rfl)) k0 bel lt0) (trodAll_cons_mk (Below.trod laidOut (by kernel_rfl) (of_decide_eq_true (by kernel_rfl)) k1 bel lt1) (trodAll_cons_mk (Below.trod laidOut (by kernel_rfl) (of_decide_eq_true (by kernel_rfl)) k2 bel lt2) trodAll_mk0))), rfl, bel.frame _, fun h => by cases h⟩

theorem over : Rows.queueTwoRow.holds Try.pinned (OpenSpec.ofChange Rows.queueTwoSpec) :=
  OpenClaim.holds_of_wide 7 Try.f7 rfl rfl rfl rfl rfl rfl rfl ⟨rfl, rfl, rfl, rfl, rfl⟩ rfl rfl rfl rfl rfl (by kernel_rfl) Try.func7 (by kernel_rfl)
    (of_decide_eq_true (by kernel_rfl)) (by unfold Func.isWrapper; first | (rw [if_pos (by decide +kernel)]; kernel_rfl) | (rw [if_neg (by decide +kernel)]; exact ⟨rfl, rfl⟩))
    (fun os started H enc _ => lifted os started H enc)

/-- THE STATEMENT. -/
theorem proved : Rows.QueueTwoSaid := over
#print axioms proved
end Go.Proofs.Ythlkfbiclhgdoaa.queueTwo

end
