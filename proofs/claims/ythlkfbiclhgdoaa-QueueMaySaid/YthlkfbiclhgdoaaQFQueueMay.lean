/-
  THE PROOF OF QueueMay: for every input the law returns true, and each argument reads behind the call as it read before. No condition.
-/
import Derived.Test.YthlkfbiclhgdoaaQ07
import Derived.Deep.DeepCutAuto
import Derived.Deep.CutBlock
import Derived.Test.YthlkfbiclhgdoaaQ05
import Derived.Test.YthlkfbiclhgdoaaRows
import Derived.ProofKit
import Derived.OpenShut
import Derived.ShutString
import Derived.ChangeOld
import Derived.SliceStrings
import Derived.Lib.SmallJoins

section

/-
  THE WALK OF QueueMay.
-/
namespace Go.Proofs.Ythlkfbiclhgdoaa
open Go.RowKit

theorem fewC_one {c : Chg} (h : fewC [c] 1 = true) : c.c.length ≤ 4294967296 ∧ c.v.st.length ≤ 4294967296 := by
  have := (fewC_get h).2 c (by simp)
  omega

theorem qumay_nil {la : Bool} {room : Int} (h : 0 ≤ room) : quMay ⟨[], la⟩ room = true :=
  quMay_iff.2 ⟨by simpa using h, fun _ => rfl, (fun c hc => by cases hc), List.nodup_nil⟩

theorem push_full {l : List Chg} {c : Chg} {room : Int} (hm : quMay ⟨l, false⟩ room = true) (h : quPush ⟨l, false⟩ c room = ⟨[], true⟩) : quHas l c.c = false ∧ (l.length : Int) = room := by
  have h1 := (quMay_iff.1 hm).1
  rcases quPush_ways ⟨l, false⟩ c room with ⟨hl, _⟩ | ⟨_, _, e⟩ | ⟨_, _, _, e⟩ | ⟨_, hh, hr, _⟩
  · cases hl
  · have := congrArg Que.la (h.symm.trans e)
    cases this
  · have := congrArg Que.la (h.symm.trans e)
    cases this
  · simp only at hh hr h1
    exact ⟨hh, by omega⟩

theorem neq_self6 (k : List UInt8) (o : Bool) (a b c : Int) (s : List UInt8) (w : World) :
    (binOp .neq 33 (.agg #[.string ⟨k.toArray⟩, .bool o, .int .i64 a, .int .i64 b, .int .i64 c, .string ⟨s.toArray⟩]) (.agg #[.string ⟨k.toArray⟩, .bool o, .int .i64 a, .int .i64 b, .int .i64 c, .string ⟨s.toArray⟩])).run Try.prog w = .ok (.bool false) w := by
  have := chg_neq6 k k o o a b c a b c s s w
  rwa [cSame_self] at this

set_option maxHeartbeats 6400000 in
set_option maxRecDepth 100000 in
theorem qmy_1 {w : World} {v : Value} {l : List Chg} (hv : Chgs w v l) (la : Bool) (c st : List UInt8) (on : Bool) (a b d : Int) (room : Int) (h1 : room < 1) :
    Calls Try.prog 5 #[.agg #[v, .bool la], .agg #[.string ⟨c.toArray⟩, .bool on, .int .i64 a, .int .i64 b, .int .i64 d, .string ⟨st.toArray⟩], .int .i64 room] w fun e w' => e = .returned (.bool true) ∧ Below w.heap.size w w' := by
  obtain ⟨ao, cap, rfl, _hmx⟩ := hv.open'
  have b0 := bl_newZ w (.cells #[.slice ao l.length cap, .bool la] 24)
  have b00 := bl_newZ (w.alloc (.cells #[.slice ao l.length cap, .bool la] 24)) (.cells #[.string ⟨c.toArray⟩, .bool on, .int .i64 a, .int .i64 b, .int .i64 d, .string ⟨st.toArray⟩] 33)
  have HB := Lib.hid (below2Z b0 b00)
  have V := Lib.hid ((hv.later b0).later b00)
  have A := Lib.hid ((cellsAt_made (w := w) (cs := #[.slice ao l.length cap, .bool la]) (vs := [.slice ao l.length cap, .bool la]) rfl 24 rfl).later b00)
  have C := Lib.hid (cellsAt_made (w := w.alloc (.cells #[.slice ao l.length cap, .bool la] 24)) (cs := #[.string ⟨c.toArray⟩, .bool on, .int .i64 a, .int .i64 b, .int .i64 d, .string ⟨st.toArray⟩]) (vs := [.string ⟨c.toArray⟩, .bool on, .int .i64 a, .int .i64 b, .int .i64 d, .string ⟨st.toArray⟩]) rfl 33 (B := w.heap.size + 1) (by simp))
  clear b0 b00 hv
  have u1 : decide (room < 1) = true := decide_eq_true h1
  clear h1
  go_enter Try.func5, Try.ntmps5
  go_wp2_with fail
  refine (live17 _).mono ?_
  rintro e w1 ⟨rfl, b1⟩
  replace V := Lib.hid (V.out.later b1)
  replace A := Lib.hid (A.out.later b1)
  replace C := Lib.hid (C.out.later b1)
  replace HB := Lib.hid (below2Z HB.out b1)
  clear b1
  go_wp2_with fail
  go_ret
  exact ⟨rfl, HB.out⟩

set_option maxHeartbeats 6400000 in
set_option maxRecDepth 100000 in
theorem qmy_2 {w : World} {v : Value} {l : List Chg} (hv : Chgs w v l) (la : Bool) (c st : List UInt8) (on : Bool) (a b d : Int) (room : Int) (_h1 : 1 ≤ room) (h2 : 16 < room) :
    Calls Try.prog 5 #[.agg #[v, .bool la], .agg #[.string ⟨c.toArray⟩, .bool on, .int .i64 a, .int .i64 b, .int .i64 d, .string ⟨st.toArray⟩], .int .i64 room] w fun e w' => e = .returned (.bool true) ∧ Below w.heap.size w w' := by
  obtain ⟨ao, cap, rfl, _hmx⟩ := hv.open'
  have b0 := bl_newZ w (.cells #[.slice ao l.length cap, .bool la] 24)
  have b00 := bl_newZ (w.alloc (.cells #[.slice ao l.length cap, .bool la] 24)) (.cells #[.string ⟨c.toArray⟩, .bool on, .int .i64 a, .int .i64 b, .int .i64 d, .string ⟨st.toArray⟩] 33)
  have HB := Lib.hid (below2Z b0 b00)
  have V := Lib.hid ((hv.later b0).later b00)
  have A := Lib.hid ((cellsAt_made (w := w) (cs := #[.slice ao l.length cap, .bool la]) (vs := [.slice ao l.length cap, .bool la]) rfl 24 rfl).later b00)
  have C := Lib.hid (cellsAt_made (w := w.alloc (.cells #[.slice ao l.length cap, .bool la] 24)) (cs := #[.string ⟨c.toArray⟩, .bool on, .int .i64 a, .int .i64 b, .int .i64 d, .string ⟨st.toArray⟩]) (vs := [.string ⟨c.toArray⟩, .bool on, .int .i64 a, .int .i64 b, .int .i64 d, .string ⟨st.toArray⟩]) rfl 33 (B := w.heap.size + 1) (by simp))
  clear b0 b00 hv
  have u1 : decide (room < 1) = false := decide_eq_false (by omega)
  have u2 : decide (16 < room) = true := decide_eq_true h2
  clear h2
  go_enter Try.func5, Try.ntmps5
  go_wp2_with fail
  refine (live17 _).mono ?_
  rintro e w1 ⟨rfl, b1⟩
  replace V := Lib.hid (V.out.later b1)
  replace A := Lib.hid (A.out.later b1)
  replace C := Lib.hid (C.out.later b1)
  replace HB := Lib.hid (below2Z HB.out b1)
  clear b1
  go_wp2_with fail
  go_ret
  exact ⟨rfl, HB.out⟩

set_option maxHeartbeats 6400000 in
set_option maxRecDepth 100000 in
theorem qmy_3 {w : World} {v : Value} {l : List Chg} (hv : Chgs w v l) (la : Bool) (c st : List UInt8) (on : Bool) (a b d : Int) (room : Int) (h1 : 1 ≤ room) (h2 : room ≤ 16) (hs : fewC l 30 = false) :
    Calls Try.prog 5 #[.agg #[v, .bool la], .agg #[.string ⟨c.toArray⟩, .bool on, .int .i64 a, .int .i64 b, .int .i64 d, .string ⟨st.toArray⟩], .int .i64 room] w fun e w' => e = .returned (.bool true) ∧ Below w.heap.size w w' := by
  obtain ⟨ao, cap, rfl, _hmx⟩ := hv.open'
  have b0 := bl_newZ w (.cells #[.slice ao l.length cap, .bool la] 24)
  have b00 := bl_newZ (w.alloc (.cells #[.slice ao l.length cap, .bool la] 24)) (.cells #[.string ⟨c.toArray⟩, .bool on, .int .i64 a, .int .i64 b, .int .i64 d, .string ⟨st.toArray⟩] 33)
  have HB := Lib.hid (below2Z b0 b00)
  have V := Lib.hid ((hv.later b0).later b00)
  have A := Lib.hid ((cellsAt_made (w := w) (cs := #[.slice ao l.length cap, .bool la]) (vs := [.slice ao l.length cap, .bool la]) rfl 24 rfl).later b00)
  have C := Lib.hid (cellsAt_made (w := w.alloc (.cells #[.slice ao l.length cap, .bool la] 24)) (cs := #[.string ⟨c.toArray⟩, .bool on, .int .i64 a, .int .i64 b, .int .i64 d, .string ⟨st.toArray⟩]) (vs := [.string ⟨c.toArray⟩, .bool on, .int .i64 a, .int .i64 b, .int .i64 d, .string ⟨st.toArray⟩]) rfl 33 (B := w.heap.size + 1) (by simp))
  clear b0 b00 hv
  have u1 : decide (room < 1) = false := decide_eq_false (by omega)
  have u2 : decide (16 < room) = false := decide_eq_false (by omega)
  have H1 := Lib.hid hs
  clear hs h1 h2
  obtain ⟨q0, q1⟩ := twoAt A.out
  go_enter Try.func5, Try.ntmps5
  go_wp2_with fail
  clear q0 q1
  refine (fewq_any V.out la H1).mono ?_
  rintro e w1 ⟨rfl, b1⟩
  replace V := Lib.hid (V.out.later b1)
  replace A := Lib.hid (A.out.later b1)
  replace C := Lib.hid (C.out.later b1)
  replace HB := Lib.hid (below2Z HB.out b1)
  clear b1
  go_wp2_with fail
  refine (live17 _).mono ?_
  rintro e w2 ⟨rfl, b2⟩
  replace V := Lib.hid (V.out.later b2)
  replace A := Lib.hid (A.out.later b2)
  replace C := Lib.hid (C.out.later b2)
  replace HB := Lib.hid (below2Z HB.out b2)
  clear b2
  go_wp2_with fail
  go_ret
  exact ⟨rfl, HB.out⟩

set_option maxHeartbeats 6400000 in
set_option maxRecDepth 100000 in
theorem qmy_4 {w : World} {v : Value} {l : List Chg} (hv : Chgs w v l) (la : Bool) (c st : List UInt8) (on : Bool) (a b d : Int) (room : Int) (h1 : 1 ≤ room) (h2 : room ≤ 16) (hs : fewC l 30 = true) (hm : quMay ⟨l, la⟩ room = false) :
    Calls Try.prog 5 #[.agg #[v, .bool la], .agg #[.string ⟨c.toArray⟩, .bool on, .int .i64 a, .int .i64 b, .int .i64 d, .string ⟨st.toArray⟩], .int .i64 room] w fun e w' => e = .returned (.bool true) ∧ Below w.heap.size w w' := by
  obtain ⟨ao, cap, rfl, _hmx⟩ := hv.open'
  have b0 := bl_newZ w (.cells #[.slice ao l.length cap, .bool la] 24)
  have b00 := bl_newZ (w.alloc (.cells #[.slice ao l.length cap, .bool la] 24)) (.cells #[.string ⟨c.toArray⟩, .bool on, .int .i64 a, .int .i64 b, .int .i64 d, .string ⟨st.toArray⟩] 33)
  have HB := Lib.hid (below2Z b0 b00)
  have V := Lib.hid ((hv.later b0).later b00)
  have A := Lib.hid ((cellsAt_made (w := w) (cs := #[.slice ao l.length cap, .bool la]) (vs := [.slice ao l.length cap, .bool la]) rfl 24 rfl).later b00)
  have C := Lib.hid (cellsAt_made (w := w.alloc (.cells #[.slice ao l.length cap, .bool la] 24)) (cs := #[.string ⟨c.toArray⟩, .bool on, .int .i64 a, .int .i64 b, .int .i64 d, .string ⟨st.toArray⟩]) (vs := [.string ⟨c.toArray⟩, .bool on, .int .i64 a, .int .i64 b, .int .i64 d, .string ⟨st.toArray⟩]) rfl 33 (B := w.heap.size + 1) (by simp))
  clear b0 b00 hv
  have u1 : decide (room < 1) = false := decide_eq_false (by omega)
  have u2 : decide (16 < room) = false := decide_eq_false (by omega)
  have H1 := Lib.hid hs
  have H2 := Lib.hid hm
  have hl30 := (fewC_get hs).1
  clear h1 h2 hs hm
  obtain ⟨q0, q1⟩ := twoAt A.out
  go_enter Try.func5, Try.ntmps5
  go_wp2_with fail
  clear q0 q1
  refine (fewq_any V.out la H1).mono ?_
  rintro e w1 ⟨rfl, b1⟩
  replace V := Lib.hid (V.out.later b1)
  replace A := Lib.hid (A.out.later b1)
  replace C := Lib.hid (C.out.later b1)
  replace HB := Lib.hid (below2Z HB.out b1)
  clear b1
  obtain ⟨q0, q1⟩ := twoAt A.out
  go_wp2_with fail
  clear q0 q1
  refine (rqumay_any V.out (fewC_short H1.out) (by omega) la H2).mono ?_
  rintro e w2 ⟨rfl, b2⟩
  replace V := Lib.hid (V.out.later b2)
  replace A := Lib.hid (A.out.later b2)
  replace C := Lib.hid (C.out.later b2)
  replace HB := Lib.hid (below2Z HB.out b2)
  clear b2
  go_wp2_with fail
  refine (live17 _).mono ?_
  rintro e w3 ⟨rfl, b3⟩
  replace V := Lib.hid (V.out.later b3)
  replace A := Lib.hid (A.out.later b3)
  replace C := Lib.hid (C.out.later b3)
  replace HB := Lib.hid (below2Z HB.out b3)
  clear b3
  go_wp2_with fail
  go_ret
  exact ⟨rfl, HB.out⟩

set_option maxHeartbeats 6400000 in
set_option maxRecDepth 100000 in
theorem qmy_5 {w : World} {v : Value} {l : List Chg} (hv : Chgs w v l) (la : Bool) (c st : List UInt8) (on : Bool) (a b d : Int) (room : Int) (h1 : 1 ≤ room) (h2 : room ≤ 16) (hs : fewC l 30 = true) (hm : quMay ⟨l, la⟩ room = true) (hc : fewC [⟨c, on, ⟨a, b, d, st⟩⟩] 1 = false) :
    Calls Try.prog 5 #[.agg #[v, .bool la], .agg #[.string ⟨c.toArray⟩, .bool on, .int .i64 a, .int .i64 b, .int .i64 d, .string ⟨st.toArray⟩], .int .i64 room] w fun e w' => e = .returned (.bool true) ∧ Below w.heap.size w w' := by
  obtain ⟨ao, cap, rfl, _hmx⟩ := hv.open'
  have b0 := bl_newZ w (.cells #[.slice ao l.length cap, .bool la] 24)
  have b00 := bl_newZ (w.alloc (.cells #[.slice ao l.length cap, .bool la] 24)) (.cells #[.string ⟨c.toArray⟩, .bool on, .int .i64 a, .int .i64 b, .int .i64 d, .string ⟨st.toArray⟩] 33)
  have HB := Lib.hid (below2Z b0 b00)
  have V := Lib.hid ((hv.later b0).later b00)
  have A := Lib.hid ((cellsAt_made (w := w) (cs := #[.slice ao l.length cap, .bool la]) (vs := [.slice ao l.length cap, .bool la]) rfl 24 rfl).later b00)
  have C := Lib.hid (cellsAt_made (w := w.alloc (.cells #[.slice ao l.length cap, .bool la] 24)) (cs := #[.string ⟨c.toArray⟩, .bool on, .int .i64 a, .int .i64 b, .int .i64 d, .string ⟨st.toArray⟩]) (vs := [.string ⟨c.toArray⟩, .bool on, .int .i64 a, .int .i64 b, .int .i64 d, .string ⟨st.toArray⟩]) rfl 33 (B := w.heap.size + 1) (by simp))
  clear b0 b00 hv
  have u1 : decide (room < 1) = false := decide_eq_false (by omega)
  have u2 : decide (16 < room) = false := decide_eq_false (by omega)
  have H1 := Lib.hid hs
  have H2 := Lib.hid hm
  have H3 := Lib.hid hc
  have hl30 := (fewC_get hs).1
  clear h1 h2 hs hm hc
  obtain ⟨q0, q1⟩ := twoAt A.out
  go_enter Try.func5, Try.ntmps5
  go_wp2_with fail
  clear q0 q1
  refine (fewq_any V.out la H1).mono ?_
  rintro e w1 ⟨rfl, b1⟩
  replace V := Lib.hid (V.out.later b1)
  replace A := Lib.hid (A.out.later b1)
  replace C := Lib.hid (C.out.later b1)
  replace HB := Lib.hid (below2Z HB.out b1)
  clear b1
  obtain ⟨q0, q1⟩ := twoAt A.out
  go_wp2_with fail
  clear q0 q1
  refine (rqumay_any V.out (fewC_short H1.out) (by omega) la H2).mono ?_
  rintro e w2 ⟨rfl, b2⟩
  replace V := Lib.hid (V.out.later b2)
  replace A := Lib.hid (A.out.later b2)
  replace C := Lib.hid (C.out.later b2)
  replace HB := Lib.hid (below2Z HB.out b2)
  clear b2
  have S1 : Hid (Chgs (w2.alloc (.cells #[.string ⟨c.toArray⟩, .bool on, .int .i64 a, .int .i64 b, .int .i64 d, .string ⟨st.toArray⟩] 33)) (.slice (some ⟨w2.heap.size, 0, none⟩) 1 1) [⟨c, on, ⟨a, b, d, st⟩⟩]) := Lib.hid (chgs_of (rdS_made chgOK (l := [⟨c, on, ⟨a, b, d, st⟩⟩]) rfl (by simp) rfl))
  obtain ⟨r0, r1, r2, r3, r4, r5⟩ := sixAt C.out
  go_wp2_with fail
  have b3 := bl_newZ w2 (.cells #[.string ⟨c.toArray⟩, .bool on, .int .i64 a, .int .i64 b, .int .i64 d, .string ⟨st.toArray⟩] 33)
  replace V := Lib.hid (V.out.later b3)
  replace A := Lib.hid (A.out.later b3)
  replace C := Lib.hid (C.out.later b3)
  replace HB := Lib.hid (below2Z HB.out b3)
  clear b3
  clear r0 r1 r2 r3 r4 r5
  refine (fewc_any S1.out 1 H3).mono ?_
  rintro e w4 ⟨rfl, b4⟩
  replace V := Lib.hid (V.out.later b4)
  replace A := Lib.hid (A.out.later b4)
  replace C := Lib.hid (C.out.later b4)
  replace HB := Lib.hid (below2Z HB.out b4)
  clear b4
  clear S1
  go_wp2_with fail
  refine (live17 _).mono ?_
  rintro e w5 ⟨rfl, b5⟩
  replace V := Lib.hid (V.out.later b5)
  replace A := Lib.hid (A.out.later b5)
  replace C := Lib.hid (C.out.later b5)
  replace HB := Lib.hid (below2Z HB.out b5)
  clear b5
  go_wp2_with fail
  go_ret
  exact ⟨rfl, HB.out⟩

set_option maxHeartbeats 6400000 in
set_option maxRecDepth 100000 in
theorem qmy_6 {w : World} {v : Value} {l : List Chg} (hv : Chgs w v l) (la : Bool) (c st : List UInt8) (on : Bool) (a b d : Int) (room : Int) (h1 : 1 ≤ room) (h2 : room ≤ 16) (hs : fewC l 30 = true) (hm : quMay ⟨l, la⟩ room = true) (hc : fewC [⟨c, on, ⟨a, b, d, st⟩⟩] 1 = true) (ho : quOne ⟨c, on, ⟨a, b, d, st⟩⟩ = false) :
    Calls Try.prog 5 #[.agg #[v, .bool la], .agg #[.string ⟨c.toArray⟩, .bool on, .int .i64 a, .int .i64 b, .int .i64 d, .string ⟨st.toArray⟩], .int .i64 room] w fun e w' => e = .returned (.bool true) ∧ Below w.heap.size w w' := by
  obtain ⟨ao, cap, rfl, _hmx⟩ := hv.open'
  have b0 := bl_newZ w (.cells #[.slice ao l.length cap, .bool la] 24)
  have b00 := bl_newZ (w.alloc (.cells #[.slice ao l.length cap, .bool la] 24)) (.cells #[.string ⟨c.toArray⟩, .bool on, .int .i64 a, .int .i64 b, .int .i64 d, .string ⟨st.toArray⟩] 33)
  have HB := Lib.hid (below2Z b0 b00)
  have V := Lib.hid ((hv.later b0).later b00)
  have A := Lib.hid ((cellsAt_made (w := w) (cs := #[.slice ao l.length cap, .bool la]) (vs := [.slice ao l.length cap, .bool la]) rfl 24 rfl).later b00)
  have C := Lib.hid (cellsAt_made (w := w.alloc (.cells #[.slice ao l.length cap, .bool la] 24)) (cs := #[.string ⟨c.toArray⟩, .bool on, .int .i64 a, .int .i64 b, .int .i64 d, .string ⟨st.toArray⟩]) (vs := [.string ⟨c.toArray⟩, .bool on, .int .i64 a, .int .i64 b, .int .i64 d, .string ⟨st.toArray⟩]) rfl 33 (B := w.heap.size + 1) (by simp))
  clear b0 b00 hv
  have u1 : decide (room < 1) = false := decide_eq_false (by omega)
  have u2 : decide (16 < room) = false := decide_eq_false (by omega)
  have H1 := Lib.hid hs
  have H2 := Lib.hid hm
  have H3 := Lib.hid hc
  have H4 := Lib.hid ho
  have hl30 := (fewC_get hs).1
  have HC := Lib.hid (fewC_one hc)
  clear hs hm hc ho
  clear h1 h2
  obtain ⟨q0, q1⟩ := twoAt A.out
  go_enter Try.func5, Try.ntmps5
  go_wp2_with fail
  clear q0 q1
  refine (fewq_any V.out la H1).mono ?_
  rintro e w1 ⟨rfl, b1⟩
  replace V := Lib.hid (V.out.later b1)
  replace A := Lib.hid (A.out.later b1)
  replace C := Lib.hid (C.out.later b1)
  replace HB := Lib.hid (below2Z HB.out b1)
  clear b1
  obtain ⟨q0, q1⟩ := twoAt A.out
  go_wp2_with fail
  clear q0 q1
  refine (rqumay_any V.out (fewC_short H1.out) (by omega) la H2).mono ?_
  rintro e w2 ⟨rfl, b2⟩
  replace V := Lib.hid (V.out.later b2)
  replace A := Lib.hid (A.out.later b2)
  replace C := Lib.hid (C.out.later b2)
  replace HB := Lib.hid (below2Z HB.out b2)
  clear b2
  have S1 : Hid (Chgs (w2.alloc (.cells #[.string ⟨c.toArray⟩, .bool on, .int .i64 a, .int .i64 b, .int .i64 d, .string ⟨st.toArray⟩] 33)) (.slice (some ⟨w2.heap.size, 0, none⟩) 1 1) [⟨c, on, ⟨a, b, d, st⟩⟩]) := Lib.hid (chgs_of (rdS_made chgOK (l := [⟨c, on, ⟨a, b, d, st⟩⟩]) rfl (by simp) rfl))
  obtain ⟨r0, r1, r2, r3, r4, r5⟩ := sixAt C.out
  go_wp2_with fail
  have b3 := bl_newZ w2 (.cells #[.string ⟨c.toArray⟩, .bool on, .int .i64 a, .int .i64 b, .int .i64 d, .string ⟨st.toArray⟩] 33)
  replace V := Lib.hid (V.out.later b3)
  replace A := Lib.hid (A.out.later b3)
  replace C := Lib.hid (C.out.later b3)
  replace HB := Lib.hid (below2Z HB.out b3)
  clear b3
  clear r0 r1 r2 r3 r4 r5
  refine (fewc_any S1.out 1 H3).mono ?_
  rintro e w4 ⟨rfl, b4⟩
  replace V := Lib.hid (V.out.later b4)
  replace A := Lib.hid (A.out.later b4)
  replace C := Lib.hid (C.out.later b4)
  replace HB := Lib.hid (below2Z HB.out b4)
  clear b4
  clear S1
  obtain ⟨r0, r1, r2, r3, r4, r5⟩ := sixAt C.out
  go_wp2_with fail
  clear r0 r1 r2 r3 r4 r5
  refine (rquone_any c st on a b d (HC.out.1) (HC.out.2) H4 _).mono ?_
  rintro e w5 ⟨rfl, b5⟩
  replace V := Lib.hid (V.out.later b5)
  replace A := Lib.hid (A.out.later b5)
  replace C := Lib.hid (C.out.later b5)
  replace HB := Lib.hid (below2Z HB.out b5)
  clear b5
  go_wp2_with fail
  refine (live17 _).mono ?_
  rintro e w6 ⟨rfl, b6⟩
  replace V := Lib.hid (V.out.later b6)
  replace A := Lib.hid (A.out.later b6)
  replace C := Lib.hid (C.out.later b6)
  replace HB := Lib.hid (below2Z HB.out b6)
  clear b6
  go_wp2_with fail
  go_ret
  exact ⟨rfl, HB.out⟩

set_option maxHeartbeats 6400000 in
set_option maxRecDepth 100000 in
theorem qmy_7a {w : World} {v : Value} {l : List Chg} (hv : Chgs w v l) (c st : List UInt8) (on : Bool) (a b d : Int) (room : Int) (h1 : 1 ≤ room) (h2 : room ≤ 16) (hs : fewC l 30 = true) (hm : quMay ⟨l, true⟩ room = true) (hc : fewC [⟨c, on, ⟨a, b, d, st⟩⟩] 1 = true) (ho : quOne ⟨c, on, ⟨a, b, d, st⟩⟩ = true) :
    Calls Try.prog 5 #[.agg #[v, .bool true], .agg #[.string ⟨c.toArray⟩, .bool on, .int .i64 a, .int .i64 b, .int .i64 d, .string ⟨st.toArray⟩], .int .i64 room] w fun e w' => e = .returned (.bool true) ∧ Below w.heap.size w w' := by
  have HN : Hid (quMay ⟨[], true⟩ room = true) := Lib.hid (qumay_nil (by omega))
  obtain ⟨⟨⟨fc, fo, ⟨fa, fb, fd, fs⟩⟩, fk⟩, hf⟩ : ∃ p, quFind ⟨l, true⟩ c = p := ⟨_, rfl⟩
  have HF := Lib.hid hf
  clear hf
  obtain ⟨ao, cap, rfl, _hmx⟩ := hv.open'
  have b0 := bl_newZ w (.cells #[.slice ao l.length cap, .bool true] 24)
  have b00 := bl_newZ (w.alloc (.cells #[.slice ao l.length cap, .bool true] 24)) (.cells #[.string ⟨c.toArray⟩, .bool on, .int .i64 a, .int .i64 b, .int .i64 d, .string ⟨st.toArray⟩] 33)
  have HB := Lib.hid (below2Z b0 b00)
  have V := Lib.hid ((hv.later b0).later b00)
  have A := Lib.hid ((cellsAt_made (w := w) (cs := #[.slice ao l.length cap, .bool true]) (vs := [.slice ao l.length cap, .bool true]) rfl 24 rfl).later b00)
  have C := Lib.hid (cellsAt_made (w := w.alloc (.cells #[.slice ao l.length cap, .bool true] 24)) (cs := #[.string ⟨c.toArray⟩, .bool on, .int .i64 a, .int .i64 b, .int .i64 d, .string ⟨st.toArray⟩]) (vs := [.string ⟨c.toArray⟩, .bool on, .int .i64 a, .int .i64 b, .int .i64 d, .string ⟨st.toArray⟩]) rfl 33 (B := w.heap.size + 1) (by simp))
  clear b0 b00 hv
  have u1 : decide (room < 1) = false := decide_eq_false (by omega)
  have u2 : decide (16 < room) = false := decide_eq_false (by omega)
  have HQ : Hid (quPush ⟨l, true⟩ ⟨c, on, ⟨a, b, d, st⟩⟩ room = ⟨[], true⟩) := Lib.hid (by have hl0 : l = [] := (quMay_iff.1 hm).2.1 rfl; subst hl0; unfold quPush; rw [if_pos rfl])
  have H1 := Lib.hid hs
  have H2 := Lib.hid hm
  have H3 := Lib.hid hc
  have H4 := Lib.hid ho
  have hl30 := (fewC_get hs).1
  have HC := Lib.hid (fewC_one hc)
  clear hs hm hc ho
  clear h1 h2
  obtain ⟨q0, q1⟩ := twoAt A.out
  go_enter Try.func5, Try.ntmps5
  go_wp2_with fail
  clear q0 q1
  refine (fewq_any V.out true H1).mono ?_
  rintro e w1 ⟨rfl, b1⟩
  replace V := Lib.hid (V.out.later b1)
  replace A := Lib.hid (A.out.later b1)
  replace C := Lib.hid (C.out.later b1)
  replace HB := Lib.hid (below2Z HB.out b1)
  clear b1
  obtain ⟨q0, q1⟩ := twoAt A.out
  go_wp2_with fail
  clear q0 q1
  refine (rqumay_any V.out (fewC_short H1.out) (by omega) true H2).mono ?_
  rintro e w2 ⟨rfl, b2⟩
  replace V := Lib.hid (V.out.later b2)
  replace A := Lib.hid (A.out.later b2)
  replace C := Lib.hid (C.out.later b2)
  replace HB := Lib.hid (below2Z HB.out b2)
  clear b2
  have S1 : Hid (Chgs (w2.alloc (.cells #[.string ⟨c.toArray⟩, .bool on, .int .i64 a, .int .i64 b, .int .i64 d, .string ⟨st.toArray⟩] 33)) (.slice (some ⟨w2.heap.size, 0, none⟩) 1 1) [⟨c, on, ⟨a, b, d, st⟩⟩]) := Lib.hid (chgs_of (rdS_made chgOK (l := [⟨c, on, ⟨a, b, d, st⟩⟩]) rfl (by simp) rfl))
  obtain ⟨r0, r1, r2, r3, r4, r5⟩ := sixAt C.out
  go_wp2_with fail
  have b3 := bl_newZ w2 (.cells #[.string ⟨c.toArray⟩, .bool on, .int .i64 a, .int .i64 b, .int .i64 d, .string ⟨st.toArray⟩] 33)
  replace V := Lib.hid (V.out.later b3)
  replace A := Lib.hid (A.out.later b3)
  replace C := Lib.hid (C.out.later b3)
  replace HB := Lib.hid (below2Z HB.out b3)
  clear b3
  clear r0 r1 r2 r3 r4 r5
  refine (fewc_any S1.out 1 H3).mono ?_
  rintro e w4 ⟨rfl, b4⟩
  replace V := Lib.hid (V.out.later b4)
  replace A := Lib.hid (A.out.later b4)
  replace C := Lib.hid (C.out.later b4)
  replace HB := Lib.hid (below2Z HB.out b4)
  clear b4
  clear S1
  obtain ⟨r0, r1, r2, r3, r4, r5⟩ := sixAt C.out
  go_wp2_with fail
  clear r0 r1 r2 r3 r4 r5
  refine (rquone_any c st on a b d (HC.out.1) (HC.out.2) H4 _).mono ?_
  rintro e w5 ⟨rfl, b5⟩
  replace V := Lib.hid (V.out.later b5)
  replace A := Lib.hid (A.out.later b5)
  replace C := Lib.hid (C.out.later b5)
  replace HB := Lib.hid (below2Z HB.out b5)
  clear b5
  obtain ⟨q0, q1⟩ := twoAt A.out
  obtain ⟨r0, r1, r2, r3, r4, r5⟩ := sixAt C.out
  go_wp2_with fail
  clear q0 q1 r0 r1 r2 r3 r4 r5
  refine (qupush_any V.out (by omega) true c st on a b d room HQ).mono ?_
  rintro e w6 ⟨u, rfl, hu, b6⟩
  replace V := Lib.hid (V.out.later b6)
  replace A := Lib.hid (A.out.later b6)
  replace C := Lib.hid (C.out.later b6)
  replace HB := Lib.hid (below2Z HB.out b6)
  obtain ⟨au, cu, rfl, -⟩ := hu.open'
  have U := Lib.hid hu
  clear hu
  clear b6
  obtain ⟨np, hnp⟩ : ∃ n, ([] : List Chg).length = n := ⟨_, rfl⟩
  rw [hnp] at U ⊢
  have NP := Lib.hid hnp
  clear hnp
  obtain rfl : 0 = np := NP.out
  have b7 := bl_newZ w6 (.cells #[.slice au 0 cu, .bool true] 24)
  have P := Lib.hid (cellsAt_made (w := w6) (cs := #[.slice au 0 cu, .bool true]) (vs := [.slice au 0 cu, .bool true]) rfl 24 rfl)
  replace V := Lib.hid (V.out.later b7)
  replace A := Lib.hid (A.out.later b7)
  replace C := Lib.hid (C.out.later b7)
  replace U := Lib.hid (U.out.later b7)
  replace HB := Lib.hid (below2Z HB.out b7)
  clear b7
  obtain ⟨p0, p1⟩ := twoAt P.out
  go_wp2_with fail
  generalize w6.alloc (.cells #[.slice au 0 cu, .bool true] 24) = WP at V A C U P HB ⊢
  generalize w6.heap.size = BP at P ⊢
  clear p0 p1
  refine (qumay_any (l := []) U.out (fun c hc => by cases hc) (by simp) true HN).mono ?_
  rintro e w8 ⟨rfl, b8⟩
  replace V := Lib.hid (V.out.later b8)
  replace A := Lib.hid (A.out.later b8)
  replace C := Lib.hid (C.out.later b8)
  replace U := Lib.hid (U.out.later b8)
  replace P := Lib.hid (P.out.later b8)
  replace HB := Lib.hid (below2Z HB.out b8)
  clear b8
  obtain ⟨p0, p1⟩ := twoAt P.out
  obtain ⟨q0, q1⟩ := twoAt A.out
  obtain ⟨r0, r1, r2, r3, r4, r5⟩ := sixAt C.out
  go_wp2_with fail
  clear p0 p1 q0 q1 r0 r1 r2 r3 r4 r5
  refine (qufind_any V.out true c HF).mono ?_
  rintro e w9 ⟨rfl, b9⟩
  replace V := Lib.hid (V.out.later b9)
  replace A := Lib.hid (A.out.later b9)
  replace C := Lib.hid (C.out.later b9)
  replace U := Lib.hid (U.out.later b9)
  replace P := Lib.hid (P.out.later b9)
  replace HB := Lib.hid (below2Z HB.out b9)
  clear b9
  have b10 := bl_newZ w9 (.cells #[.string ⟨fc.toArray⟩, .bool fo, .int .i64 fa, .int .i64 fb, .int .i64 fd, .string ⟨fs.toArray⟩] 33)
  replace V := Lib.hid (V.out.later b10)
  replace A := Lib.hid (A.out.later b10)
  replace C := Lib.hid (C.out.later b10)
  replace U := Lib.hid (U.out.later b10)
  replace P := Lib.hid (P.out.later b10)
  replace HB := Lib.hid (below2Z HB.out b10)
  clear b10
  obtain ⟨p0, p1⟩ := twoAt P.out
  obtain ⟨q0, q1⟩ := twoAt A.out
  go_wp2_with fail
  clear p0 p1 q0 q1
  refine (live17 _).mono ?_
  rintro e w11 ⟨rfl, b11⟩
  replace V := Lib.hid (V.out.later b11)
  replace A := Lib.hid (A.out.later b11)
  replace C := Lib.hid (C.out.later b11)
  replace U := Lib.hid (U.out.later b11)
  replace P := Lib.hid (P.out.later b11)
  replace HB := Lib.hid (below2Z HB.out b11)
  clear b11
  go_wp2_with fail
  go_ret
  exact ⟨rfl, HB.out⟩

set_option maxHeartbeats 6400000 in
set_option maxRecDepth 100000 in
theorem qmy_7b {w : World} {v : Value} {l : List Chg} (hv : Chgs w v l) (c st : List UInt8) (on : Bool) (a b d : Int) (room : Int) (h1 : 1 ≤ room) (h2 : room ≤ 16) (hs : fewC l 30 = true) (hm : quMay ⟨l, false⟩ room = true) (hc : fewC [⟨c, on, ⟨a, b, d, st⟩⟩] 1 = true) (ho : quOne ⟨c, on, ⟨a, b, d, st⟩⟩ = true) (hp : quPush ⟨l, false⟩ ⟨c, on, ⟨a, b, d, st⟩⟩ room = ⟨[], true⟩) :
    Calls Try.prog 5 #[.agg #[v, .bool false], .agg #[.string ⟨c.toArray⟩, .bool on, .int .i64 a, .int .i64 b, .int .i64 d, .string ⟨st.toArray⟩], .int .i64 room] w fun e w' => e = .returned (.bool true) ∧ Below w.heap.size w w' := by
  have HN : Hid (quMay ⟨[], true⟩ room = true) := Lib.hid (qumay_nil (by omega))
  obtain ⟨ao, cap, rfl, _hmx⟩ := hv.open'
  have b0 := bl_newZ w (.cells #[.slice ao l.length cap, .bool false] 24)
  have b00 := bl_newZ (w.alloc (.cells #[.slice ao l.length cap, .bool false] 24)) (.cells #[.string ⟨c.toArray⟩, .bool on, .int .i64 a, .int .i64 b, .int .i64 d, .string ⟨st.toArray⟩] 33)
  have HB := Lib.hid (below2Z b0 b00)
  have V := Lib.hid ((hv.later b0).later b00)
  have A := Lib.hid ((cellsAt_made (w := w) (cs := #[.slice ao l.length cap, .bool false]) (vs := [.slice ao l.length cap, .bool false]) rfl 24 rfl).later b00)
  have C := Lib.hid (cellsAt_made (w := w.alloc (.cells #[.slice ao l.length cap, .bool false] 24)) (cs := #[.string ⟨c.toArray⟩, .bool on, .int .i64 a, .int .i64 b, .int .i64 d, .string ⟨st.toArray⟩]) (vs := [.string ⟨c.toArray⟩, .bool on, .int .i64 a, .int .i64 b, .int .i64 d, .string ⟨st.toArray⟩]) rfl 33 (B := w.heap.size + 1) (by simp))
  clear b0 b00 hv
  have u1 : decide (room < 1) = false := decide_eq_false (by omega)
  have u2 : decide (16 < room) = false := decide_eq_false (by omega)
  have HQ : Hid (quPush ⟨l, false⟩ ⟨c, on, ⟨a, b, d, st⟩⟩ room = ⟨[], true⟩) := Lib.hid hp
  have hway : quHas l c = false ∧ (l.length : Int) = room := push_full hm hp
  have HH := Lib.hid hway.1
  have u5 : ((l.length : Int) == room) = true := by rw [beq_iff_eq]; exact hway.2
  clear hp hway
  have H1 := Lib.hid hs
  have H2 := Lib.hid hm
  have H3 := Lib.hid hc
  have H4 := Lib.hid ho
  have hl30 := (fewC_get hs).1
  have HC := Lib.hid (fewC_one hc)
  clear hs hm hc ho
  clear h1 h2
  obtain ⟨q0, q1⟩ := twoAt A.out
  go_enter Try.func5, Try.ntmps5
  go_wp2_with fail
  clear q0 q1
  refine (fewq_any V.out false H1).mono ?_
  rintro e w1 ⟨rfl, b1⟩
  replace V := Lib.hid (V.out.later b1)
  replace A := Lib.hid (A.out.later b1)
  replace C := Lib.hid (C.out.later b1)
  replace HB := Lib.hid (below2Z HB.out b1)
  clear b1
  obtain ⟨q0, q1⟩ := twoAt A.out
  go_wp2_with fail
  clear q0 q1
  refine (rqumay_any V.out (fewC_short H1.out) (by omega) false H2).mono ?_
  rintro e w2 ⟨rfl, b2⟩
  replace V := Lib.hid (V.out.later b2)
  replace A := Lib.hid (A.out.later b2)
  replace C := Lib.hid (C.out.later b2)
  replace HB := Lib.hid (below2Z HB.out b2)
  clear b2
  have S1 : Hid (Chgs (w2.alloc (.cells #[.string ⟨c.toArray⟩, .bool on, .int .i64 a, .int .i64 b, .int .i64 d, .string ⟨st.toArray⟩] 33)) (.slice (some ⟨w2.heap.size, 0, none⟩) 1 1) [⟨c, on, ⟨a, b, d, st⟩⟩]) := Lib.hid (chgs_of (rdS_made chgOK (l := [⟨c, on, ⟨a, b, d, st⟩⟩]) rfl (by simp) rfl))
  obtain ⟨r0, r1, r2, r3, r4, r5⟩ := sixAt C.out
  go_wp2_with fail
  have b3 := bl_newZ w2 (.cells #[.string ⟨c.toArray⟩, .bool on, .int .i64 a, .int .i64 b, .int .i64 d, .string ⟨st.toArray⟩] 33)
  replace V := Lib.hid (V.out.later b3)
  replace A := Lib.hid (A.out.later b3)
  replace C := Lib.hid (C.out.later b3)
  replace HB := Lib.hid (below2Z HB.out b3)
  clear b3
  clear r0 r1 r2 r3 r4 r5
  refine (fewc_any S1.out 1 H3).mono ?_
  rintro e w4 ⟨rfl, b4⟩
  replace V := Lib.hid (V.out.later b4)
  replace A := Lib.hid (A.out.later b4)
  replace C := Lib.hid (C.out.later b4)
  replace HB := Lib.hid (below2Z HB.out b4)
  clear b4
  clear S1
  obtain ⟨r0, r1, r2, r3, r4, r5⟩ := sixAt C.out
  go_wp2_with fail
  clear r0 r1 r2 r3 r4 r5
  refine (rquone_any c st on a b d (HC.out.1) (HC.out.2) H4 _).mono ?_
  rintro e w5 ⟨rfl, b5⟩
  replace V := Lib.hid (V.out.later b5)
  replace A := Lib.hid (A.out.later b5)
  replace C := Lib.hid (C.out.later b5)
  replace HB := Lib.hid (below2Z HB.out b5)
  clear b5
  obtain ⟨q0, q1⟩ := twoAt A.out
  obtain ⟨r0, r1, r2, r3, r4, r5⟩ := sixAt C.out
  go_wp2_with fail
  clear q0 q1 r0 r1 r2 r3 r4 r5
  refine (qupush_any V.out (by omega) false c st on a b d room HQ).mono ?_
  rintro e w6 ⟨u, rfl, hu, b6⟩
  replace V := Lib.hid (V.out.later b6)
  replace A := Lib.hid (A.out.later b6)
  replace C := Lib.hid (C.out.later b6)
  replace HB := Lib.hid (below2Z HB.out b6)
  obtain ⟨au, cu, rfl, -⟩ := hu.open'
  have U := Lib.hid hu
  clear hu
  clear b6
  obtain ⟨np, hnp⟩ : ∃ n, ([] : List Chg).length = n := ⟨_, rfl⟩
  rw [hnp] at U ⊢
  have NP := Lib.hid hnp
  clear hnp
  obtain rfl : 0 = np := NP.out
  have b7 := bl_newZ w6 (.cells #[.slice au 0 cu, .bool true] 24)
  have P := Lib.hid (cellsAt_made (w := w6) (cs := #[.slice au 0 cu, .bool true]) (vs := [.slice au 0 cu, .bool true]) rfl 24 rfl)
  replace V := Lib.hid (V.out.later b7)
  replace A := Lib.hid (A.out.later b7)
  replace C := Lib.hid (C.out.later b7)
  replace U := Lib.hid (U.out.later b7)
  replace HB := Lib.hid (below2Z HB.out b7)
  clear b7
  obtain ⟨p0, p1⟩ := twoAt P.out
  go_wp2_with fail
  generalize w6.alloc (.cells #[.slice au 0 cu, .bool true] 24) = WP at V A C U P HB ⊢
  generalize w6.heap.size = BP at P ⊢
  clear p0 p1
  refine (qumay_any (l := []) U.out (fun c hc => by cases hc) (by simp) true HN).mono ?_
  rintro e w8 ⟨rfl, b8⟩
  replace V := Lib.hid (V.out.later b8)
  replace A := Lib.hid (A.out.later b8)
  replace C := Lib.hid (C.out.later b8)
  replace U := Lib.hid (U.out.later b8)
  replace P := Lib.hid (P.out.later b8)
  replace HB := Lib.hid (below2Z HB.out b8)
  clear b8
  obtain ⟨p0, p1⟩ := twoAt P.out
  obtain ⟨q0, q1⟩ := twoAt A.out
  obtain ⟨r0, r1, r2, r3, r4, r5⟩ := sixAt C.out
  go_wp2_with fail
  clear p0 p1 q0 q1 r0 r1 r2 r3 r4 r5
  refine (qufind_no V.out false c HH.out).mono ?_
  rintro e w9 ⟨rfl, b9⟩
  replace V := Lib.hid (V.out.later b9)
  replace A := Lib.hid (A.out.later b9)
  replace C := Lib.hid (C.out.later b9)
  replace U := Lib.hid (U.out.later b9)
  replace P := Lib.hid (P.out.later b9)
  replace HB := Lib.hid (below2Z HB.out b9)
  clear b9
  have b10 := bl_newZ w9 (.cells #[.string ⟨#[]⟩, .bool false, .int .i64 0, .int .i64 0, .int .i64 0, .string ⟨#[]⟩] 33)
  replace V := Lib.hid (V.out.later b10)
  replace A := Lib.hid (A.out.later b10)
  replace C := Lib.hid (C.out.later b10)
  replace U := Lib.hid (U.out.later b10)
  replace P := Lib.hid (P.out.later b10)
  replace HB := Lib.hid (below2Z HB.out b10)
  clear b10
  obtain ⟨p0, p1⟩ := twoAt P.out
  obtain ⟨q0, q1⟩ := twoAt A.out
  go_wp2_with fail
  clear p0 p1 q0 q1
  refine (live17 _).mono ?_
  rintro e w11 ⟨rfl, b11⟩
  replace V := Lib.hid (V.out.later b11)
  replace A := Lib.hid (A.out.later b11)
  replace C := Lib.hid (C.out.later b11)
  replace U := Lib.hid (U.out.later b11)
  replace P := Lib.hid (P.out.later b11)
  replace HB := Lib.hid (below2Z HB.out b11)
  clear b11
  go_wp2_with fail
  go_ret
  exact ⟨rfl, HB.out⟩

set_option maxHeartbeats 6400000 in
set_option maxRecDepth 100000 in
theorem qmy_8 {w : World} {v : Value} {l : List Chg} (hv : Chgs w v l) (la : Bool) (c st : List UInt8) (on : Bool) (a b d : Int) (room : Int) (h1 : 1 ≤ room) (h2 : room ≤ 16) (hs : fewC l 30 = true) (hm : quMay ⟨l, la⟩ room = true) (hc : fewC [⟨c, on, ⟨a, b, d, st⟩⟩] 1 = true) (ho : quOne ⟨c, on, ⟨a, b, d, st⟩⟩ = true) (hp : (quPush ⟨l, la⟩ ⟨c, on, ⟨a, b, d, st⟩⟩ room).la = false) :
    Calls Try.prog 5 #[.agg #[v, .bool la], .agg #[.string ⟨c.toArray⟩, .bool on, .int .i64 a, .int .i64 b, .int .i64 d, .string ⟨st.toArray⟩], .int .i64 room] w fun e w' => e = .returned (.bool true) ∧ Below w.heap.size w w' := by
  obtain ⟨ao, cap, rfl, _hmx⟩ := hv.open'
  have u1 : decide (room < 1) = false := decide_eq_false (by omega)
  have u2 : decide (16 < room) = false := decide_eq_false (by omega)
  obtain ⟨⟨pl, pa⟩, hq⟩ : ∃ q, quPush ⟨l, la⟩ ⟨c, on, ⟨a, b, d, st⟩⟩ room = q := ⟨_, rfl⟩
  obtain rfl : pa = false := by rw [hq] at hp; exact hp
  have hth := quPush_there hp
  rw [hq] at hth
  obtain ⟨hla, _, hfd, hle1, hle2, hall⟩ := hth
  simp only at hla hfd hle1 hle2 hall
  subst hla
  have HLE := Lib.hid (And.intro hle1 hle2)
  clear hle1 hle2
  have HQ := Lib.hid hq
  have HF := Lib.hid hfd
  have HALL := Lib.hid hall
  have HN : Hid (quMay ⟨pl, false⟩ room = true) := Lib.hid (by have := quPush_may hm ho; rw [hq] at this; exact this)
  have HS := Lib.hid (fewC_short hs)
  have HSP : Hid (ShortC pl) := Lib.hid (fun y hy => by have hy2 : y ∈ (quPush ⟨l, false⟩ ⟨c, on, ⟨a, b, d, st⟩⟩ room).l := by { rw [hq]; exact hy }; rcases quPush_mem hy2 with e | h; { rw [e]; exact fewC_one hc }; { exact fewC_short hs y h })
  clear hp hq hfd hall
  have H1 := Lib.hid hs
  have H2 := Lib.hid hm
  have H3 := Lib.hid hc
  have H4 := Lib.hid ho
  have hl30 := (fewC_get hs).1
  have HC := Lib.hid (fewC_one hc)
  clear hs hm hc ho
  clear h1 h2
  have b0 := bl_newZ w (.cells #[.slice ao l.length cap, .bool false] 24)
  have b00 := bl_newZ (w.alloc (.cells #[.slice ao l.length cap, .bool false] 24)) (.cells #[.string ⟨c.toArray⟩, .bool on, .int .i64 a, .int .i64 b, .int .i64 d, .string ⟨st.toArray⟩] 33)
  have HB := Lib.hid (below2Z b0 b00)
  have V := Lib.hid ((hv.later b0).later b00)
  have A := Lib.hid ((cellsAt_made (w := w) (cs := #[.slice ao l.length cap, .bool false]) (vs := [.slice ao l.length cap, .bool false]) rfl 24 rfl).later b00)
  have C := Lib.hid (cellsAt_made (w := w.alloc (.cells #[.slice ao l.length cap, .bool false] 24)) (cs := #[.string ⟨c.toArray⟩, .bool on, .int .i64 a, .int .i64 b, .int .i64 d, .string ⟨st.toArray⟩]) (vs := [.string ⟨c.toArray⟩, .bool on, .int .i64 a, .int .i64 b, .int .i64 d, .string ⟨st.toArray⟩]) rfl 33 (B := w.heap.size + 1) (by simp))
  clear b0 b00 hv
  obtain ⟨q0, q1⟩ := twoAt A.out
  go_enter Try.func5, Try.ntmps5
  go_wp2_with fail
  clear q0 q1
  refine (fewq_any V.out false H1).mono ?_
  rintro e w1 ⟨rfl, b1⟩
  replace V := Lib.hid (V.out.later b1)
  replace A := Lib.hid (A.out.later b1)
  replace C := Lib.hid (C.out.later b1)
  replace HB := Lib.hid (below2Z HB.out b1)
  clear b1
  obtain ⟨q0, q1⟩ := twoAt A.out
  go_wp2_with fail
  clear q0 q1
  refine (rqumay_any V.out (fewC_short H1.out) (by omega) false H2).mono ?_
  rintro e w2 ⟨rfl, b2⟩
  replace V := Lib.hid (V.out.later b2)
  replace A := Lib.hid (A.out.later b2)
  replace C := Lib.hid (C.out.later b2)
  replace HB := Lib.hid (below2Z HB.out b2)
  clear b2
  have S1 : Hid (Chgs (w2.alloc (.cells #[.string ⟨c.toArray⟩, .bool on, .int .i64 a, .int .i64 b, .int .i64 d, .string ⟨st.toArray⟩] 33)) (.slice (some ⟨w2.heap.size, 0, none⟩) 1 1) [⟨c, on, ⟨a, b, d, st⟩⟩]) := Lib.hid (chgs_of (rdS_made chgOK (l := [⟨c, on, ⟨a, b, d, st⟩⟩]) rfl (by simp) rfl))
  obtain ⟨r0, r1, r2, r3, r4, r5⟩ := sixAt C.out
  go_wp2_with fail
  have b3 := bl_newZ w2 (.cells #[.string ⟨c.toArray⟩, .bool on, .int .i64 a, .int .i64 b, .int .i64 d, .string ⟨st.toArray⟩] 33)
  replace V := Lib.hid (V.out.later b3)
  replace A := Lib.hid (A.out.later b3)
  replace C := Lib.hid (C.out.later b3)
  replace HB := Lib.hid (below2Z HB.out b3)
  clear b3
  clear r0 r1 r2 r3 r4 r5
  refine (fewc_any S1.out 1 H3).mono ?_
  rintro e w4 ⟨rfl, b4⟩
  replace V := Lib.hid (V.out.later b4)
  replace A := Lib.hid (A.out.later b4)
  replace C := Lib.hid (C.out.later b4)
  replace HB := Lib.hid (below2Z HB.out b4)
  clear b4
  clear S1
  obtain ⟨r0, r1, r2, r3, r4, r5⟩ := sixAt C.out
  go_wp2_with fail
  clear r0 r1 r2 r3 r4 r5
  refine (rquone_any c st on a b d (HC.out.1) (HC.out.2) H4 _).mono ?_
  rintro e w5 ⟨rfl, b5⟩
  replace V := Lib.hid (V.out.later b5)
  replace A := Lib.hid (A.out.later b5)
  replace C := Lib.hid (C.out.later b5)
  replace HB := Lib.hid (below2Z HB.out b5)
  clear b5
  obtain ⟨q0, q1⟩ := twoAt A.out
  obtain ⟨r0, r1, r2, r3, r4, r5⟩ := sixAt C.out
  go_wp2_with fail
  clear q0 q1 r0 r1 r2 r3 r4 r5
  refine (qupush_any V.out (by omega) false c st on a b d room HQ).mono ?_
  rintro e w6 ⟨u, rfl, hu, b6⟩
  replace V := Lib.hid (V.out.later b6)
  replace A := Lib.hid (A.out.later b6)
  replace C := Lib.hid (C.out.later b6)
  replace HB := Lib.hid (below2Z HB.out b6)
  obtain ⟨au, cu, rfl, -⟩ := hu.open'
  have U := Lib.hid hu
  clear hu
  clear b6
  have b7 := bl_newZ w6 (.cells #[.slice au pl.length cu, .bool false] 24)
  have P := Lib.hid (cellsAt_made (w := w6) (cs := #[.slice au pl.length cu, .bool false]) (vs := [.slice au pl.length cu, .bool false]) rfl 24 rfl)
  replace V := Lib.hid (V.out.later b7)
  replace A := Lib.hid (A.out.later b7)
  replace C := Lib.hid (C.out.later b7)
  replace U := Lib.hid (U.out.later b7)
  replace HB := Lib.hid (below2Z HB.out b7)
  clear b7
  obtain ⟨p0, p1⟩ := twoAt P.out
  go_wp2_with fail
  generalize w6.alloc (.cells #[.slice au pl.length cu, .bool false] 24) = WP at V A C U P HB p0 p1 ⊢
  generalize w6.heap.size = BP at P p0 p1 ⊢
  clear p0 p1
  refine (qumay_any U.out HSP.out (by have := HLE.out; omega) false HN).mono ?_
  rintro e w8 ⟨rfl, b8⟩
  replace V := Lib.hid (V.out.later b8)
  replace A := Lib.hid (A.out.later b8)
  replace C := Lib.hid (C.out.later b8)
  replace U := Lib.hid (U.out.later b8)
  replace P := Lib.hid (P.out.later b8)
  replace HB := Lib.hid (below2Z HB.out b8)
  clear b8
  obtain ⟨p0, p1⟩ := twoAt P.out
  obtain ⟨r0, r1, r2, r3, r4, r5⟩ := sixAt C.out
  go_wp2_with fail
  clear p0 p1 r0 r1 r2 r3 r4 r5
  refine (qufind_any U.out false c HF).mono ?_
  rintro e w9 ⟨rfl, b9⟩
  replace V := Lib.hid (V.out.later b9)
  replace A := Lib.hid (A.out.later b9)
  replace C := Lib.hid (C.out.later b9)
  replace U := Lib.hid (U.out.later b9)
  replace P := Lib.hid (P.out.later b9)
  replace HB := Lib.hid (below2Z HB.out b9)
  clear b9
  have b10 := bl_newZ w9 (.cells #[.string ⟨c.toArray⟩, .bool on, .int .i64 a, .int .i64 b, .int .i64 d, .string ⟨st.toArray⟩] 33)
  have T := Lib.hid (cellsAt_made (w := w9) (cs := #[.string ⟨c.toArray⟩, .bool on, .int .i64 a, .int .i64 b, .int .i64 d, .string ⟨st.toArray⟩]) (vs := [.string ⟨c.toArray⟩, .bool on, .int .i64 a, .int .i64 b, .int .i64 d, .string ⟨st.toArray⟩]) rfl 33 rfl)
  replace V := Lib.hid (V.out.later b10)
  replace A := Lib.hid (A.out.later b10)
  replace C := Lib.hid (C.out.later b10)
  replace U := Lib.hid (U.out.later b10)
  replace P := Lib.hid (P.out.later b10)
  replace HB := Lib.hid (below2Z HB.out b10)
  clear b10
  obtain ⟨p0, p1⟩ := twoAt P.out
  obtain ⟨q0, q1⟩ := twoAt A.out
  obtain ⟨r0, r1, r2, r3, r4, r5⟩ := sixAt C.out
  obtain ⟨s0, s1, s2, s3, s4, s5⟩ := sixAt T.out
  have e1 := neq_self6 c on a b d st
  have hgd : Try.prog.eqGuardType Try.prog.depth 33 = false := by kernel_rfl
  obtain ⟨hle1, hle2⟩ := HLE.out
  have u5 : decide ((pl.length : Int) < (l.length : Int)) = false := decide_eq_false (by omega)
  have u6 : decide (pl.length < l.length) = false := decide_eq_false (by omega)
  have u7 : decide ((l.length : Int) + 1 < (pl.length : Int)) = false := decide_eq_false (by omega)
  have u8 : decide (l.length + 1 < pl.length) = false := decide_eq_false (by omega)
  clear hle1 hle2
  go_wp2_with fail
  generalize w9.alloc (.cells #[.string ⟨c.toArray⟩, .bool on, .int .i64 a, .int .i64 b, .int .i64 d, .string ⟨st.toArray⟩] 33) = W0 at V A C U P HB ⊢
  clear T e1 u5 u6 u7 u8 p0 p1 q0 q1 r0 r1 r2 r3 r4 r5 s0 s1 s2 s3 s4 s5
  have HBW := HB
  go_loopw [12] (fun i wr => ∃ k : Nat, k ≤ l.length ∧ i = .int .i64 k ∧ Hid (Below W0.heap.size W0 wr)) (fun i _ => l.length - (intOf i).toNat)
  case atStart => exact ⟨0, by omega, rfl, Below.refl _ _⟩
  case round =>
    obtain ⟨k, hk, rfl, HK⟩ := hrel
    have Vk := Lib.hid (V.out.later HK.out)
    have Ak := Lib.hid (A.out.later HK.out)
    have Ck := Lib.hid (C.out.later HK.out)
    have Uk := Lib.hid (U.out.later HK.out)
    have Pk := Lib.hid (P.out.later HK.out)
    have HBk := Lib.hid (below2Z HB.out HK.out)
    obtain ⟨q0, q1⟩ := twoAt Ak.out
    obtain ⟨p0, p1⟩ := twoAt Pk.out
    obtain ⟨r0, r1, r2, r3, r4, r5⟩ := sixAt Ck.out
    by_cases hlt : k < l.length
    · have hltp : k < pl.length := Nat.lt_of_lt_of_le hlt HLE.out.1
      obtain ⟨bo, oo, rfl, h0, h1, h2, h3, h4, h5⟩ := Vk.out.row (Below.refl _ _) k hlt
      obtain ⟨bp, op, rfl, i0, i1, i2, i3, i4, i5⟩ := Uk.out.row (Below.refl _ _) k hltp
      obtain ⟨hc1, hc2⟩ := HALL.out k hlt
      rw [← getD_nz, ← getD_nz] at hc1
      rw [← getD_nz, ← getD_nz] at hc2
      obtain ⟨⟨xc, xo, ⟨xa, xb, xd, xs⟩⟩, hx⟩ : ∃ r, l.getD k Chg.zero = r := ⟨_, rfl⟩
      obtain ⟨⟨yc, yo, ⟨ya, yb, yd, ys⟩⟩, hy⟩ : ∃ r, pl.getD k Chg.zero = r := ⟨_, rfl⟩
      rw [hx] at h0 h1 h2 h3 h4 h5 hc1 hc2
      rw [hy] at i0 i1 i2 i3 i4 i5 hc1 hc2
      simp only at h0 h1 h2 h3 h4 h5 i0 i1 i2 i3 i4 i5 hc1
      subst hc1
      have HK2 := Lib.hid HK.out.drew
      by_cases hcc : yc = c
      · clear hx hy hc2
        subst hcc
        go_wp2_with fail
        go_region
        go_wp2_with fail
        go_roundw
        case rel => exact ⟨k + 1, by omega, by go_num, HK2⟩
        case measure => simp [intOf]; omega
      · have t2 : (yc != c) = true := by rw [bne_iff_ne]; exact hcc
        have t3 : (yc == c) = false := by rw [beq_eq_false_iff_ne]; exact hcc
        have hyx := hc2 hcc
        simp only [Chg.mk.injEq, Val.mk.injEq, true_and] at hyx
        obtain ⟨rfl, rfl, rfl, rfl, rfl⟩ := hyx
        have e1 := neq_self6 yc yo ya yb yd ys
        clear hx hy hc2 hcc
        go_wp2_with fail
        go_region
        go_wp2_with fail
        go_roundw
        case rel => exact ⟨k + 1, by omega, by go_num, HK2⟩
        case measure => simp [intOf]; omega
    · obtain rfl : k = l.length := by omega
      go_wp2_with fail
      refine (live17 _).mono ?_
      rintro e w9 ⟨rfl, b9⟩
      go_wp2_with fail
      go_ret
      exact ⟨rfl, below2Z HBk.out b9⟩

theorem walkQueueMay {w : World} {v : Value} {q : Que} (hv : Chgs w v q.l) (c : Chg) (room : Int) (_ : (Lit.int .i64 room).wf = true) :
    Calls Try.prog 5 #[.agg #[v, .bool q.la], chgAgg c, .int .i64 room] w fun e w' => e = .returned (.bool true) ∧ Below w.heap.size w w' := by
  obtain ⟨l, la⟩ := q
  obtain ⟨c, on, ⟨a, b, d, st⟩⟩ := c
  by_cases h1 : room < 1
  · exact qmy_1 hv la c st on a b d room h1
  · replace h1 : 1 ≤ room := by omega
    by_cases h2 : 16 < room
    · exact qmy_2 hv la c st on a b d room h1 h2
    · replace h2 : room ≤ 16 := by omega
      cases hs : fewC l 30 with
      | false => exact qmy_3 hv la c st on a b d room h1 h2 hs
      | true =>
        cases hm : quMay ⟨l, la⟩ room with
        | false => exact qmy_4 hv la c st on a b d room h1 h2 hs hm
        | true =>
          cases hc : fewC [⟨c, on, ⟨a, b, d, st⟩⟩] 1 with
          | false => exact qmy_5 hv la c st on a b d room h1 h2 hs hm hc
          | true =>
            cases ho : quOne ⟨c, on, ⟨a, b, d, st⟩⟩ with
            | false => exact qmy_6 hv la c st on a b d room h1 h2 hs hm hc ho
            | true =>
              cases hp : (quPush ⟨l, la⟩ ⟨c, on, ⟨a, b, d, st⟩⟩ room).la with
              | false => exact qmy_8 hv la c st on a b d room h1 h2 hs hm hc ho hp
              | true =>
                cases la with
                | true => exact qmy_7a hv c st on a b d room h1 h2 hs hm hc ho
                | false => exact qmy_7b hv c st on a b d room h1 h2 hs hm hc ho (by rcases quPush_ways ⟨l, false⟩ ⟨c, on, ⟨a, b, d, st⟩⟩ room with ⟨hl, _⟩ | ⟨_, _, e⟩ | ⟨_, _, _, e⟩ | ⟨_, _, _, e⟩; { cases hl }; { rw [e] at hp; cases hp }; { rw [e] at hp; cases hp }; { exact e })

end Go.Proofs.Ythlkfbiclhgdoaa

end

section

/-
  THE FRAME OF THE PROOF OF QueueMay: for every input the law returns true, and each argument reads behind the call as it read before. No condition.
-/
namespace Go.Proofs.Ythlkfbiclhgdoaa.queueMay
open Go.ChangeShapes Go.WideShapes Go.ChangeAt Go.RowKit
open Go.ChangeMaps (open_string shut_string)
set_option linter.unusedVariables false

theorem own : ownKnob Try.prog.godebug = none := by kernel_rfl
theorem laidOut : laidOutB Try.prog = true := by kernel_rfl

set_option maxRecDepth 100000 in
theorem lifted (os : Os) (started : os.Started) (H : Type) (enc : TypeId × Value → H) :
    ReturnsInHanded {} Try.checked os 5 .any (Rows.queueMaySpec.pre6 enc Try.prog Try.f5 Rows.queueMayRow.domain false) (Rows.queueMaySpec.post enc Try.prog Try.f5 false true false false) := by
  refine returnsInHanded_of_change (C := Try.checked) own started (by kernel_rfl) Try.func5
    (ChangeSpec.witness6 (enc := enc) (C := Try.checked) false ⟨#[], #[.agg #[.slice none 0 0, .bool false], .agg #[.string ByteArray.empty, .bool false, .int .i64 0, .int .i64 0, .int .i64 0, .string ByteArray.empty], .int .i64 0], []⟩ 8 (by kernel_rfl) (by kernel_rfl) (by kernel_rfl) (by kernel_rfl)) ?_
  intro W base args ds gs before hval0 hW hcnd _
  have hval : ∀ (j : Nat) t v, Try.f5.params[j]? = some t → args[j]? = some v → Value.okWide Try.prog W .any base t v := hval0
  have hW' := hW
  obtain ⟨p, q, hA0, hV, rfl, hfz, hnd⟩ := hW
  have hA : DataW.TrodAll enc Try.prog W 0 (fun _ => true) true Try.f5.params.toList args.toList ds p := hA0
  rw [Try.params5] at hA hval
  obtain ⟨v0, vs0, d0, ds0, p0, q0, hargs, rfl, rfl, h0, r0⟩ := trodAll_cons hA
  obtain ⟨v1, vs1, d1, ds1, p1, q1, rfl, rfl, rfl, h1, r1⟩ := trodAll_cons r0
  obtain ⟨v2, vs2, d2, ds2, p2, q2, rfl, rfl, rfl, h2, r2⟩ := trodAll_cons r1
  obtain ⟨rfl, rfl, rfl⟩ := trodAll_nil r2
  obtain rfl : args = #[v0, v1, v2] := by cases args; simp_all
  obtain ⟨rfl, rfl⟩ := trodVars_none hV
  have k0 := h0
  have lt0 : ∀ x ∈ p0, x.block < W.heap.size := by obtain ⟨m, hm⟩ := k0; exact DataW.trod_lt m _ _ _ hm
  obtain ⟨x0, a0, rfl, w0⟩ := open_que (hval 0 24 v0 rfl rfl) h0
  have k1 := h1
  have lt1 : ∀ x ∈ p1, x.block < W.heap.size := by obtain ⟨m, hm⟩ := k1; exact DataW.trod_lt m _ _ _ hm
  obtain ⟨a1, rfl, _, _⟩ := open_chg (hval 1 33 v1 rfl rfl) h1
  have k2 := h2
  have lt2 : ∀ x ∈ p2, x.block < W.heap.size := by obtain ⟨m, hm⟩ := k2; exact DataW.trod_lt m _ _ _ hm
  obtain ⟨a2, rfl, hd2, hp2, w2⟩ := open_int Try.underlying3 (hval 2 3 v2 rfl rfl) h2
  clear hA0 hval0
  refine (walkQueueMay (w := W) w0 a1 a2 w2).mono fun e W' ⟨he, bel⟩ => ?_
  subst he
  exact ⟨_, rfl, _, _, _, [], _, [], hW', trodAll_mk1 (shut_bool Try.underlying4 _), (trodAll_cons_mk (Below.trod laidOut (by kernel_rfl) (of_decide_eq_true (by kernel_rfl)) k0 bel lt0) (trodAll_cons_mk (Below.trod laidOut (by kernel_rfl) (of_decide_eq_true (by kernel_rfl)) k1 bel lt1) (trodAll_cons_mk (Below.trod laidOut (by kernel_rfl) (of_decide_eq_true (by kernel_rfl)) k2 bel lt2) trodAll_mk0))), rfl, bel.frame _, fun h => by cases h⟩

theorem over : Rows.queueMayRow.holds Try.pinned (OpenSpec.ofChange Rows.queueMaySpec) :=
  OpenClaim.holds_of_wide 5 Try.f5 rfl rfl rfl rfl rfl rfl rfl ⟨rfl, rfl, rfl, rfl, rfl⟩ rfl rfl rfl rfl rfl (by kernel_rfl) Try.func5 (by kernel_rfl)
    (of_decide_eq_true (by kernel_rfl)) (by unfold Func.isWrapper; first | (rw [if_pos (by decide +kernel)]; kernel_rfl) | (rw [if_neg (by decide +kernel)]; exact ⟨rfl, rfl⟩))
    (fun os started H enc _ => lifted os started H enc)

/-- THE STATEMENT. -/
theorem proved : Rows.QueueMaySaid := over
#print axioms proved
end Go.Proofs.Ythlkfbiclhgdoaa.queueMay

end
