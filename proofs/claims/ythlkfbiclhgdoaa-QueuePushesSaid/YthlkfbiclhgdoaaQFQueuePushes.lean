/-
  THE PROOF OF QueuePushes: for every input the law returns true, and each argument reads behind the call as it read before. No condition.
-/
import Derived.Test.YthlkfbiclhgdoaaQ07
import Derived.Deep.DeepCutAuto
import Derived.Deep.CutBlock
import Derived.Test.YthlkfbiclhgdoaaQ05
import Derived.Test.YthlkfbiclhgdoaaRows
import Derived.ProofKit
import Derived.OpenShut
import Derived.ShutString
import Derived.ChangeOld
import Derived.SliceStrings
import Derived.Lib.SmallJoins

section

/-
  THE WALK OF QueuePushes.
-/
namespace Go.Proofs.Ythlkfbiclhgdoaa
open Go.RowKit

set_option maxHeartbeats 6400000 in
set_option maxRecDepth 100000 in
theorem qps_1 {w : World} {v : Value} {l : List Chg} (hv : Chgs w v l) (la : Bool) (c st : List UInt8) (on : Bool) (a b d : Int) (room : Int) (hs : fewC l 30 = false) :
    Calls Try.prog 4 #[.agg #[v, .bool la], .agg #[.string ⟨c.toArray⟩, .bool on, .int .i64 a, .int .i64 b, .int .i64 d, .string ⟨st.toArray⟩], .int .i64 room] w fun e w' => e = .returned (.bool true) ∧ Below w.heap.size w w' := by
  obtain ⟨ao, cap, rfl, _hmx⟩ := hv.open'
  have b0 := bl_newZ w (.cells #[.slice ao l.length cap, .bool la] 24)
  have b00 := bl_newZ (w.alloc (.cells #[.slice ao l.length cap, .bool la] 24)) (.cells #[.string ⟨c.toArray⟩, .bool on, .int .i64 a, .int .i64 b, .int .i64 d, .string ⟨st.toArray⟩] 33)
  have HB := Lib.hid (below2Z b0 b00)
  have V := Lib.hid ((hv.later b0).later b00)
  have A := Lib.hid ((cellsAt_made (w := w) (cs := #[.slice ao l.length cap, .bool la]) (vs := [.slice ao l.length cap, .bool la]) rfl 24 rfl).later b00)
  have C := Lib.hid (cellsAt_made (w := w.alloc (.cells #[.slice ao l.length cap, .bool la] 24)) (cs := #[.string ⟨c.toArray⟩, .bool on, .int .i64 a, .int .i64 b, .int .i64 d, .string ⟨st.toArray⟩]) (vs := [.string ⟨c.toArray⟩, .bool on, .int .i64 a, .int .i64 b, .int .i64 d, .string ⟨st.toArray⟩]) rfl 33 (B := w.heap.size + 1) (by simp))
  clear b0 b00 hv
  have H1 := Lib.hid hs
  clear hs
  obtain ⟨q0, q1⟩ := twoAt A.out
  go_enter Try.func4, Try.ntmps4
  go_wp2_with fail
  clear q0 q1
  refine (fewq_any V.out la H1).mono ?_
  rintro e w1 ⟨rfl, b1⟩
  replace V := Lib.hid (V.out.later b1)
  replace A := Lib.hid (A.out.later b1)
  replace C := Lib.hid (C.out.later b1)
  replace HB := Lib.hid (below2Z HB.out b1)
  clear b1
  go_wp2_with fail
  refine (live17 _).mono ?_
  rintro e w2 ⟨rfl, b2⟩
  replace V := Lib.hid (V.out.later b2)
  replace A := Lib.hid (A.out.later b2)
  replace C := Lib.hid (C.out.later b2)
  replace HB := Lib.hid (below2Z HB.out b2)
  clear b2
  go_wp2_with fail
  go_ret
  exact ⟨rfl, HB.out⟩

set_option maxHeartbeats 6400000 in
set_option maxRecDepth 100000 in
theorem qps_2 {w : World} {v : Value} {l : List Chg} (hv : Chgs w v l) (la : Bool) (c st : List UInt8) (on : Bool) (a b d : Int) (room : Int) (hs : fewC l 30 = true) (hc : fewC [⟨c, on, ⟨a, b, d, st⟩⟩] 1 = false) :
    Calls Try.prog 4 #[.agg #[v, .bool la], .agg #[.string ⟨c.toArray⟩, .bool on, .int .i64 a, .int .i64 b, .int .i64 d, .string ⟨st.toArray⟩], .int .i64 room] w fun e w' => e = .returned (.bool true) ∧ Below w.heap.size w w' := by
  obtain ⟨ao, cap, rfl, _hmx⟩ := hv.open'
  have b0 := bl_newZ w (.cells #[.slice ao l.length cap, .bool la] 24)
  have b00 := bl_newZ (w.alloc (.cells #[.slice ao l.length cap, .bool la] 24)) (.cells #[.string ⟨c.toArray⟩, .bool on, .int .i64 a, .int .i64 b, .int .i64 d, .string ⟨st.toArray⟩] 33)
  have HB := Lib.hid (below2Z b0 b00)
  have V := Lib.hid ((hv.later b0).later b00)
  have A := Lib.hid ((cellsAt_made (w := w) (cs := #[.slice ao l.length cap, .bool la]) (vs := [.slice ao l.length cap, .bool la]) rfl 24 rfl).later b00)
  have C := Lib.hid (cellsAt_made (w := w.alloc (.cells #[.slice ao l.length cap, .bool la] 24)) (cs := #[.string ⟨c.toArray⟩, .bool on, .int .i64 a, .int .i64 b, .int .i64 d, .string ⟨st.toArray⟩]) (vs := [.string ⟨c.toArray⟩, .bool on, .int .i64 a, .int .i64 b, .int .i64 d, .string ⟨st.toArray⟩]) rfl 33 (B := w.heap.size + 1) (by simp))
  clear b0 b00 hv
  have H1 := Lib.hid hs
  have H2 := Lib.hid hc
  clear hs hc
  obtain ⟨q0, q1⟩ := twoAt A.out
  go_enter Try.func4, Try.ntmps4
  go_wp2_with fail
  clear q0 q1
  refine (fewq_any V.out la H1).mono ?_
  rintro e w1 ⟨rfl, b1⟩
  replace V := Lib.hid (V.out.later b1)
  replace A := Lib.hid (A.out.later b1)
  replace C := Lib.hid (C.out.later b1)
  replace HB := Lib.hid (below2Z HB.out b1)
  clear b1
  have S1 : Hid (Chgs (w1.alloc (.cells #[.string ⟨c.toArray⟩, .bool on, .int .i64 a, .int .i64 b, .int .i64 d, .string ⟨st.toArray⟩] 33)) (.slice (some ⟨w1.heap.size, 0, none⟩) 1 1) [⟨c, on, ⟨a, b, d, st⟩⟩]) := Lib.hid (chgs_of (rdS_made chgOK (l := [⟨c, on, ⟨a, b, d, st⟩⟩]) rfl (by simp) rfl))
  obtain ⟨r0, r1, r2, r3, r4, r5⟩ := sixAt C.out
  go_wp2_with fail
  have b2 := bl_newZ w1 (.cells #[.string ⟨c.toArray⟩, .bool on, .int .i64 a, .int .i64 b, .int .i64 d, .string ⟨st.toArray⟩] 33)
  replace V := Lib.hid (V.out.later b2)
  replace A := Lib.hid (A.out.later b2)
  replace C := Lib.hid (C.out.later b2)
  replace HB := Lib.hid (below2Z HB.out b2)
  clear b2
  clear r0 r1 r2 r3 r4 r5
  refine (fewc_any S1.out 1 H2).mono ?_
  rintro e w3 ⟨rfl, b3⟩
  replace V := Lib.hid (V.out.later b3)
  replace A := Lib.hid (A.out.later b3)
  replace C := Lib.hid (C.out.later b3)
  replace HB := Lib.hid (below2Z HB.out b3)
  clear b3
  clear S1
  go_wp2_with fail
  refine (live17 _).mono ?_
  rintro e w4 ⟨rfl, b4⟩
  replace V := Lib.hid (V.out.later b4)
  replace A := Lib.hid (A.out.later b4)
  replace C := Lib.hid (C.out.later b4)
  replace HB := Lib.hid (below2Z HB.out b4)
  clear b4
  go_wp2_with fail
  go_ret
  exact ⟨rfl, HB.out⟩

set_option maxHeartbeats 6400000 in
set_option maxRecDepth 100000 in
theorem qps_3 {w : World} {v : Value} {l : List Chg} (hv : Chgs w v l) (la : Bool) (c st : List UInt8) (on : Bool) (a b d : Int) (room : Int) (hs : fewC l 30 = true) (hc : fewC [⟨c, on, ⟨a, b, d, st⟩⟩] 1 = true) :
    Calls Try.prog 4 #[.agg #[v, .bool la], .agg #[.string ⟨c.toArray⟩, .bool on, .int .i64 a, .int .i64 b, .int .i64 d, .string ⟨st.toArray⟩], .int .i64 room] w fun e w' => e = .returned (.bool true) ∧ Below w.heap.size w w' := by
  obtain ⟨ao, cap, rfl, _hmx⟩ := hv.open'
  have b0 := bl_newZ w (.cells #[.slice ao l.length cap, .bool la] 24)
  have b00 := bl_newZ (w.alloc (.cells #[.slice ao l.length cap, .bool la] 24)) (.cells #[.string ⟨c.toArray⟩, .bool on, .int .i64 a, .int .i64 b, .int .i64 d, .string ⟨st.toArray⟩] 33)
  have HB := Lib.hid (below2Z b0 b00)
  have V := Lib.hid ((hv.later b0).later b00)
  have A := Lib.hid ((cellsAt_made (w := w) (cs := #[.slice ao l.length cap, .bool la]) (vs := [.slice ao l.length cap, .bool la]) rfl 24 rfl).later b00)
  have C := Lib.hid (cellsAt_made (w := w.alloc (.cells #[.slice ao l.length cap, .bool la] 24)) (cs := #[.string ⟨c.toArray⟩, .bool on, .int .i64 a, .int .i64 b, .int .i64 d, .string ⟨st.toArray⟩]) (vs := [.string ⟨c.toArray⟩, .bool on, .int .i64 a, .int .i64 b, .int .i64 d, .string ⟨st.toArray⟩]) rfl 33 (B := w.heap.size + 1) (by simp))
  clear b0 b00 hv
  have H1 := Lib.hid hs
  have H2 := Lib.hid hc
  have hl30 := (fewC_get hs).1
  obtain ⟨⟨ql, qa⟩, hq⟩ : ∃ q, quPush ⟨l, la⟩ ⟨c, on, ⟨a, b, d, st⟩⟩ room = q := ⟨_, rfl⟩
  have HQ := Lib.hid hq
  clear hs hc hq
  obtain ⟨q0, q1⟩ := twoAt A.out
  go_enter Try.func4, Try.ntmps4
  go_wp2_with fail
  clear q0 q1
  refine (fewq_any V.out la H1).mono ?_
  rintro e w1 ⟨rfl, b1⟩
  replace V := Lib.hid (V.out.later b1)
  replace A := Lib.hid (A.out.later b1)
  replace C := Lib.hid (C.out.later b1)
  replace HB := Lib.hid (below2Z HB.out b1)
  clear b1
  have S1 : Hid (Chgs (w1.alloc (.cells #[.string ⟨c.toArray⟩, .bool on, .int .i64 a, .int .i64 b, .int .i64 d, .string ⟨st.toArray⟩] 33)) (.slice (some ⟨w1.heap.size, 0, none⟩) 1 1) [⟨c, on, ⟨a, b, d, st⟩⟩]) := Lib.hid (chgs_of (rdS_made chgOK (l := [⟨c, on, ⟨a, b, d, st⟩⟩]) rfl (by simp) rfl))
  obtain ⟨r0, r1, r2, r3, r4, r5⟩ := sixAt C.out
  go_wp2_with fail
  have b2 := bl_newZ w1 (.cells #[.string ⟨c.toArray⟩, .bool on, .int .i64 a, .int .i64 b, .int .i64 d, .string ⟨st.toArray⟩] 33)
  replace V := Lib.hid (V.out.later b2)
  replace A := Lib.hid (A.out.later b2)
  replace C := Lib.hid (C.out.later b2)
  replace HB := Lib.hid (below2Z HB.out b2)
  clear b2
  clear r0 r1 r2 r3 r4 r5
  refine (fewc_any S1.out 1 H2).mono ?_
  rintro e w3 ⟨rfl, b3⟩
  replace V := Lib.hid (V.out.later b3)
  replace A := Lib.hid (A.out.later b3)
  replace C := Lib.hid (C.out.later b3)
  replace HB := Lib.hid (below2Z HB.out b3)
  clear b3
  clear S1
  go_upto_region 3 with fail
  obtain ⟨BS, hBS⟩ : ∃ BS : List (Nat × List Value), BS = [(w.heap.size, [.slice ao l.length cap, .bool la]), (w.heap.size + 1, [.string ⟨c.toArray⟩, .bool on, .int .i64 a, .int .i64 b, .int .i64 d, .string ⟨st.toArray⟩])] := ⟨_, rfl⟩
  have D0 := Lib.hid (show heldB w3 BS from by rw [hBS]; exact heldB_cons (A.out) (heldB_cons (C.out) (heldB_nil _)))
  have hq0 : ∀ X, heldB X BS → X.cell? ⟨w.heap.size, 0, none⟩ = some (.slice ao l.length cap) := fun X hx => heldB_get (vs := [.slice ao l.length cap, .bool la]) hx (by rw [hBS]; simp) rfl
  have hq1 : ∀ X, heldB X BS → X.cell? ⟨w.heap.size, 1, none⟩ = some (.bool la) := fun X hx => heldB_get (vs := [.slice ao l.length cap, .bool la]) hx (by rw [hBS]; simp) rfl
  have hq2 : ∀ X, heldB X BS → X.cell? ⟨w.heap.size + 1, 0, none⟩ = some (.string ⟨c.toArray⟩) := fun X hx => heldB_get (vs := [.string ⟨c.toArray⟩, .bool on, .int .i64 a, .int .i64 b, .int .i64 d, .string ⟨st.toArray⟩]) hx (by rw [hBS]; simp) rfl
  have hq3 : ∀ X, heldB X BS → X.cell? ⟨w.heap.size + 1, 1, none⟩ = some (.bool on) := fun X hx => heldB_get (vs := [.string ⟨c.toArray⟩, .bool on, .int .i64 a, .int .i64 b, .int .i64 d, .string ⟨st.toArray⟩]) hx (by rw [hBS]; simp) rfl
  have hq4 : ∀ X, heldB X BS → X.cell? ⟨w.heap.size + 1, 2, none⟩ = some (.int .i64 a) := fun X hx => heldB_get (vs := [.string ⟨c.toArray⟩, .bool on, .int .i64 a, .int .i64 b, .int .i64 d, .string ⟨st.toArray⟩]) hx (by rw [hBS]; simp) rfl
  have hq5 : ∀ X, heldB X BS → X.cell? ⟨w.heap.size + 1, 3, none⟩ = some (.int .i64 b) := fun X hx => heldB_get (vs := [.string ⟨c.toArray⟩, .bool on, .int .i64 a, .int .i64 b, .int .i64 d, .string ⟨st.toArray⟩]) hx (by rw [hBS]; simp) rfl
  have hq6 : ∀ X, heldB X BS → X.cell? ⟨w.heap.size + 1, 4, none⟩ = some (.int .i64 d) := fun X hx => heldB_get (vs := [.string ⟨c.toArray⟩, .bool on, .int .i64 a, .int .i64 b, .int .i64 d, .string ⟨st.toArray⟩]) hx (by rw [hBS]; simp) rfl
  have hq7 : ∀ X, heldB X BS → X.cell? ⟨w.heap.size + 1, 5, none⟩ = some (.string ⟨st.toArray⟩) := fun X hx => heldB_get (vs := [.string ⟨c.toArray⟩, .bool on, .int .i64 a, .int .i64 b, .int .i64 d, .string ⟨st.toArray⟩]) hx (by rw [hBS]; simp) rfl
  clear hBS
  have K0 : Hid (Below w3.heap.size w3 w3.drew) := Lib.hid (Below.refl _ _).drew
  refine wp_region_held_drew (S := (fun X => heldB X BS)) (by kernel_rfl) ?_ (fun hHeld => ?_)
  · exact heldB_up K0.out D0.out
  generalize w3.drew = z0 at K0 hHeld ⊢
  refine wpAnyH_take (i := 0) (oi := { dst := some 17, op := Op.load 24 (Operand.tmp 3), type := 24, pos := "law.go:54", after := #[], guard := none }) (v := ?_) rfl (by as_aux_lemma => kernel_rfl) (by as_aux_lemma => kernel_rfl) (by as_aux_lemma => kernel_rfl) (fun _ _ _ h => h) (Or.inl ⟨by rfl, ?_⟩) (by assumption) ?_
  rotate_left
  · intro w' hSw
    try dsimp only at hSw
    go_simp
    try with_reducible rfl
  try simp only [Act.put, List.setIfInBounds_toArray, List.set_cons_zero, List.set_cons_succ]
  refine wpAnyH_take (i := 1) (oi := { dst := some 18, op := Op.load 33 (Operand.tmp 4), type := 33, pos := "law.go:54", after := #[], guard := none }) (v := ?_) rfl (by as_aux_lemma => kernel_rfl) (by as_aux_lemma => kernel_rfl) (by as_aux_lemma => kernel_rfl) (fun _ _ _ h => h) (Or.inl ⟨by rfl, ?_⟩) (by assumption) ?_
  rotate_left
  · intro w' hSw
    try dsimp only at hSw
    go_simp
    try with_reducible rfl
  try simp only [Act.put, List.setIfInBounds_toArray, List.set_cons_zero, List.set_cons_succ]
  refine wpAnyH_take (i := 2) (oi := { dst := some 19, op := Op.move (Operand.tmp 2), type := 3, pos := "law.go:54", after := #[], guard := none }) (v := ?_) rfl (by as_aux_lemma => kernel_rfl) (by as_aux_lemma => kernel_rfl) (by as_aux_lemma => kernel_rfl) (fun _ _ _ h => h) (Or.inl ⟨by rfl, ?_⟩) (by assumption) ?_
  rotate_left
  · intro w' hSw
    try dsimp only at hSw
    go_simp
    try with_reducible rfl
  try simp only [Act.put, List.setIfInBounds_toArray, List.set_cons_zero, List.set_cons_succ]
  refine wpAnyH_take (i := 4) (oi := { dst := some 21, op := Op.load 24 (Operand.tmp 3), type := 24, pos := "law.go:54", after := #[], guard := none }) (v := ?_) rfl (by as_aux_lemma => kernel_rfl) (by as_aux_lemma => kernel_rfl) (by as_aux_lemma => kernel_rfl) (fun _ _ _ h => h) (Or.inl ⟨by rfl, ?_⟩) (by assumption) ?_
  rotate_left
  · intro w' hSw
    try dsimp only at hSw
    go_simp
    try with_reducible rfl
  try simp only [Act.put, List.setIfInBounds_toArray, List.set_cons_zero, List.set_cons_succ]
  refine wpAnyH_take (i := 5) (oi := { dst := some 22, op := Op.load 33 (Operand.tmp 4), type := 33, pos := "law.go:54", after := #[], guard := none }) (v := ?_) rfl (by as_aux_lemma => kernel_rfl) (by as_aux_lemma => kernel_rfl) (by as_aux_lemma => kernel_rfl) (fun _ _ _ h => h) (Or.inl ⟨by rfl, ?_⟩) (by assumption) ?_
  rotate_left
  · intro w' hSw
    try dsimp only at hSw
    go_simp
    try with_reducible rfl
  try simp only [Act.put, List.setIfInBounds_toArray, List.set_cons_zero, List.set_cons_succ]
  refine wpAnyH_take (i := 6) (oi := { dst := some 23, op := Op.move (Operand.tmp 2), type := 3, pos := "law.go:54", after := #[], guard := none }) (v := ?_) rfl (by as_aux_lemma => kernel_rfl) (by as_aux_lemma => kernel_rfl) (by as_aux_lemma => kernel_rfl) (fun _ _ _ h => h) (Or.inl ⟨by rfl, ?_⟩) (by assumption) ?_
  rotate_left
  · intro w' hSw
    try dsimp only at hSw
    go_simp
    try with_reducible rfl
  try simp only [Act.put, List.setIfInBounds_toArray, List.set_cons_zero, List.set_cons_succ]
  refine wpAnyH_ready (rs := [3]) (by as_aux_lemma => kernel_rfl) (by simp) ?_
  refine AllReadyH.cons (o := { dst := some 20, op := Op.call { callee := Callee.value (Operand.func 27), args := #[Operand.tmp 17, Operand.tmp 18, Operand.tmp 19], argTypes := #[24, 33, 3] }, type := 24, pos := "law.go:54", after := #[{ on := 0, ground := Ground.data }, { on := 1, ground := Ground.data }, { on := 2, ground := Ground.data }], guard := none }) rfl (fun Kx hK => ?_) AllReadyH.nil
  go_simp
  refine (qupush_any (V.out.later K0.out) (by omega) la c st on a b d room HQ).mono ?_
  rintro e z1 ⟨u1, rfl, hu1, bz1⟩
  have K1 := Lib.hid (below2Z K0.out bz1)
  have D1 := Lib.hid (heldB_up K1.out D0.out)
  obtain ⟨au, cu, rfl, -⟩ := hu1.open'
  have U1 := Lib.hid hu1
  clear hu1
  clear bz1
  go_wp2_with fail
  refine hK.out _ _ ?_ (fun hHeld2 => ?_)
  · exact D1.out
  clear hK Kx hHeld
  have hHeld := hHeld2
  clear hHeld2
  try simp only [Act.put, List.setIfInBounds_toArray, List.set_cons_zero, List.set_cons_succ]
  refine wpAnyH_ready (rs := [7]) (by as_aux_lemma => kernel_rfl) (by simp) ?_
  refine AllReadyH.cons (o := { dst := some 24, op := Op.call { callee := Callee.value (Operand.func 28), args := #[Operand.tmp 21, Operand.tmp 22, Operand.tmp 23], argTypes := #[24, 33, 3] }, type := 24, pos := "law.go:54", after := #[{ on := 4, ground := Ground.data }, { on := 5, ground := Ground.data }, { on := 6, ground := Ground.data }, { on := 3, ground := Ground.chain }], guard := none }) rfl (fun Kx hK => ?_) AllReadyH.nil
  go_simp
  refine (rqupush_any (V.out.later K1.out) (by omega) la c st on a b d room HQ).mono ?_
  rintro e z2 ⟨u2, rfl, hu2, bz2⟩
  have K2 := Lib.hid (below2Z K1.out bz2)
  have D2 := Lib.hid (heldB_up K2.out D0.out)
  replace U1 := Lib.hid (Chgs.later U1.out bz2)
  obtain ⟨bu, du, rfl, -⟩ := hu2.open'
  have U2 := Lib.hid hu2
  clear hu2
  clear bz2
  go_wp2_with fail
  refine hK.out _ _ ?_ (fun hHeld2 => ?_)
  · exact D2.out
  clear hK Kx hHeld
  have hHeld := hHeld2
  clear hHeld2
  try simp only [Act.put, List.setIfInBounds_toArray, List.set_cons_zero, List.set_cons_succ]
  refine wpAnyH_ready (rs := [8]) (by as_aux_lemma => kernel_rfl) (by simp) ?_
  refine AllReadyH.cons (o := { dst := some 25, op := Op.call { callee := Callee.value (Operand.func 20), args := #[Operand.tmp 20, Operand.tmp 24], argTypes := #[24, 24] }, type := 4, pos := "law.go:54", after := #[{ on := 3, ground := Ground.data }, { on := 7, ground := Ground.data }, { on := 7, ground := Ground.chain }], guard := none }) rfl (fun Kx hK => ?_) AllReadyH.nil
  go_simp
  refine (qusame_any U1.out U2.out qa qa (Lib.hid (quSame_self _))).mono ?_
  rintro e z3 ⟨rfl, bz3⟩
  have K3 := Lib.hid (below2Z K2.out bz3)
  have D3 := Lib.hid (heldB_up K3.out D0.out)
  replace U1 := Lib.hid (Chgs.later U1.out bz3)
  replace U2 := Lib.hid (Chgs.later U2.out bz3)
  clear bz3
  go_wp2_with fail
  refine hK.out _ _ ?_ (fun hHeld2 => ?_)
  · exact D3.out
  clear hK Kx hHeld
  have hHeld := hHeld2
  clear hHeld2
  try simp only [Act.put, List.setIfInBounds_toArray, List.set_cons_zero, List.set_cons_succ]
  refine wpAnyH_take (i := 9) (oi := { dst := some 26, op := Op.move (Operand.tmp 25), type := 4, pos := "law.go:54", after := #[{ on := 8, ground := Ground.data }, { on := 8, ground := Ground.chain }], guard := none }) (v := ?_) rfl (by as_aux_lemma => kernel_rfl) (by as_aux_lemma => kernel_rfl) (by as_aux_lemma => kernel_rfl) (fun _ _ _ h => h) (Or.inl ⟨by rfl, ?_⟩) (by assumption) ?_
  rotate_left
  · intro w' hSw
    try dsimp only at hSw
    go_simp
    try with_reducible rfl
  try simp only [Act.put, List.setIfInBounds_toArray, List.set_cons_zero, List.set_cons_succ]
  refine wpAnyH_ready (rs := [10]) (by as_aux_lemma => kernel_rfl) (by simp) ?_
  refine AllReadyH.cons (o := { dst := some 27, op := Op.call { callee := Callee.value (Operand.func 11), args := #[], argTypes := #[] }, type := 4, pos := "law.go:54", after := #[{ on := 9, ground := Ground.chain }, { on := 9, ground := Ground.guard }], guard := some (9, true) }) rfl (fun Kx hK => ?_) AllReadyH.nil
  go_simp
  refine (live17 _).mono ?_
  rintro e z4 ⟨rfl, bz4⟩
  have K4 := Lib.hid (below2Z K3.out bz4)
  have D4 := Lib.hid (heldB_up K4.out D0.out)
  replace U1 := Lib.hid (Chgs.later U1.out bz4)
  replace U2 := Lib.hid (Chgs.later U2.out bz4)
  clear bz4
  go_wp2_with fail
  refine hK.out _ _ ?_ (fun hHeld2 => ?_)
  · exact D4.out
  clear hK Kx hHeld
  have hHeld := hHeld2
  clear hHeld2
  try simp only [Act.put, List.setIfInBounds_toArray, List.set_cons_zero, List.set_cons_succ]
  refine wpAnyH_take (i := 11) (oi := { dst := some 28, op := Op.pick (Operand.tmp 26) (Operand.tmp 27) (Operand.const (Value.bool false)), type := 4, pos := "law.go:54", after := #[{ on := 9, ground := Ground.data }, { on := 10, ground := Ground.data }], guard := none }) (v := ?_) rfl (by as_aux_lemma => kernel_rfl) (by as_aux_lemma => kernel_rfl) (by as_aux_lemma => kernel_rfl) (fun _ _ _ h => h) (Or.inl ⟨by rfl, ?_⟩) (by assumption) ?_
  rotate_left
  · intro w' hSw
    try dsimp only at hSw
    go_simp
    try with_reducible rfl
  try simp only [Act.put, List.setIfInBounds_toArray, List.set_cons_zero, List.set_cons_succ]
  refine wpAnyH_take (i := 12) (oi := { dst := some 6, op := Op.assign (Operand.tmp 28), type := 4, pos := "law.go:54", after := #[{ on := 11, ground := Ground.data }, { on := 10, ground := Ground.chain }, { on := 0, ground := Ground.phase }, { on := 1, ground := Ground.phase }, { on := 2, ground := Ground.phase }, { on := 3, ground := Ground.phase }, { on := 4, ground := Ground.phase }, { on := 5, ground := Ground.phase }, { on := 6, ground := Ground.phase }, { on := 7, ground := Ground.phase }, { on := 8, ground := Ground.phase }, { on := 9, ground := Ground.phase }, { on := 10, ground := Ground.phase }, { on := 11, ground := Ground.phase }], guard := none }) (v := ?_) rfl (by as_aux_lemma => kernel_rfl) (by as_aux_lemma => kernel_rfl) (by as_aux_lemma => kernel_rfl) (fun _ _ _ h => h) (Or.inl ⟨by rfl, ?_⟩) (by assumption) ?_
  rotate_left
  · intro w' hSw
    try dsimp only at hSw
    go_simp
    try with_reducible rfl
  try simp only [Act.put, List.setIfInBounds_toArray, List.set_cons_zero, List.set_cons_succ]
  refine wpAnyH_done (by kernel_rfl) ?_ _
  replace HB := Lib.hid (below2Z HB.out K4.out)
  go_wp2_with fail
  go_ret
  exact ⟨rfl, HB.out⟩

theorem walkQueuePushes {w : World} {v : Value} {q : Que} (hv : Chgs w v q.l) (c : Chg) (room : Int) (_ : (Lit.int .i64 room).wf = true) :
    Calls Try.prog 4 #[.agg #[v, .bool q.la], chgAgg c, .int .i64 room] w fun e w' => e = .returned (.bool true) ∧ Below w.heap.size w w' := by
  obtain ⟨l, la⟩ := q
  obtain ⟨c, on, ⟨a, b, d, st⟩⟩ := c
  cases hs : fewC l 30 with
  | false => exact qps_1 hv la c st on a b d room hs
  | true =>
    cases hc : fewC [⟨c, on, ⟨a, b, d, st⟩⟩] 1 with
    | false => exact qps_2 hv la c st on a b d room hs hc
    | true => exact qps_3 hv la c st on a b d room hs hc

end Go.Proofs.Ythlkfbiclhgdoaa

end

section

/-
  THE FRAME OF THE PROOF OF QueuePushes: for every input the law returns true, and each argument reads behind the call as it read before. No condition.
-/
namespace Go.Proofs.Ythlkfbiclhgdoaa.queuePushes
open Go.ChangeShapes Go.WideShapes Go.ChangeAt Go.RowKit
open Go.ChangeMaps (open_string shut_string)
set_option linter.unusedVariables false

theorem own : ownKnob Try.prog.godebug = none := by kernel_rfl
theorem laidOut : laidOutB Try.prog = true := by kernel_rfl

set_option maxRecDepth 100000 in
theorem lifted (os : Os) (started : os.Started) (H : Type) (enc : TypeId × Value → H) :
    ReturnsInHanded {} Try.checked os 4 .any (Rows.queuePushesSpec.pre6 enc Try.prog Try.f4 Rows.queuePushesRow.domain false) (Rows.queuePushesSpec.post enc Try.prog Try.f4 false true false false) := by
  refine returnsInHanded_of_change (C := Try.checked) own started (by kernel_rfl) Try.func4
    (ChangeSpec.witness6 (enc := enc) (C := Try.checked) false ⟨#[], #[.agg #[.slice none 0 0, .bool false], .agg #[.string ByteArray.empty, .bool false, .int .i64 0, .int .i64 0, .int .i64 0, .string ByteArray.empty], .int .i64 0], []⟩ 8 (by kernel_rfl) (by kernel_rfl) (by kernel_rfl) (by kernel_rfl)) ?_
  intro W base args ds gs before hval0 hW hcnd _
  have hval : ∀ (j : Nat) t v, Try.f4.params[j]? = some t → args[j]? = some v → Value.okWide Try.prog W .any base t v := hval0
  have hW' := hW
  obtain ⟨p, q, hA0, hV, rfl, hfz, hnd⟩ := hW
  have hA : DataW.TrodAll enc Try.prog W 0 (fun _ => true) true Try.f4.params.toList args.toList ds p := hA0
  rw [Try.params4] at hA hval
  obtain ⟨v0, vs0, d0, ds0, p0, q0, hargs, rfl, rfl, h0, r0⟩ := trodAll_cons hA
  obtain ⟨v1, vs1, d1, ds1, p1, q1, rfl, rfl, rfl, h1, r1⟩ := trodAll_cons r0
  obtain ⟨v2, vs2, d2, ds2, p2, q2, rfl, rfl, rfl, h2, r2⟩ := trodAll_cons r1
  obtain ⟨rfl, rfl, rfl⟩ := trodAll_nil r2
  obtain rfl : args = #[v0, v1, v2] := by cases args; simp_all
  obtain ⟨rfl, rfl⟩ := trodVars_none hV
  have k0 := h0
  have lt0 : ∀ x ∈ p0, x.block < W.heap.size := by obtain ⟨m, hm⟩ := k0; exact DataW.trod_lt m _ _ _ hm
  obtain ⟨x0, a0, rfl, w0⟩ := open_que (hval 0 24 v0 rfl rfl) h0
  have k1 := h1
  have lt1 : ∀ x ∈ p1, x.block < W.heap.size := by obtain ⟨m, hm⟩ := k1; exact DataW.trod_lt m _ _ _ hm
  obtain ⟨a1, rfl, _, _⟩ := open_chg (hval 1 33 v1 rfl rfl) h1
  have k2 := h2
  have lt2 : ∀ x ∈ p2, x.block < W.heap.size := by obtain ⟨m, hm⟩ := k2; exact DataW.trod_lt m _ _ _ hm
  obtain ⟨a2, rfl, hd2, hp2, w2⟩ := open_int Try.underlying3 (hval 2 3 v2 rfl rfl) h2
  clear hA0 hval0
  refine (walkQueuePushes (w := W) w0 a1 a2 w2).mono fun e W' ⟨he, bel⟩ => ?_
  subst he
  exact ⟨_, rfl, _, _, _, [], _, [], hW', trodAll_mk1 (shut_bool Try.underlying4 _), (trodAll_cons_mk (Below.trod laidOut (by kernel_rfl) (of_decide_eq_true (by kernel_rfl)) k0 bel lt0) (trodAll_cons_mk (Below.trod laidOut (by kernel_rfl) (of_decide_eq_true (by kernel_rfl)) k1 bel lt1) (trodAll_cons_mk (Below.trod laidOut (by kernel_rfl) (of_decide_eq_true (by kernel_rfl)) k2 bel lt2) trodAll_mk0))), rfl, bel.frame _, fun h => by cases h⟩

theorem over : Rows.queuePushesRow.holds Try.pinned (OpenSpec.ofChange Rows.queuePushesSpec) :=
  OpenClaim.holds_of_wide 4 Try.f4 rfl rfl rfl rfl rfl rfl rfl ⟨rfl, rfl, rfl, rfl, rfl⟩ rfl rfl rfl rfl rfl (by kernel_rfl) Try.func4 (by kernel_rfl)
    (of_decide_eq_true (by kernel_rfl)) (by unfold Func.isWrapper; first | (rw [if_pos (by decide +kernel)]; kernel_rfl) | (rw [if_neg (by decide +kernel)]; exact ⟨rfl, rfl⟩))
    (fun os started H enc _ => lifted os started H enc)

/-- THE STATEMENT. -/
theorem proved : Rows.QueuePushesSaid := over
#print axioms proved
end Go.Proofs.Ythlkfbiclhgdoaa.queuePushes

end
