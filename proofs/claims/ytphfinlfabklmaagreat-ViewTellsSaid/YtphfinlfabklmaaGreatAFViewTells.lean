/-
  THE PROOF OF ViewTells: for every input the law returns true, and each argument reads behind the call as it read before. No condition.
-/
import Derived.Test.YtphfinlfabklmaaGreatA40
import Derived.Test.YtphfinlfabklmaaGreatA13
import Derived.Test.YtphfinlfabklmaaGreatRows
import Derived.ProofKit
import Derived.OpenShut
import Derived.ShutString
import Derived.ChangeOld
import Derived.SliceStrings
import Derived.Lib.SmallJoins

section

/-
  THE WALK OF ViewTells.
-/
namespace Go.Proofs.YtphfinlfabklmaaGreat
open Go.RowKit

set_option maxHeartbeats 6400000 in
set_option maxRecDepth 100000 in
theorem vtl {w : World} {x y p q : Value} {s t : Sta} (h : StAt w x y s) (k : StAt w p q t) (u c : List UInt8) :
    Calls Tryz.prog 3 #[.agg #[x, y], .agg #[p, q], .agg #[.string ⟨u.toArray⟩, .string ⟨c.toArray⟩]] w fun e w' => e = .returned (.bool true) ∧ Below w.heap.size w w' := by
  have b0 := bl_newZ w (.cells #[x, y] 25)
  have b1 := bl_newZ (w.alloc (.cells #[x, y] 25)) (.cells #[p, q] 25)
  have b2 := bl_newZ ((w.alloc (.cells #[x, y] 25)).alloc (.cells #[p, q] 25)) (.cells #[.string ⟨u.toArray⟩, .string ⟨c.toArray⟩] 26)
  have HB := Lib.hid (below2Z (below2Z b0 b1) b2)
  have H := Lib.hid (((h.later b0).later b1).later b2)
  have K := Lib.hid (((k.later b0).later b1).later b2)
  have SB := newQ w (.cells #[x, y] 25)
  replace SB := upQ SB b1
  replace SB := upQ SB b2
  replace SB := Lib.hid SB
  have TB := newQ (w.alloc (.cells #[x, y] 25)) (.cells #[p, q] 25)
  rw [World.size_alloc] at TB
  replace TB := upQ TB b2
  replace TB := Lib.hid TB
  have WB := newQ ((w.alloc (.cells #[x, y] 25)).alloc (.cells #[p, q] 25)) (.cells #[.string ⟨u.toArray⟩, .string ⟨c.toArray⟩] 26)
  rw [World.size_alloc, World.size_alloc] at WB
  replace WB := Lib.hid WB
  clear b0 b1 b2
  clear h k
  obtain ⟨f1, hf1⟩ : ∃ r, fewSta s = r := ⟨_, rfl⟩
  obtain ⟨f2, hf2⟩ : ∃ r, fewSta t = r := ⟨_, rfl⟩
  have F1 := Lib.hid hf1
  have F2 := Lib.hid hf2
  clear hf1 hf2
  obtain ⟨⟨SBc0, SBc1⟩, ⟨SBf0, SBf1⟩⟩ := blk2 SB.out
  obtain ⟨⟨TBc0, TBc1⟩, ⟨TBf0, TBf1⟩⟩ := blk2 TB.out
  obtain ⟨⟨WBc0, WBc1⟩, ⟨WBf0, WBf1⟩⟩ := blk2 WB.out
  go_enter Tryz.func3, Tryz.ntmps3
  go_upto_region 1 with fail
  clear SBc0 SBc1 SBf0 SBf1 TBc0 TBc1 TBf0 TBf1 WBc0 WBc1 WBf0 WBf1
  generalize ((w.alloc (.cells #[x, y] 25)).alloc (.cells #[p, q] 25)).alloc (.cells #[.string ⟨u.toArray⟩, .string ⟨c.toArray⟩] 26) = w4 at SB TB WB H K HB ⊢
  obtain ⟨BS, hBS⟩ : ∃ BS : List (Nat × List Value), BS = [(w.heap.size + 1 + 1, [.string ⟨u.toArray⟩, .string ⟨c.toArray⟩])] := ⟨_, rfl⟩
  have D0 := Lib.hid (show heldB w4 BS from by rw [hBS]; exact heldB_cons (cellsAt_block WB.out) (heldB_nil _))
  have hq0 : ∀ X, heldB X BS → X.cell? ⟨w.heap.size + 1 + 1, 0, none⟩ = some (.string ⟨u.toArray⟩) := fun X hx => heldB_get (vs := [.string ⟨u.toArray⟩, .string ⟨c.toArray⟩]) hx (by rw [hBS]; simp) rfl
  have hq1 : ∀ X, heldB X BS → X.cell? ⟨w.heap.size + 1 + 1, 1, none⟩ = some (.string ⟨c.toArray⟩) := fun X hx => heldB_get (vs := [.string ⟨u.toArray⟩, .string ⟨c.toArray⟩]) hx (by rw [hBS]; simp) rfl
  clear hBS
  have K0 : Hid (Below w4.heap.size w4 w4.drew) := Lib.hid (Below.refl _ _).drew
  refine wp_region_held_drew (S := (fun X => heldB X BS)) (by kernel_rfl) ?_ (fun hHeld => ?_)
  · exact heldB_up K0.out D0.out
  generalize w4.drew = z0 at K0 hHeld ⊢
  refine wpAnyH_take (i := 0) (oi := { dst := some 13, op := Op.indexAddr 26 (Operand.tmp 5) (Operand.const (Value.int IntKind.i64 0)), type := 0, pos := "law.go:31", after := #[], guard := none }) (v := ?_) rfl (by as_aux_lemma => kernel_rfl) (by as_aux_lemma => kernel_rfl) (by as_aux_lemma => kernel_rfl) (fun _ _ _ h => h) (Or.inl ⟨by rfl, ?_⟩) (by assumption) ?_
  rotate_left
  · intro w' hSw
    try dsimp only at hSw
    go_simp
    try with_reducible rfl
  try simp only [Act.put, List.setIfInBounds_toArray, List.set_cons_zero, List.set_cons_succ]
  refine wpAnyH_take (i := 1) (oi := { dst := some 14, op := Op.load 9 (Operand.tmp 13), type := 9, pos := "law.go:31", after := #[{ on := 0, ground := Ground.data }], guard := none }) (v := ?_) rfl (by as_aux_lemma => kernel_rfl) (by as_aux_lemma => kernel_rfl) (by as_aux_lemma => kernel_rfl) (fun _ _ _ h => h) (Or.inl ⟨by rfl, ?_⟩) (by assumption) ?_
  rotate_left
  · intro w' hSw
    try dsimp only at hSw
    go_simp
    try with_reducible rfl
  try simp only [Act.put, List.setIfInBounds_toArray, List.set_cons_zero, List.set_cons_succ]
  refine wpAnyH_take (i := 2) (oi := { dst := some 15, op := Op.indexAddr 26 (Operand.tmp 5) (Operand.const (Value.int IntKind.i64 1)), type := 0, pos := "law.go:31", after := #[{ on := 4, ground := Ground.gcOnly Departure.lateStores }], guard := none }) (v := ?_) rfl (by as_aux_lemma => kernel_rfl) (by as_aux_lemma => kernel_rfl) (by as_aux_lemma => kernel_rfl) (fun _ _ _ h => h) (Or.inl ⟨by rfl, ?_⟩) (by assumption) ?_
  rotate_left
  · intro w' hSw
    try dsimp only at hSw
    go_simp
    try with_reducible rfl
  try simp only [Act.put, List.setIfInBounds_toArray, List.set_cons_zero, List.set_cons_succ]
  refine wpAnyH_take (i := 3) (oi := { dst := some 16, op := Op.load 9 (Operand.tmp 15), type := 9, pos := "law.go:31", after := #[{ on := 2, ground := Ground.data }, { on := 4, ground := Ground.gcOnly Departure.lateStores }], guard := none }) (v := ?_) rfl (by as_aux_lemma => kernel_rfl) (by as_aux_lemma => kernel_rfl) (by as_aux_lemma => kernel_rfl) (fun _ _ _ h => h) (Or.inl ⟨by rfl, ?_⟩) (by assumption) ?_
  rotate_left
  · intro w' hSw
    try dsimp only at hSw
    go_simp
    try with_reducible rfl
  try simp only [Act.put, List.setIfInBounds_toArray, List.set_cons_zero, List.set_cons_succ]
  refine wpAnyH_take (i := 4) (oi := { dst := some 7, op := Op.assign (Operand.tmp 14), type := 9, pos := "law.go:31", after := #[{ on := 1, ground := Ground.data }, { on := 0, ground := Ground.phase }, { on := 1, ground := Ground.phase }, { on := 2, ground := Ground.textOnly Departure.lateStores }, { on := 3, ground := Ground.textOnly Departure.lateStores }], guard := none }) (v := ?_) rfl (by as_aux_lemma => kernel_rfl) (by as_aux_lemma => kernel_rfl) (by as_aux_lemma => kernel_rfl) (fun _ _ _ h => h) (Or.inl ⟨by rfl, ?_⟩) (by assumption) ?_
  rotate_left
  · intro w' hSw
    try dsimp only at hSw
    go_simp
    try with_reducible rfl
  try simp only [Act.put, List.setIfInBounds_toArray, List.set_cons_zero, List.set_cons_succ]
  refine wpAnyH_take (i := 5) (oi := { dst := some 8, op := Op.assign (Operand.tmp 16), type := 9, pos := "law.go:31", after := #[{ on := 3, ground := Ground.data }, { on := 4, ground := Ground.chain }, { on := 0, ground := Ground.phase }, { on := 1, ground := Ground.phase }, { on := 2, ground := Ground.phase }, { on := 3, ground := Ground.phase }, { on := 4, ground := Ground.phase }], guard := none }) (v := ?_) rfl (by as_aux_lemma => kernel_rfl) (by as_aux_lemma => kernel_rfl) (by as_aux_lemma => kernel_rfl) (fun _ _ _ h => h) (Or.inl ⟨by rfl, ?_⟩) (by assumption) ?_
  rotate_left
  · intro w' hSw
    try dsimp only at hSw
    go_simp
    try with_reducible rfl
  try simp only [Act.put, List.setIfInBounds_toArray, List.set_cons_zero, List.set_cons_succ]
  refine wpAnyH_done (by kernel_rfl) ?_ _
  replace SB := Lib.hid (upQ SB.out K0.out)
  replace TB := Lib.hid (upQ TB.out K0.out)
  replace WB := Lib.hid (upQ WB.out K0.out)
  replace H := Lib.hid (H.out.later K0.out)
  replace K := Lib.hid (K.out.later K0.out)
  replace HB := Lib.hid (below2Z HB.out K0.out)
  try clear hHeld
  try clear D0
  try clear K0
  obtain ⟨⟨SBc0, SBc1⟩, ⟨SBf0, SBf1⟩⟩ := blk2 SB.out
  go_wp2_with fail
  clear SBc0 SBc1 SBf0 SBf1
  refine (fewst_any H.out F1).mono ?_
  rintro e w5 ⟨rfl, b5⟩
  replace SB := Lib.hid (upQ SB.out b5)
  replace TB := Lib.hid (upQ TB.out b5)
  replace WB := Lib.hid (upQ WB.out b5)
  replace H := Lib.hid (H.out.later b5)
  replace K := Lib.hid (K.out.later b5)
  replace HB := Lib.hid (below2Z HB.out b5)
  clear b5
  cases f1 with
  | false =>
    go_wp2_with fail
    refine (live15 _).mono ?_
    rintro e w101 ⟨rfl, b101⟩
    replace HB := Lib.hid (below2Z HB.out b101)
    clear b101
    go_wp2_with fail
    go_ret
    exact ⟨rfl, HB.out⟩
  | true =>
    obtain ⟨⟨TBc0, TBc1⟩, ⟨TBf0, TBf1⟩⟩ := blk2 TB.out
    go_wp2_with fail
    clear TBc0 TBc1 TBf0 TBf1
    refine (fewst_any K.out F2).mono ?_
    rintro e w6 ⟨rfl, b6⟩
    replace SB := Lib.hid (upQ SB.out b6)
    replace TB := Lib.hid (upQ TB.out b6)
    replace WB := Lib.hid (upQ WB.out b6)
    replace H := Lib.hid (H.out.later b6)
    replace K := Lib.hid (K.out.later b6)
    replace HB := Lib.hid (below2Z HB.out b6)
    clear b6
    cases f2 with
    | false =>
      go_wp2_with fail
      refine (live15 _).mono ?_
      rintro e w101 ⟨rfl, b101⟩
      replace HB := Lib.hid (below2Z HB.out b101)
      clear b101
      go_wp2_with fail
      go_ret
      exact ⟨rfl, HB.out⟩
    | true =>
      by_cases hu : u.length ≤ 40
      case neg =>
        have t1 := long_yes hu
        go_wp2_with fail
        refine (live15 _).mono ?_
        rintro e w101 ⟨rfl, b101⟩
        replace HB := Lib.hid (below2Z HB.out b101)
        clear b101
        go_wp2_with fail
        go_ret
        exact ⟨rfl, HB.out⟩
      case pos =>
        by_cases hc : c.length ≤ 40
        case neg =>
          have t1 := long_no hu
          have t2 := long_yes hc
          go_wp2_with fail
          refine (live15 _).mono ?_
          rintro e w101 ⟨rfl, b101⟩
          replace HB := Lib.hid (below2Z HB.out b101)
          clear b101
          go_wp2_with fail
          go_ret
          exact ⟨rfl, HB.out⟩
        case pos =>
          have t1 := long_no hu
          have t2 := long_no hc
          obtain ⟨HOK, he80, hs50⟩ := fewSta_V F1.out
          obtain ⟨KOK, ke80, ks50⟩ := fewSta_V F2.out
          replace HOK := Lib.hid HOK
          replace KOK := Lib.hid KOK
          clear F1 F2
          obtain ⟨⟨⟨va, vb, vc, vs⟩, r⟩, hv⟩ : ∃ p, vwValue s u c = p := ⟨_, rfl⟩
          have HV := Lib.hid hv
          clear hv
          obtain ⟨⟨SBc0, SBc1⟩, ⟨SBf0, SBf1⟩⟩ := blk2 SB.out
          go_wp2_with fail
          clear SBc0 SBc1 SBf0 SBf1
          refine (vwvalue_any H.out HOK.out u c HV).mono ?_
          rintro e w7 ⟨rfl, b7⟩
          replace SB := Lib.hid (upQ SB.out b7)
          replace TB := Lib.hid (upQ TB.out b7)
          replace WB := Lib.hid (upQ WB.out b7)
          replace H := Lib.hid (H.out.later b7)
          replace K := Lib.hid (K.out.later b7)
          replace HB := Lib.hid (below2Z HB.out b7)
          clear b7
          have b8 := bl_newZ w7 (.cells #[.int .i64 va, .int .i64 vb, .int .i64 vc, .string ⟨vs.toArray⟩] 30)
          have VA := newQ w7 (.cells #[.int .i64 va, .int .i64 vb, .int .i64 vc, .string ⟨vs.toArray⟩] 30)
          have hVA : w.heap.size ≤ w7.heap.size := HB.out.size
          replace SB := Lib.hid (upQ SB.out b8)
          replace TB := Lib.hid (upQ TB.out b8)
          replace WB := Lib.hid (upQ WB.out b8)
          replace H := Lib.hid (H.out.later b8)
          replace K := Lib.hid (K.out.later b8)
          replace HB := Lib.hid (below2Z HB.out b8)
          clear b8
          replace VA := Lib.hid VA
          obtain ⟨⟨SBc0, SBc1⟩, ⟨SBf0, SBf1⟩⟩ := blk2 SB.out
          go_wp2_with fail
          clear SBc0 SBc1 SBf0 SBf1
          generalize w7.alloc (.cells #[.int .i64 va, .int .i64 vb, .int .i64 vc, .string ⟨vs.toArray⟩] 30) = w9 at SB TB WB VA H K HB ⊢
          refine (rvwvalue_any H.out HOK.out (by omega) u c HV).mono ?_
          rintro e w10 ⟨rfl, b10⟩
          replace SB := Lib.hid (upQ SB.out b10)
          replace TB := Lib.hid (upQ TB.out b10)
          replace WB := Lib.hid (upQ WB.out b10)
          replace VA := Lib.hid (upQ VA.out b10)
          replace H := Lib.hid (H.out.later b10)
          replace K := Lib.hid (K.out.later b10)
          replace HB := Lib.hid (below2Z HB.out b10)
          clear b10
          have b11 := bl_newZ w10 (.cells #[.int .i64 va, .int .i64 vb, .int .i64 vc, .string ⟨vs.toArray⟩] 30)
          have VB := newQ w10 (.cells #[.int .i64 va, .int .i64 vb, .int .i64 vc, .string ⟨vs.toArray⟩] 30)
          have hVB : w.heap.size ≤ w10.heap.size := HB.out.size
          replace SB := Lib.hid (upQ SB.out b11)
          replace TB := Lib.hid (upQ TB.out b11)
          replace WB := Lib.hid (upQ WB.out b11)
          replace VA := Lib.hid (upQ VA.out b11)
          replace H := Lib.hid (H.out.later b11)
          replace K := Lib.hid (K.out.later b11)
          replace HB := Lib.hid (below2Z HB.out b11)
          clear b11
          replace VB := Lib.hid VB
          go_upto_region 6 with fail
          generalize w10.alloc (.cells #[.int .i64 va, .int .i64 vb, .int .i64 vc, .string ⟨vs.toArray⟩] 30) = w12 at SB TB WB VA VB H K HB ⊢
          have e1 := val_eql_self va vb vc vs
          have hgd : Tryz.prog.eqGuardType Tryz.prog.depth 30 = false := by kernel_rfl
          have e2 := bool_eql r
          obtain ⟨BS, hBS⟩ : ∃ BS : List (Nat × List Value), BS = [(w.heap.size, [x, y]), (w.heap.size + 1, [p, q]), (w.heap.size + 1 + 1, [.string ⟨u.toArray⟩, .string ⟨c.toArray⟩]), (w7.heap.size, [.int .i64 va, .int .i64 vb, .int .i64 vc, .string ⟨vs.toArray⟩]), (w10.heap.size, [.int .i64 va, .int .i64 vb, .int .i64 vc, .string ⟨vs.toArray⟩])] := ⟨_, rfl⟩
          have D0 := Lib.hid (show heldB w12 BS from by rw [hBS]; exact heldB_cons (cellsAt_block SB.out) (heldB_cons (cellsAt_block TB.out) (heldB_cons (cellsAt_block WB.out) (heldB_cons (cellsAt_block VA.out) (heldB_cons (cellsAt_block VB.out) (heldB_nil _))))))
          have hq0 : ∀ X, heldB X BS → X.cell? ⟨w.heap.size, 0, none⟩ = some (x) := fun X hx => heldB_get (vs := [x, y]) hx (by rw [hBS]; simp) rfl
          have hq1 : ∀ X, heldB X BS → X.cell? ⟨w.heap.size, 1, none⟩ = some (y) := fun X hx => heldB_get (vs := [x, y]) hx (by rw [hBS]; simp) rfl
          have hq2 : ∀ X, heldB X BS → X.cell? ⟨w.heap.size + 1, 0, none⟩ = some (p) := fun X hx => heldB_get (vs := [p, q]) hx (by rw [hBS]; simp) rfl
          have hq3 : ∀ X, heldB X BS → X.cell? ⟨w.heap.size + 1, 1, none⟩ = some (q) := fun X hx => heldB_get (vs := [p, q]) hx (by rw [hBS]; simp) rfl
          have hq4 : ∀ X, heldB X BS → X.cell? ⟨w.heap.size + 1 + 1, 0, none⟩ = some (.string ⟨u.toArray⟩) := fun X hx => heldB_get (vs := [.string ⟨u.toArray⟩, .string ⟨c.toArray⟩]) hx (by rw [hBS]; simp) rfl
          have hq5 : ∀ X, heldB X BS → X.cell? ⟨w.heap.size + 1 + 1, 1, none⟩ = some (.string ⟨c.toArray⟩) := fun X hx => heldB_get (vs := [.string ⟨u.toArray⟩, .string ⟨c.toArray⟩]) hx (by rw [hBS]; simp) rfl
          have hq6 : ∀ X, heldB X BS → X.cell? ⟨w7.heap.size, 0, none⟩ = some (.int .i64 va) := fun X hx => heldB_get (vs := [.int .i64 va, .int .i64 vb, .int .i64 vc, .string ⟨vs.toArray⟩]) hx (by rw [hBS]; simp) rfl
          have hq7 : ∀ X, heldB X BS → X.cell? ⟨w7.heap.size, 1, none⟩ = some (.int .i64 vb) := fun X hx => heldB_get (vs := [.int .i64 va, .int .i64 vb, .int .i64 vc, .string ⟨vs.toArray⟩]) hx (by rw [hBS]; simp) rfl
          have hq8 : ∀ X, heldB X BS → X.cell? ⟨w7.heap.size, 2, none⟩ = some (.int .i64 vc) := fun X hx => heldB_get (vs := [.int .i64 va, .int .i64 vb, .int .i64 vc, .string ⟨vs.toArray⟩]) hx (by rw [hBS]; simp) rfl
          have hq9 : ∀ X, heldB X BS → X.cell? ⟨w7.heap.size, 3, none⟩ = some (.string ⟨vs.toArray⟩) := fun X hx => heldB_get (vs := [.int .i64 va, .int .i64 vb, .int .i64 vc, .string ⟨vs.toArray⟩]) hx (by rw [hBS]; simp) rfl
          have hq10 : ∀ X, heldB X BS → X.cell? ⟨w10.heap.size, 0, none⟩ = some (.int .i64 va) := fun X hx => heldB_get (vs := [.int .i64 va, .int .i64 vb, .int .i64 vc, .string ⟨vs.toArray⟩]) hx (by rw [hBS]; simp) rfl
          have hq11 : ∀ X, heldB X BS → X.cell? ⟨w10.heap.size, 1, none⟩ = some (.int .i64 vb) := fun X hx => heldB_get (vs := [.int .i64 va, .int .i64 vb, .int .i64 vc, .string ⟨vs.toArray⟩]) hx (by rw [hBS]; simp) rfl
          have hq12 : ∀ X, heldB X BS → X.cell? ⟨w10.heap.size, 2, none⟩ = some (.int .i64 vc) := fun X hx => heldB_get (vs := [.int .i64 va, .int .i64 vb, .int .i64 vc, .string ⟨vs.toArray⟩]) hx (by rw [hBS]; simp) rfl
          have hq13 : ∀ X, heldB X BS → X.cell? ⟨w10.heap.size, 3, none⟩ = some (.string ⟨vs.toArray⟩) := fun X hx => heldB_get (vs := [.int .i64 va, .int .i64 vb, .int .i64 vc, .string ⟨vs.toArray⟩]) hx (by rw [hBS]; simp) rfl
          clear hBS
          have K0 : Hid (Below w12.heap.size w12 w12.drew) := Lib.hid (Below.refl _ _).drew
          refine wp_region_held_drew (S := (fun X => heldB X BS)) (by kernel_rfl) ?_ (fun hHeld => ?_)
          · exact heldB_up K0.out D0.out
          generalize w12.drew = z0 at K0 hHeld ⊢
          refine wpAnyH_take (i := 0) (oi := { dst := some 50, op := Op.load 30 (Operand.tmp 9), type := 30, pos := "law.go:37", after := #[], guard := none }) (v := ?_) rfl (by as_aux_lemma => kernel_rfl) (by as_aux_lemma => kernel_rfl) (by as_aux_lemma => kernel_rfl) (fun _ _ _ h => h) (Or.inl ⟨by rfl, ?_⟩) (by assumption) ?_
          rotate_left
          · intro w' hSw
            try dsimp only at hSw
            go_simp
            try with_reducible rfl
          try simp only [Act.put, List.setIfInBounds_toArray, List.set_cons_zero, List.set_cons_succ]
          refine wpAnyH_take (i := 1) (oi := { dst := some 51, op := Op.load 30 (Operand.tmp 11), type := 30, pos := "law.go:37", after := #[], guard := none }) (v := ?_) rfl (by as_aux_lemma => kernel_rfl) (by as_aux_lemma => kernel_rfl) (by as_aux_lemma => kernel_rfl) (fun _ _ _ h => h) (Or.inl ⟨by rfl, ?_⟩) (by assumption) ?_
          rotate_left
          · intro w' hSw
            try dsimp only at hSw
            go_simp
            try with_reducible rfl
          try simp only [Act.put, List.setIfInBounds_toArray, List.set_cons_zero, List.set_cons_succ]
          refine wpAnyH_take (i := 2) (oi := { dst := some 52, op := Op.binOp BinOp.eql 30 (Operand.tmp 50) (Operand.tmp 51) 30, type := 4, pos := "law.go:37", after := #[{ on := 0, ground := Ground.data }, { on := 1, ground := Ground.data }], guard := none }) (v := ?_) rfl (by as_aux_lemma => kernel_rfl) (by as_aux_lemma => kernel_rfl) (by as_aux_lemma => kernel_rfl) (fun _ _ _ h => h) (Or.inl ⟨by rfl, ?_⟩) (by assumption) ?_
          rotate_left
          · intro w' hSw
            try dsimp only at hSw
            go_simp
            try with_reducible rfl
          try simp only [Act.put, List.setIfInBounds_toArray, List.set_cons_zero, List.set_cons_succ]
          refine wpAnyH_take (i := 3) (oi := { dst := some 53, op := Op.move (Operand.tmp 52), type := 4, pos := "law.go:37", after := #[{ on := 2, ground := Ground.data }], guard := none }) (v := ?_) rfl (by as_aux_lemma => kernel_rfl) (by as_aux_lemma => kernel_rfl) (by as_aux_lemma => kernel_rfl) (fun _ _ _ h => h) (Or.inl ⟨by rfl, ?_⟩) (by assumption) ?_
          rotate_left
          · intro w' hSw
            try dsimp only at hSw
            go_simp
            try with_reducible rfl
          try simp only [Act.put, List.setIfInBounds_toArray, List.set_cons_zero, List.set_cons_succ]
          refine wpAnyH_take (i := 4) (oi := { dst := some 54, op := Op.move (Operand.tmp 10), type := 4, pos := "law.go:37", after := #[{ on := 3, ground := Ground.guard }], guard := some (3, true) }) (v := ?_) rfl (by as_aux_lemma => kernel_rfl) (by as_aux_lemma => kernel_rfl) (by as_aux_lemma => kernel_rfl) (fun _ _ _ h => h) (Or.inl ⟨by rfl, ?_⟩) (by assumption) ?_
          rotate_left
          · intro w' hSw
            try dsimp only at hSw
            go_simp
            try with_reducible rfl
          try simp only [Act.put, List.setIfInBounds_toArray, List.set_cons_zero, List.set_cons_succ]
          refine wpAnyH_take (i := 5) (oi := { dst := some 55, op := Op.move (Operand.tmp 12), type := 4, pos := "law.go:37", after := #[{ on := 3, ground := Ground.guard }], guard := some (3, true) }) (v := ?_) rfl (by as_aux_lemma => kernel_rfl) (by as_aux_lemma => kernel_rfl) (by as_aux_lemma => kernel_rfl) (fun _ _ _ h => h) (Or.inl ⟨by rfl, ?_⟩) (by assumption) ?_
          rotate_left
          · intro w' hSw
            try dsimp only at hSw
            go_simp
            try with_reducible rfl
          try simp only [Act.put, List.setIfInBounds_toArray, List.set_cons_zero, List.set_cons_succ]
          refine wpAnyH_take (i := 6) (oi := { dst := some 56, op := Op.binOp BinOp.eql 4 (Operand.tmp 54) (Operand.tmp 55) 4, type := 4, pos := "law.go:37", after := #[{ on := 4, ground := Ground.data }, { on := 5, ground := Ground.data }, { on := 3, ground := Ground.guard }], guard := some (3, true) }) (v := ?_) rfl (by as_aux_lemma => kernel_rfl) (by as_aux_lemma => kernel_rfl) (by as_aux_lemma => kernel_rfl) (fun _ _ _ h => h) (Or.inl ⟨by rfl, ?_⟩) (by assumption) ?_
          rotate_left
          · intro w' hSw
            try dsimp only at hSw
            go_simp
            try with_reducible rfl
          try simp only [Act.put, List.setIfInBounds_toArray, List.set_cons_zero, List.set_cons_succ]
          refine wpAnyH_take (i := 7) (oi := { dst := some 57, op := Op.pick (Operand.tmp 53) (Operand.tmp 56) (Operand.const (Value.bool false)), type := 4, pos := "law.go:37", after := #[{ on := 3, ground := Ground.data }, { on := 6, ground := Ground.data }], guard := none }) (v := ?_) rfl (by as_aux_lemma => kernel_rfl) (by as_aux_lemma => kernel_rfl) (by as_aux_lemma => kernel_rfl) (fun _ _ _ h => h) (Or.inl ⟨by rfl, ?_⟩) (by assumption) ?_
          rotate_left
          · intro w' hSw
            try dsimp only at hSw
            go_simp
            try with_reducible rfl
          try simp only [Act.put, List.setIfInBounds_toArray, List.set_cons_zero, List.set_cons_succ]
          refine wpAnyH_take (i := 8) (oi := { dst := some 58, op := Op.move (Operand.tmp 57), type := 4, pos := "law.go:37", after := #[{ on := 7, ground := Ground.data }, { on := 3, ground := Ground.chain }], guard := none }) (v := ?_) rfl (by as_aux_lemma => kernel_rfl) (by as_aux_lemma => kernel_rfl) (by as_aux_lemma => kernel_rfl) (fun _ _ _ h => h) (Or.inl ⟨by rfl, ?_⟩) (by assumption) ?_
          rotate_left
          · intro w' hSw
            try dsimp only at hSw
            go_simp
            try with_reducible rfl
          try simp only [Act.put, List.setIfInBounds_toArray, List.set_cons_zero, List.set_cons_succ]
          refine wpAnyH_take (i := 9) (oi := { dst := some 59, op := Op.load 25 (Operand.tmp 3), type := 25, pos := "law.go:37", after := #[{ on := 8, ground := Ground.guard }], guard := some (8, true) }) (v := ?_) rfl (by as_aux_lemma => kernel_rfl) (by as_aux_lemma => kernel_rfl) (by as_aux_lemma => kernel_rfl) (fun _ _ _ h => h) (Or.inl ⟨by rfl, ?_⟩) (by assumption) ?_
          rotate_left
          · intro w' hSw
            try dsimp only at hSw
            go_simp
            try with_reducible rfl
          try simp only [Act.put, List.setIfInBounds_toArray, List.set_cons_zero, List.set_cons_succ]
          refine wpAnyH_take (i := 10) (oi := { dst := some 60, op := Op.move (Operand.tmp 7), type := 9, pos := "law.go:37", after := #[{ on := 8, ground := Ground.guard }], guard := some (8, true) }) (v := ?_) rfl (by as_aux_lemma => kernel_rfl) (by as_aux_lemma => kernel_rfl) (by as_aux_lemma => kernel_rfl) (fun _ _ _ h => h) (Or.inl ⟨by rfl, ?_⟩) (by assumption) ?_
          rotate_left
          · intro w' hSw
            try dsimp only at hSw
            go_simp
            try with_reducible rfl
          try simp only [Act.put, List.setIfInBounds_toArray, List.set_cons_zero, List.set_cons_succ]
          refine wpAnyH_take (i := 12) (oi := { dst := some 62, op := Op.load 25 (Operand.tmp 3), type := 25, pos := "law.go:37", after := #[{ on := 8, ground := Ground.guard }], guard := some (8, true) }) (v := ?_) rfl (by as_aux_lemma => kernel_rfl) (by as_aux_lemma => kernel_rfl) (by as_aux_lemma => kernel_rfl) (fun _ _ _ h => h) (Or.inl ⟨by rfl, ?_⟩) (by assumption) ?_
          rotate_left
          · intro w' hSw
            try dsimp only at hSw
            go_simp
            try with_reducible rfl
          try simp only [Act.put, List.setIfInBounds_toArray, List.set_cons_zero, List.set_cons_succ]
          refine wpAnyH_take (i := 13) (oi := { dst := some 63, op := Op.move (Operand.tmp 7), type := 9, pos := "law.go:37", after := #[{ on := 8, ground := Ground.guard }], guard := some (8, true) }) (v := ?_) rfl (by as_aux_lemma => kernel_rfl) (by as_aux_lemma => kernel_rfl) (by as_aux_lemma => kernel_rfl) (fun _ _ _ h => h) (Or.inl ⟨by rfl, ?_⟩) (by assumption) ?_
          rotate_left
          · intro w' hSw
            try dsimp only at hSw
            go_simp
            try with_reducible rfl
          try simp only [Act.put, List.setIfInBounds_toArray, List.set_cons_zero, List.set_cons_succ]
          refine wpAnyH_ready (rs := [11]) (by as_aux_lemma => kernel_rfl) (by simp) ?_
          refine AllReadyH.cons (o := { dst := some 61, op := Op.call { callee := Callee.value (Operand.func 18), args := #[Operand.tmp 59, Operand.tmp 60], argTypes := #[25, 9] }, type := 34, pos := "law.go:37", after := #[{ on := 9, ground := Ground.data }, { on := 10, ground := Ground.data }, { on := 8, ground := Ground.chain }, { on := 8, ground := Ground.guard }], guard := some (8, true) }) rfl (fun Kx hK => ?_) AllReadyH.nil
          go_simp
          refine (vwof_any (H.out.later K0.out) HOK.out (by omega) u).mono ?_
          rintro e z2001 ⟨vA1, rfl, hA1, bz2001⟩
          have K2001 := Lib.hid (below2Z K0.out bz2001)
          have D2001 := Lib.hid (heldB_up K2001.out D0.out)
          have A1 := Lib.hid hA1.tab
          clear hA1
          clear bz2001
          go_wp2_with fail
          refine hK.out _ _ ?_ (fun hHeld2 => ?_)
          · exact D2001.out
          clear hK Kx hHeld
          have hHeld := hHeld2
          clear hHeld2
          try simp only [Act.put, List.setIfInBounds_toArray, List.set_cons_zero, List.set_cons_succ]
          refine wpAnyH_ready (rs := [14]) (by as_aux_lemma => kernel_rfl) (by simp) ?_
          refine AllReadyH.cons (o := { dst := some 64, op := Op.call { callee := Callee.value (Operand.func 19), args := #[Operand.tmp 62, Operand.tmp 63], argTypes := #[25, 9] }, type := 34, pos := "law.go:37", after := #[{ on := 12, ground := Ground.data }, { on := 13, ground := Ground.data }, { on := 11, ground := Ground.chain }, { on := 8, ground := Ground.guard }], guard := some (8, true) }) rfl (fun Kx hK => ?_) AllReadyH.nil
          go_simp
          refine (rvwof_any (H.out.later K2001.out) HOK.out (by omega) u).mono ?_
          rintro e z2002 ⟨vA2, rfl, hA2, bz2002⟩
          have K2002 := Lib.hid (below2Z K2001.out bz2002)
          have D2002 := Lib.hid (heldB_up K2002.out D0.out)
          replace A1 := Lib.hid (Tab.later A1.out bz2002)
          have A2 := Lib.hid hA2
          clear hA2
          clear bz2002
          go_wp2_with fail
          refine hK.out _ _ ?_ (fun hHeld2 => ?_)
          · exact D2002.out
          clear hK Kx hHeld
          have hHeld := hHeld2
          clear hHeld2
          try simp only [Act.put, List.setIfInBounds_toArray, List.set_cons_zero, List.set_cons_succ]
          refine wpAnyH_ready (rs := [15]) (by as_aux_lemma => kernel_rfl) (by simp) ?_
          refine AllReadyH.cons (o := { dst := some 65, op := Op.call { callee := Callee.value (Operand.func 17), args := #[Operand.tmp 61, Operand.tmp 64], argTypes := #[34, 34] }, type := 4, pos := "law.go:37", after := #[{ on := 11, ground := Ground.data }, { on := 14, ground := Ground.data }, { on := 14, ground := Ground.chain }, { on := 8, ground := Ground.guard }], guard := some (8, true) }) rfl (fun Kx hK => ?_) AllReadyH.nil
          go_simp
          refine (tsame_eq A1.out A2.out (Lib.hid (tSame_iff.2 rfl))).mono ?_
          rintro e z2003 ⟨rfl, bz2003⟩
          have K2003 := Lib.hid (below2Z K2002.out bz2003)
          have D2003 := Lib.hid (heldB_up K2003.out D0.out)
          replace A1 := Lib.hid (Tab.later A1.out bz2003)
          replace A2 := Lib.hid (Tab.later A2.out bz2003)
          clear bz2003
          go_wp2_with fail
          refine hK.out _ _ ?_ (fun hHeld2 => ?_)
          · exact D2003.out
          clear hK Kx hHeld
          have hHeld := hHeld2
          clear hHeld2
          try simp only [Act.put, List.setIfInBounds_toArray, List.set_cons_zero, List.set_cons_succ]
          refine wpAnyH_take (i := 16) (oi := { dst := some 66, op := Op.pick (Operand.tmp 58) (Operand.tmp 65) (Operand.const (Value.bool false)), type := 4, pos := "law.go:37", after := #[{ on := 8, ground := Ground.data }, { on := 15, ground := Ground.data }], guard := none }) (v := ?_) rfl (by as_aux_lemma => kernel_rfl) (by as_aux_lemma => kernel_rfl) (by as_aux_lemma => kernel_rfl) (fun _ _ _ h => h) (Or.inl ⟨by rfl, ?_⟩) (by assumption) ?_
          rotate_left
          · intro w' hSw
            try dsimp only at hSw
            go_simp
            try with_reducible rfl
          try simp only [Act.put, List.setIfInBounds_toArray, List.set_cons_zero, List.set_cons_succ]
          refine wpAnyH_take (i := 17) (oi := { dst := some 67, op := Op.move (Operand.tmp 66), type := 4, pos := "law.go:37", after := #[{ on := 16, ground := Ground.data }, { on := 15, ground := Ground.chain }], guard := none }) (v := ?_) rfl (by as_aux_lemma => kernel_rfl) (by as_aux_lemma => kernel_rfl) (by as_aux_lemma => kernel_rfl) (fun _ _ _ h => h) (Or.inl ⟨by rfl, ?_⟩) (by assumption) ?_
          rotate_left
          · intro w' hSw
            try dsimp only at hSw
            go_simp
            try with_reducible rfl
          try simp only [Act.put, List.setIfInBounds_toArray, List.set_cons_zero, List.set_cons_succ]
          refine wpAnyH_take (i := 18) (oi := { dst := some 68, op := Op.load 25 (Operand.tmp 3), type := 25, pos := "law.go:37", after := #[{ on := 17, ground := Ground.guard }], guard := some (17, true) }) (v := ?_) rfl (by as_aux_lemma => kernel_rfl) (by as_aux_lemma => kernel_rfl) (by as_aux_lemma => kernel_rfl) (fun _ _ _ h => h) (Or.inl ⟨by rfl, ?_⟩) (by assumption) ?_
          rotate_left
          · intro w' hSw
            try dsimp only at hSw
            go_simp
            try with_reducible rfl
          try simp only [Act.put, List.setIfInBounds_toArray, List.set_cons_zero, List.set_cons_succ]
          refine wpAnyH_take (i := 19) (oi := { dst := some 69, op := Op.move (Operand.tmp 8), type := 9, pos := "law.go:37", after := #[{ on := 17, ground := Ground.guard }], guard := some (17, true) }) (v := ?_) rfl (by as_aux_lemma => kernel_rfl) (by as_aux_lemma => kernel_rfl) (by as_aux_lemma => kernel_rfl) (fun _ _ _ h => h) (Or.inl ⟨by rfl, ?_⟩) (by assumption) ?_
          rotate_left
          · intro w' hSw
            try dsimp only at hSw
            go_simp
            try with_reducible rfl
          try simp only [Act.put, List.setIfInBounds_toArray, List.set_cons_zero, List.set_cons_succ]
          refine wpAnyH_take (i := 21) (oi := { dst := some 71, op := Op.load 25 (Operand.tmp 3), type := 25, pos := "law.go:37", after := #[{ on := 17, ground := Ground.guard }], guard := some (17, true) }) (v := ?_) rfl (by as_aux_lemma => kernel_rfl) (by as_aux_lemma => kernel_rfl) (by as_aux_lemma => kernel_rfl) (fun _ _ _ h => h) (Or.inl ⟨by rfl, ?_⟩) (by assumption) ?_
          rotate_left
          · intro w' hSw
            try dsimp only at hSw
            go_simp
            try with_reducible rfl
          try simp only [Act.put, List.setIfInBounds_toArray, List.set_cons_zero, List.set_cons_succ]
          refine wpAnyH_take (i := 22) (oi := { dst := some 72, op := Op.move (Operand.tmp 8), type := 9, pos := "law.go:37", after := #[{ on := 17, ground := Ground.guard }], guard := some (17, true) }) (v := ?_) rfl (by as_aux_lemma => kernel_rfl) (by as_aux_lemma => kernel_rfl) (by as_aux_lemma => kernel_rfl) (fun _ _ _ h => h) (Or.inl ⟨by rfl, ?_⟩) (by assumption) ?_
          rotate_left
          · intro w' hSw
            try dsimp only at hSw
            go_simp
            try with_reducible rfl
          try simp only [Act.put, List.setIfInBounds_toArray, List.set_cons_zero, List.set_cons_succ]
          refine wpAnyH_ready (rs := [20]) (by as_aux_lemma => kernel_rfl) (by simp) ?_
          refine AllReadyH.cons (o := { dst := some 70, op := Op.call { callee := Callee.value (Operand.func 21), args := #[Operand.tmp 68, Operand.tmp 69], argTypes := #[25, 9] }, type := 37, pos := "law.go:37", after := #[{ on := 18, ground := Ground.data }, { on := 19, ground := Ground.data }, { on := 17, ground := Ground.chain }, { on := 17, ground := Ground.guard }], guard := some (17, true) }) rfl (fun Kx hK => ?_) AllReadyH.nil
          go_simp
          refine (vwwat_any (H.out.later K2003.out) HOK.out (by omega) c).mono ?_
          rintro e z2004 ⟨vB1, rfl, hB1, bz2004⟩
          have K2004 := Lib.hid (below2Z K2003.out bz2004)
          have D2004 := Lib.hid (heldB_up K2004.out D0.out)
          replace A1 := Lib.hid (Tab.later A1.out bz2004)
          replace A2 := Lib.hid (Tab.later A2.out bz2004)
          have B1 := Lib.hid hB1
          clear hB1
          clear bz2004
          go_wp2_with fail
          refine hK.out _ _ ?_ (fun hHeld2 => ?_)
          · exact D2004.out
          clear hK Kx hHeld
          have hHeld := hHeld2
          clear hHeld2
          try simp only [Act.put, List.setIfInBounds_toArray, List.set_cons_zero, List.set_cons_succ]
          refine wpAnyH_ready (rs := [23]) (by as_aux_lemma => kernel_rfl) (by simp) ?_
          refine AllReadyH.cons (o := { dst := some 73, op := Op.call { callee := Callee.value (Operand.func 22), args := #[Operand.tmp 71, Operand.tmp 72], argTypes := #[25, 9] }, type := 37, pos := "law.go:37", after := #[{ on := 21, ground := Ground.data }, { on := 22, ground := Ground.data }, { on := 20, ground := Ground.chain }, { on := 17, ground := Ground.guard }], guard := some (17, true) }) rfl (fun Kx hK => ?_) AllReadyH.nil
          go_simp
          refine (rvwwat_any (H.out.later K2004.out) HOK.out (by omega) c).mono ?_
          rintro e z2005 ⟨vB2, rfl, hB2, bz2005⟩
          have K2005 := Lib.hid (below2Z K2004.out bz2005)
          have D2005 := Lib.hid (heldB_up K2005.out D0.out)
          replace A1 := Lib.hid (Tab.later A1.out bz2005)
          replace A2 := Lib.hid (Tab.later A2.out bz2005)
          replace B1 := Lib.hid (Texts.later B1.out bz2005)
          have B2 := Lib.hid hB2
          clear hB2
          clear bz2005
          go_wp2_with fail
          refine hK.out _ _ ?_ (fun hHeld2 => ?_)
          · exact D2005.out
          clear hK Kx hHeld
          have hHeld := hHeld2
          clear hHeld2
          try simp only [Act.put, List.setIfInBounds_toArray, List.set_cons_zero, List.set_cons_succ]
          refine wpAnyH_ready (rs := [24]) (by as_aux_lemma => kernel_rfl) (by simp) ?_
          refine AllReadyH.cons (o := { dst := some 74, op := Op.call { callee := Callee.value (Operand.func 20), args := #[Operand.tmp 70, Operand.tmp 73], argTypes := #[37, 37] }, type := 4, pos := "law.go:37", after := #[{ on := 20, ground := Ground.data }, { on := 23, ground := Ground.data }, { on := 23, ground := Ground.chain }, { on := 17, ground := Ground.guard }], guard := some (17, true) }) rfl (fun Kx hK => ?_) AllReadyH.nil
          go_simp
          refine (same_yes B1.out B2.out (by have := vwWat_le s c; omega)).mono ?_
          rintro e z2006 ⟨rfl, bz2006⟩
          have K2006 := Lib.hid (below2Z K2005.out bz2006)
          have D2006 := Lib.hid (heldB_up K2006.out D0.out)
          replace A1 := Lib.hid (Tab.later A1.out bz2006)
          replace A2 := Lib.hid (Tab.later A2.out bz2006)
          replace B1 := Lib.hid (Texts.later B1.out bz2006)
          replace B2 := Lib.hid (Texts.later B2.out bz2006)
          clear bz2006
          go_wp2_with fail
          refine hK.out _ _ ?_ (fun hHeld2 => ?_)
          · exact D2006.out
          clear hK Kx hHeld
          have hHeld := hHeld2
          clear hHeld2
          try simp only [Act.put, List.setIfInBounds_toArray, List.set_cons_zero, List.set_cons_succ]
          refine wpAnyH_take (i := 25) (oi := { dst := some 75, op := Op.pick (Operand.tmp 67) (Operand.tmp 74) (Operand.const (Value.bool false)), type := 4, pos := "law.go:37", after := #[{ on := 17, ground := Ground.data }, { on := 24, ground := Ground.data }], guard := none }) (v := ?_) rfl (by as_aux_lemma => kernel_rfl) (by as_aux_lemma => kernel_rfl) (by as_aux_lemma => kernel_rfl) (fun _ _ _ h => h) (Or.inl ⟨by rfl, ?_⟩) (by assumption) ?_
          rotate_left
          · intro w' hSw
            try dsimp only at hSw
            go_simp
            try with_reducible rfl
          try simp only [Act.put, List.setIfInBounds_toArray, List.set_cons_zero, List.set_cons_succ]
          refine wpAnyH_take (i := 26) (oi := { dst := some 76, op := Op.move (Operand.tmp 75), type := 4, pos := "law.go:37", after := #[{ on := 25, ground := Ground.data }, { on := 24, ground := Ground.chain }], guard := none }) (v := ?_) rfl (by as_aux_lemma => kernel_rfl) (by as_aux_lemma => kernel_rfl) (by as_aux_lemma => kernel_rfl) (fun _ _ _ h => h) (Or.inl ⟨by rfl, ?_⟩) (by assumption) ?_
          rotate_left
          · intro w' hSw
            try dsimp only at hSw
            go_simp
            try with_reducible rfl
          try simp only [Act.put, List.setIfInBounds_toArray, List.set_cons_zero, List.set_cons_succ]
          refine wpAnyH_take (i := 27) (oi := { dst := some 77, op := Op.load 25 (Operand.tmp 3), type := 25, pos := "law.go:37", after := #[{ on := 26, ground := Ground.guard }], guard := some (26, true) }) (v := ?_) rfl (by as_aux_lemma => kernel_rfl) (by as_aux_lemma => kernel_rfl) (by as_aux_lemma => kernel_rfl) (fun _ _ _ h => h) (Or.inl ⟨by rfl, ?_⟩) (by assumption) ?_
          rotate_left
          · intro w' hSw
            try dsimp only at hSw
            go_simp
            try with_reducible rfl
          try simp only [Act.put, List.setIfInBounds_toArray, List.set_cons_zero, List.set_cons_succ]
          refine wpAnyH_take (i := 28) (oi := { dst := some 78, op := Op.load 25 (Operand.tmp 4), type := 25, pos := "law.go:37", after := #[{ on := 26, ground := Ground.guard }], guard := some (26, true) }) (v := ?_) rfl (by as_aux_lemma => kernel_rfl) (by as_aux_lemma => kernel_rfl) (by as_aux_lemma => kernel_rfl) (fun _ _ _ h => h) (Or.inl ⟨by rfl, ?_⟩) (by assumption) ?_
          rotate_left
          · intro w' hSw
            try dsimp only at hSw
            go_simp
            try with_reducible rfl
          try simp only [Act.put, List.setIfInBounds_toArray, List.set_cons_zero, List.set_cons_succ]
          refine wpAnyH_take (i := 29) (oi := { dst := some 79, op := Op.move (Operand.tmp 7), type := 9, pos := "law.go:37", after := #[{ on := 26, ground := Ground.guard }], guard := some (26, true) }) (v := ?_) rfl (by as_aux_lemma => kernel_rfl) (by as_aux_lemma => kernel_rfl) (by as_aux_lemma => kernel_rfl) (fun _ _ _ h => h) (Or.inl ⟨by rfl, ?_⟩) (by assumption) ?_
          rotate_left
          · intro w' hSw
            try dsimp only at hSw
            go_simp
            try with_reducible rfl
          try simp only [Act.put, List.setIfInBounds_toArray, List.set_cons_zero, List.set_cons_succ]
          refine wpAnyH_take (i := 31) (oi := { dst := some 81, op := Op.load 25 (Operand.tmp 3), type := 25, pos := "law.go:37", after := #[{ on := 26, ground := Ground.guard }], guard := some (26, true) }) (v := ?_) rfl (by as_aux_lemma => kernel_rfl) (by as_aux_lemma => kernel_rfl) (by as_aux_lemma => kernel_rfl) (fun _ _ _ h => h) (Or.inl ⟨by rfl, ?_⟩) (by assumption) ?_
          rotate_left
          · intro w' hSw
            try dsimp only at hSw
            go_simp
            try with_reducible rfl
          try simp only [Act.put, List.setIfInBounds_toArray, List.set_cons_zero, List.set_cons_succ]
          refine wpAnyH_take (i := 32) (oi := { dst := some 82, op := Op.load 25 (Operand.tmp 4), type := 25, pos := "law.go:37", after := #[{ on := 26, ground := Ground.guard }], guard := some (26, true) }) (v := ?_) rfl (by as_aux_lemma => kernel_rfl) (by as_aux_lemma => kernel_rfl) (by as_aux_lemma => kernel_rfl) (fun _ _ _ h => h) (Or.inl ⟨by rfl, ?_⟩) (by assumption) ?_
          rotate_left
          · intro w' hSw
            try dsimp only at hSw
            go_simp
            try with_reducible rfl
          try simp only [Act.put, List.setIfInBounds_toArray, List.set_cons_zero, List.set_cons_succ]
          refine wpAnyH_take (i := 33) (oi := { dst := some 83, op := Op.move (Operand.tmp 7), type := 9, pos := "law.go:37", after := #[{ on := 26, ground := Ground.guard }], guard := some (26, true) }) (v := ?_) rfl (by as_aux_lemma => kernel_rfl) (by as_aux_lemma => kernel_rfl) (by as_aux_lemma => kernel_rfl) (fun _ _ _ h => h) (Or.inl ⟨by rfl, ?_⟩) (by assumption) ?_
          rotate_left
          · intro w' hSw
            try dsimp only at hSw
            go_simp
            try with_reducible rfl
          try simp only [Act.put, List.setIfInBounds_toArray, List.set_cons_zero, List.set_cons_succ]
          refine wpAnyH_ready (rs := [30]) (by as_aux_lemma => kernel_rfl) (by simp) ?_
          refine AllReadyH.cons (o := { dst := some 80, op := Op.call { callee := Callee.value (Operand.func 24), args := #[Operand.tmp 77, Operand.tmp 78, Operand.tmp 79], argTypes := #[25, 25, 9] }, type := 40, pos := "law.go:37", after := #[{ on := 27, ground := Ground.data }, { on := 28, ground := Ground.data }, { on := 29, ground := Ground.data }, { on := 26, ground := Ground.chain }, { on := 26, ground := Ground.guard }], guard := some (26, true) }) rfl (fun Kx hK => ?_) AllReadyH.nil
          go_simp
          refine (vwbetween_any (H.out.later K2006.out) (K.out.later K2006.out) HOK.out KOK.out (by omega) (by omega) u).mono ?_
          rintro e z2007 ⟨vC1, rfl, hC1, bz2007⟩
          have K2007 := Lib.hid (below2Z K2006.out bz2007)
          have D2007 := Lib.hid (heldB_up K2007.out D0.out)
          replace A1 := Lib.hid (Tab.later A1.out bz2007)
          replace A2 := Lib.hid (Tab.later A2.out bz2007)
          replace B1 := Lib.hid (Texts.later B1.out bz2007)
          replace B2 := Lib.hid (Texts.later B2.out bz2007)
          have C1 := Lib.hid hC1
          clear hC1
          clear bz2007
          go_wp2_with fail
          refine hK.out _ _ ?_ (fun hHeld2 => ?_)
          · exact D2007.out
          clear hK Kx hHeld
          have hHeld := hHeld2
          clear hHeld2
          try simp only [Act.put, List.setIfInBounds_toArray, List.set_cons_zero, List.set_cons_succ]
          refine wpAnyH_ready (rs := [34]) (by as_aux_lemma => kernel_rfl) (by simp) ?_
          refine AllReadyH.cons (o := { dst := some 84, op := Op.call { callee := Callee.value (Operand.func 25), args := #[Operand.tmp 81, Operand.tmp 82, Operand.tmp 83], argTypes := #[25, 25, 9] }, type := 40, pos := "law.go:37", after := #[{ on := 31, ground := Ground.data }, { on := 32, ground := Ground.data }, { on := 33, ground := Ground.data }, { on := 30, ground := Ground.chain }, { on := 26, ground := Ground.guard }], guard := some (26, true) }) rfl (fun Kx hK => ?_) AllReadyH.nil
          go_simp
          refine (rvwbetween_any (H.out.later K2007.out) (K.out.later K2007.out) HOK.out KOK.out (by omega) (by omega) u).mono ?_
          rintro e z2008 ⟨vC2, rfl, hC2, bz2008⟩
          have K2008 := Lib.hid (below2Z K2007.out bz2008)
          have D2008 := Lib.hid (heldB_up K2008.out D0.out)
          replace A1 := Lib.hid (Tab.later A1.out bz2008)
          replace A2 := Lib.hid (Tab.later A2.out bz2008)
          replace B1 := Lib.hid (Texts.later B1.out bz2008)
          replace B2 := Lib.hid (Texts.later B2.out bz2008)
          replace C1 := Lib.hid (Chgs.later C1.out bz2008)
          have C2 := Lib.hid hC2
          clear hC2
          clear bz2008
          go_wp2_with fail
          refine hK.out _ _ ?_ (fun hHeld2 => ?_)
          · exact D2008.out
          clear hK Kx hHeld
          have hHeld := hHeld2
          clear hHeld2
          try simp only [Act.put, List.setIfInBounds_toArray, List.set_cons_zero, List.set_cons_succ]
          refine wpAnyH_ready (rs := [35]) (by as_aux_lemma => kernel_rfl) (by simp) ?_
          refine AllReadyH.cons (o := { dst := some 85, op := Op.call { callee := Callee.value (Operand.func 23), args := #[Operand.tmp 80, Operand.tmp 84], argTypes := #[40, 40] }, type := 4, pos := "law.go:37", after := #[{ on := 30, ground := Ground.data }, { on := 34, ground := Ground.data }, { on := 34, ground := Ground.chain }, { on := 26, ground := Ground.guard }], guard := some (26, true) }) rfl (fun Kx hK => ?_) AllReadyH.nil
          go_simp
          refine (csame_yes C1.out C2.out).mono ?_
          rintro e z2009 ⟨rfl, bz2009⟩
          have K2009 := Lib.hid (below2Z K2008.out bz2009)
          have D2009 := Lib.hid (heldB_up K2009.out D0.out)
          replace A1 := Lib.hid (Tab.later A1.out bz2009)
          replace A2 := Lib.hid (Tab.later A2.out bz2009)
          replace B1 := Lib.hid (Texts.later B1.out bz2009)
          replace B2 := Lib.hid (Texts.later B2.out bz2009)
          replace C1 := Lib.hid (Chgs.later C1.out bz2009)
          replace C2 := Lib.hid (Chgs.later C2.out bz2009)
          clear bz2009
          go_wp2_with fail
          refine hK.out _ _ ?_ (fun hHeld2 => ?_)
          · exact D2009.out
          clear hK Kx hHeld
          have hHeld := hHeld2
          clear hHeld2
          try simp only [Act.put, List.setIfInBounds_toArray, List.set_cons_zero, List.set_cons_succ]
          refine wpAnyH_take (i := 36) (oi := { dst := some 86, op := Op.pick (Operand.tmp 76) (Operand.tmp 85) (Operand.const (Value.bool false)), type := 4, pos := "law.go:37", after := #[{ on := 26, ground := Ground.data }, { on := 35, ground := Ground.data }], guard := none }) (v := ?_) rfl (by as_aux_lemma => kernel_rfl) (by as_aux_lemma => kernel_rfl) (by as_aux_lemma => kernel_rfl) (fun _ _ _ h => h) (Or.inl ⟨by rfl, ?_⟩) (by assumption) ?_
          rotate_left
          · intro w' hSw
            try dsimp only at hSw
            go_simp
            try with_reducible rfl
          try simp only [Act.put, List.setIfInBounds_toArray, List.set_cons_zero, List.set_cons_succ]
          refine wpAnyH_take (i := 37) (oi := { dst := some 87, op := Op.move (Operand.tmp 86), type := 4, pos := "law.go:37", after := #[{ on := 36, ground := Ground.data }, { on := 35, ground := Ground.chain }], guard := none }) (v := ?_) rfl (by as_aux_lemma => kernel_rfl) (by as_aux_lemma => kernel_rfl) (by as_aux_lemma => kernel_rfl) (fun _ _ _ h => h) (Or.inl ⟨by rfl, ?_⟩) (by assumption) ?_
          rotate_left
          · intro w' hSw
            try dsimp only at hSw
            go_simp
            try with_reducible rfl
          try simp only [Act.put, List.setIfInBounds_toArray, List.set_cons_zero, List.set_cons_succ]
          refine wpAnyH_ready (rs := [38]) (by as_aux_lemma => kernel_rfl) (by simp) ?_
          refine AllReadyH.cons (o := { dst := some 88, op := Op.call { callee := Callee.value (Operand.func 14), args := #[], argTypes := #[] }, type := 4, pos := "law.go:37", after := #[{ on := 37, ground := Ground.chain }, { on := 37, ground := Ground.guard }], guard := some (37, true) }) rfl (fun Kx hK => ?_) AllReadyH.nil
          go_simp
          refine (live15 _).mono ?_
          rintro e z2010 ⟨rfl, bz2010⟩
          have K2010 := Lib.hid (below2Z K2009.out bz2010)
          have D2010 := Lib.hid (heldB_up K2010.out D0.out)
          replace A1 := Lib.hid (Tab.later A1.out bz2010)
          replace A2 := Lib.hid (Tab.later A2.out bz2010)
          replace B1 := Lib.hid (Texts.later B1.out bz2010)
          replace B2 := Lib.hid (Texts.later B2.out bz2010)
          replace C1 := Lib.hid (Chgs.later C1.out bz2010)
          replace C2 := Lib.hid (Chgs.later C2.out bz2010)
          clear bz2010
          go_wp2_with fail
          refine hK.out _ _ ?_ (fun hHeld2 => ?_)
          · exact D2010.out
          clear hK Kx hHeld
          have hHeld := hHeld2
          clear hHeld2
          try simp only [Act.put, List.setIfInBounds_toArray, List.set_cons_zero, List.set_cons_succ]
          refine wpAnyH_take (i := 39) (oi := { dst := some 89, op := Op.pick (Operand.tmp 87) (Operand.tmp 88) (Operand.const (Value.bool false)), type := 4, pos := "law.go:37", after := #[{ on := 37, ground := Ground.data }, { on := 38, ground := Ground.data }], guard := none }) (v := ?_) rfl (by as_aux_lemma => kernel_rfl) (by as_aux_lemma => kernel_rfl) (by as_aux_lemma => kernel_rfl) (fun _ _ _ h => h) (Or.inl ⟨by rfl, ?_⟩) (by assumption) ?_
          rotate_left
          · intro w' hSw
            try dsimp only at hSw
            go_simp
            try with_reducible rfl
          try simp only [Act.put, List.setIfInBounds_toArray, List.set_cons_zero, List.set_cons_succ]
          refine wpAnyH_take (i := 40) (oi := { dst := some 6, op := Op.assign (Operand.tmp 89), type := 4, pos := "law.go:37", after := #[{ on := 39, ground := Ground.data }, { on := 38, ground := Ground.chain }, { on := 0, ground := Ground.phase }, { on := 1, ground := Ground.phase }, { on := 2, ground := Ground.phase }, { on := 3, ground := Ground.phase }, { on := 4, ground := Ground.phase }, { on := 5, ground := Ground.phase }, { on := 6, ground := Ground.phase }, { on := 7, ground := Ground.phase }, { on := 8, ground := Ground.phase }, { on := 9, ground := Ground.phase }, { on := 10, ground := Ground.phase }, { on := 11, ground := Ground.phase }, { on := 12, ground := Ground.phase }, { on := 13, ground := Ground.phase }, { on := 14, ground := Ground.phase }, { on := 15, ground := Ground.phase }, { on := 16, ground := Ground.phase }, { on := 17, ground := Ground.phase }, { on := 18, ground := Ground.phase }, { on := 19, ground := Ground.phase }, { on := 20, ground := Ground.phase }, { on := 21, ground := Ground.phase }, { on := 22, ground := Ground.phase }, { on := 23, ground := Ground.phase }, { on := 24, ground := Ground.phase }, { on := 25, ground := Ground.phase }, { on := 26, ground := Ground.phase }, { on := 27, ground := Ground.phase }, { on := 28, ground := Ground.phase }, { on := 29, ground := Ground.phase }, { on := 30, ground := Ground.phase }, { on := 31, ground := Ground.phase }, { on := 32, ground := Ground.phase }, { on := 33, ground := Ground.phase }, { on := 34, ground := Ground.phase }, { on := 35, ground := Ground.phase }, { on := 36, ground := Ground.phase }, { on := 37, ground := Ground.phase }, { on := 38, ground := Ground.phase }, { on := 39, ground := Ground.phase }], guard := none }) (v := ?_) rfl (by as_aux_lemma => kernel_rfl) (by as_aux_lemma => kernel_rfl) (by as_aux_lemma => kernel_rfl) (fun _ _ _ h => h) (Or.inl ⟨by rfl, ?_⟩) (by assumption) ?_
          rotate_left
          · intro w' hSw
            try dsimp only at hSw
            go_simp
            try with_reducible rfl
          try simp only [Act.put, List.setIfInBounds_toArray, List.set_cons_zero, List.set_cons_succ]
          refine wpAnyH_done (by kernel_rfl) ?_ _
          replace HB := Lib.hid (below2Z HB.out K2010.out)
          go_wp2_with fail
          go_ret
          exact ⟨rfl, HB.out⟩

theorem walkViewTells {w : World} {x y p q : Value} {s t : Sta} (h : StAt w x y s) (_ : ∀ r ∈ s.s, SesFit r) (k : StAt w p q t) (_ : ∀ r ∈ t.s, SesFit r) (zs : List (List UInt8)) (hz : zs.length = 2 ∧ ∀ z ∈ zs, z.length ≤ maxLen) :
    Calls Tryz.prog 3 #[.agg #[x, y], .agg #[p, q], .agg (zs.map (fun z => Value.string ⟨z.toArray⟩)).toArray] w fun e w' => e = .returned (.bool true) ∧ Below w.heap.size w w' := by
  match zs, hz with
  | [a, b], _ => exact vtl h k a b

end Go.Proofs.YtphfinlfabklmaaGreat

end

section

/-
  THE FRAME OF THE PROOF OF ViewTells: for every input the law returns true, and each argument reads behind the call as it read before. No condition.
-/
namespace Go.Proofs.YtphfinlfabklmaaGreat.viewTells
open Go.ChangeShapes Go.WideShapes Go.ChangeAt Go.RowKit
open Go.ChangeMaps (open_string shut_string)
set_option linter.unusedVariables false

theorem own : ownKnob Tryz.prog.godebug = none := by kernel_rfl
theorem laidOut : laidOutB Tryz.prog = true := by kernel_rfl

set_option maxRecDepth 100000 in
theorem lifted (os : Os) (started : os.Started) (H : Type) (enc : TypeId × Value → H) :
    ReturnsInHanded {} Tryz.checked os 3 .any (Rows.viewTellsSpec.pre6 enc Tryz.prog Tryz.f3 Rows.viewTellsRow.domain false) (Rows.viewTellsSpec.post enc Tryz.prog Tryz.f3 false true false false) := by
  refine returnsInHanded_of_change (C := Tryz.checked) own started (by kernel_rfl) Tryz.func3
    (ChangeSpec.witness6 (enc := enc) (C := Tryz.checked) false ⟨#[], #[.agg #[.slice none 0 0, .slice none 0 0], .agg #[.slice none 0 0, .slice none 0 0], .agg #[.string ByteArray.empty, .string ByteArray.empty]], []⟩ 8 (by kernel_rfl) (by kernel_rfl) (by kernel_rfl) (by kernel_rfl)) ?_
  intro W base args ds gs before hval0 hW hcnd _
  have hval : ∀ (j : Nat) t v, Tryz.f3.params[j]? = some t → args[j]? = some v → Value.okWide Tryz.prog W .any base t v := hval0
  have hW' := hW
  obtain ⟨p, q, hA0, hV, rfl, hfz, hnd⟩ := hW
  have hA : DataW.TrodAll enc Tryz.prog W 0 (fun _ => true) true Tryz.f3.params.toList args.toList ds p := hA0
  rw [Tryz.params3] at hA hval
  obtain ⟨v0, vs0, d0, ds0, p0, q0, hargs, rfl, rfl, h0, r0⟩ := trodAll_cons hA
  obtain ⟨v1, vs1, d1, ds1, p1, q1, rfl, rfl, rfl, h1, r1⟩ := trodAll_cons r0
  obtain ⟨v2, vs2, d2, ds2, p2, q2, rfl, rfl, rfl, h2, r2⟩ := trodAll_cons r1
  obtain ⟨rfl, rfl, rfl⟩ := trodAll_nil r2
  obtain rfl : args = #[v0, v1, v2] := by cases args; simp_all
  obtain ⟨rfl, rfl⟩ := trodVars_none hV
  have k0 := h0
  have lt0 : ∀ x ∈ p0, x.block < W.heap.size := by obtain ⟨m, hm⟩ := k0; exact DataW.trod_lt m _ _ _ hm
  obtain ⟨x0, y0, l0, rfl, w0, f0⟩ := open_sta (hval 0 25 v0 rfl rfl) h0
  have k1 := h1
  have lt1 : ∀ x ∈ p1, x.block < W.heap.size := by obtain ⟨m, hm⟩ := k1; exact DataW.trod_lt m _ _ _ hm
  obtain ⟨x1, y1, l1, rfl, w1, f1⟩ := open_sta (hval 1 25 v1 rfl rfl) h1
  have k2 := h2
  have lt2 : ∀ x ∈ p2, x.block < W.heap.size := by obtain ⟨m, hm⟩ := k2; exact DataW.trod_lt m _ _ _ hm
  obtain ⟨z2, rfl, w2⟩ := open_strs_array Tryz.underlying26 Tryz.underlying9 (by kernel_rfl) (by kernel_rfl) (hval 2 26 v2 rfl rfl) h2
  clear hA0 hval0
  refine (walkViewTells (w := W) w0 f0 w1 f1 z2 w2).mono fun e W' ⟨he, bel⟩ => ?_
  subst he
  exact ⟨_, rfl, _, _, _, [], _, [], hW', trodAll_mk1 (shut_bool Tryz.underlying4 _), (trodAll_cons_mk (Below.trod laidOut (by kernel_rfl) (of_decide_eq_true (by kernel_rfl)) k0 bel lt0) (trodAll_cons_mk (Below.trod laidOut (by kernel_rfl) (of_decide_eq_true (by kernel_rfl)) k1 bel lt1) (trodAll_cons_mk (Below.trod laidOut (by kernel_rfl) (of_decide_eq_true (by kernel_rfl)) k2 bel lt2) trodAll_mk0))), rfl, bel.frame _, fun h => by cases h⟩

theorem over : Rows.viewTellsRow.holds Tryz.pinned (OpenSpec.ofChange Rows.viewTellsSpec) :=
  OpenClaim.holds_of_wide 3 Tryz.f3 rfl rfl rfl rfl rfl rfl rfl ⟨rfl, rfl, rfl, rfl, rfl⟩ rfl rfl rfl rfl rfl (by kernel_rfl) Tryz.func3 (by kernel_rfl)
    (of_decide_eq_true (by kernel_rfl)) (by unfold Func.isWrapper; first | (rw [if_pos (by decide +kernel)]; kernel_rfl) | (rw [if_neg (by decide +kernel)]; exact ⟨rfl, rfl⟩))
    (fun os started H enc _ => lifted os started H enc)

/-- THE STATEMENT. -/
theorem proved : Rows.ViewTellsSaid := over
#print axioms proved
end Go.Proofs.YtphfinlfabklmaaGreat.viewTells

end
