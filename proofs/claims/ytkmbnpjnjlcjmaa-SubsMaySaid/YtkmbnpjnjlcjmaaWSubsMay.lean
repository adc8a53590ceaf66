/-
  THE WALK OF SubsMay.
-/
import Derived.Test.YtkmbnpjnjlcjmaaSubMov
import Derived.Lib.Hide
import Derived.Deep.RegionHeld
import Derived.Deep.QuietTactic
import Derived.BigQuiet
import Derived.Lib.QuietBelow
import Derived.Deep.DeepCutAuto
import Derived.Deep.CutBlock
namespace Go.Proofs.Ytkmbnpjnjlcjmaa
open Go.RowKit

theorem stB_made (w : World) : StB ((((w.alloc (.cells #[.bool false, .bool false, .bool false, .bool false, .bool false, .bool false, .bool false, .bool false, .bool false, .bool false] 50)).alloc (.cells #[.bool false, .bool false] 51)).alloc (.cells #[.bool false, .bool false] 51)).alloc (.cells #[.bool false, .bool false] 51)) w.heap.size false false false false false false := by
  have up : ∀ {X : World} {b : Nat} {o p : Obj}, X.heap[b]? = some o → (X.alloc p).heap[b]? = some o := fun h => (heap_alloc_old _ _ (Array.getElem?_eq_some_iff.1 h).1).trans h
  have nw : ∀ (X : World) (o : Obj) {b : Nat}, b = X.heap.size → (X.alloc o).heap[b]? = some o := fun X o b h => by rw [h]; exact heap_alloc_new X o
  exact ⟨up (up (up (nw _ _ rfl))), up (up (nw _ _ (by simp))), up (nw _ _ (by simp)), nw _ _ (by simp)⟩

theorem set5 {w : World} {b : Nat} {y0 y1 y2 y3 y4 x0 x1 x2 x3 x4 : Value} {T : TypeId} (h : w.heap[b]? = some (.cells #[y0, y1, y2, y3, y4] T (0, 0))) :
    (((((w.setCell ⟨b, 0, none⟩ x0).setCell ⟨b, 1, none⟩ x1).setCell ⟨b, 2, none⟩ x2).setCell ⟨b, 3, none⟩ x3).setCell ⟨b, 4, none⟩ x4).heap[b]? = some (.cells #[x0, x1, x2, x3, x4] T (0, 0)) :=
  heap_setCell_same _ b 4 _ _ x4 (heap_setCell_same _ b 3 _ _ x3 (heap_setCell_same _ b 2 _ _ x2 (heap_setCell_same _ b 1 _ _ x1 (heap_setCell_same w b 0 _ _ x0 h))))

theorem other5 {w : World} {b c : Nat} {o : Obj} (h : w.heap[b]? = some o) (hne : c ≠ b) (j0 j1 j2 j3 j4 : Nat) (x0 x1 x2 x3 x4 : Value) :
    (((((w.setCell ⟨c, j0, none⟩ x0).setCell ⟨c, j1, none⟩ x1).setCell ⟨c, j2, none⟩ x2).setCell ⟨c, j3, none⟩ x3).setCell ⟨c, j4, none⟩ x4).heap[b]? = some o :=
  heap_set_other (heap_set_other (heap_set_other (heap_set_other (heap_set_other h hne _ _) hne _ _) hne _ _) hne _ _) hne _ _

theorem StB.other5 {w : World} {B c : Nat} {s0 s1 q0 q1 b0 b1 : Bool} (h : StB w B s0 s1 q0 q1 b0 b1) (hc : B + 4 ≤ c) (j0 j1 j2 j3 j4 : Nat) (x0 x1 x2 x3 x4 : Value) :
    StB (((((w.setCell ⟨c, j0, none⟩ x0).setCell ⟨c, j1, none⟩ x1).setCell ⟨c, j2, none⟩ x2).setCell ⟨c, j3, none⟩ x3).setCell ⟨c, j4, none⟩ x4) B s0 s1 q0 q1 b0 b1 :=
  ⟨Go.Proofs.Ytkmbnpjnjlcjmaa.other5 h.it (by omega) _ _ _ _ _ _ _ _ _ _, Go.Proofs.Ytkmbnpjnjlcjmaa.other5 h.ask (by omega) _ _ _ _ _ _ _ _ _ _, Go.Proofs.Ytkmbnpjnjlcjmaa.other5 h.se (by omega) _ _ _ _ _ _ _ _ _ _, Go.Proofs.Ytkmbnpjnjlcjmaa.other5 h.bl (by omega) _ _ _ _ _ _ _ _ _ _⟩

theorem StB.top {w : World} {B : Nat} {s0 s1 q0 q1 b0 b1 : Bool} (h : StB w B s0 s1 q0 q1 b0 b1) : B + 4 ≤ w.heap.size := (Array.getElem?_eq_some_iff.1 h.bl).1

theorem below5 {w0 w : World} {base c : Nat} (h : Below base w0 w) (hc : base ≤ c) (j0 j1 j2 j3 j4 : Nat) (x0 x1 x2 x3 x4 : Value) :
    Below base w0 (((((w.setCell ⟨c, j0, none⟩ x0).setCell ⟨c, j1, none⟩ x1).setCell ⟨c, j2, none⟩ x2).setCell ⟨c, j3, none⟩ x3).setCell ⟨c, j4, none⟩ x4) :=
  ((((h.setCell hc _).setCell hc _).setCell hc _).setCell hc _).setCell hc _

/-- Ten cells, five of them stored anew. -/
theorem ten_lo {w : World} {b : Nat} {y0 y1 y2 y3 y4 y5 y6 y7 y8 y9 x0 x1 x2 x3 x4 : Value} {T : TypeId} (h : w.heap[b]? = some (.cells #[y0, y1, y2, y3, y4, y5, y6, y7, y8, y9] T (0, 0))) :
    (((((w.setCell ⟨b, 0, none⟩ x0).setCell ⟨b, 1, none⟩ x1).setCell ⟨b, 2, none⟩ x2).setCell ⟨b, 3, none⟩ x3).setCell ⟨b, 4, none⟩ x4).heap[b]? = some (.cells #[x0, x1, x2, x3, x4, y5, y6, y7, y8, y9] T (0, 0)) :=
  heap_setCell_same _ b 4 _ _ x4 (heap_setCell_same _ b 3 _ _ x3 (heap_setCell_same _ b 2 _ _ x2 (heap_setCell_same _ b 1 _ _ x1 (heap_setCell_same w b 0 _ _ x0 h))))

theorem ten_hi {w : World} {b : Nat} {y0 y1 y2 y3 y4 y5 y6 y7 y8 y9 x5 x6 x7 x8 x9 : Value} {T : TypeId} (h : w.heap[b]? = some (.cells #[y0, y1, y2, y3, y4, y5, y6, y7, y8, y9] T (0, 0))) :
    (((((w.setCell ⟨b, 5, none⟩ x5).setCell ⟨b, 6, none⟩ x6).setCell ⟨b, 7, none⟩ x7).setCell ⟨b, 8, none⟩ x8).setCell ⟨b, 9, none⟩ x9).heap[b]? = some (.cells #[y0, y1, y2, y3, y4, x5, x6, x7, x8, x9] T (0, 0)) :=
  heap_setCell_same _ b 9 _ _ x9 (heap_setCell_same _ b 8 _ _ x8 (heap_setCell_same _ b 7 _ _ x7 (heap_setCell_same _ b 6 _ _ x6 (heap_setCell_same w b 5 _ _ x5 h))))

set_option maxHeartbeats 800000 in
set_option maxRecDepth 100000 in
theorem submay_1 {w : World} {v : Value} {l : List Mov} (hv : MovsAt w v l) (h60 : ¬ l.length ≤ 60) :
    Calls Try.prog 9 #[v] w fun e w' => e = .returned (.bool true) ∧ Below w.heap.size w w' := by
  have t0 : decide (60 < (l.length : Int)) = true := by rw [decide_eq_true_eq]; omega
  obtain ⟨ao, cap, rfl, hm⟩ := hv.1.open'
  clear hv h60
  go_enter Try.func9, Try.ntmps9
  go_wp2_with fail
  refine (live7 _).mono ?_
  rintro e w1 ⟨rfl, b1⟩
  have HB := Lib.hid b1
  clear b1
  go_wp2_with fail
  go_ret
  exact ⟨rfl, HB.out⟩

theorem keepM {w0 X : World} {bm om k : Nat} {kd : Int} {s0 s1 q0 q1 b0 b1 : Bool} (h : StB X w0.heap.size s0 s1 q0 q1 b0 b1) (hm : X.cell? ⟨bm, om + k * 2 + 1, none⟩ = some (.int .i64 kd)) :
    X.cell? ⟨w0.heap.size, 0, none⟩ = some (.bool s0) ∧ X.cell? ⟨w0.heap.size, 1, none⟩ = some (.bool s1) ∧ X.cell? ⟨w0.heap.size, 2, none⟩ = some (.bool q0) ∧ X.cell? ⟨w0.heap.size, 3, none⟩ = some (.bool q1) ∧ X.cell? ⟨w0.heap.size, 4, none⟩ = some (.bool b0) ∧ X.cell? ⟨w0.heap.size, 5, none⟩ = some (.bool s1) ∧ X.cell? ⟨w0.heap.size, 6, none⟩ = some (.bool s0) ∧ X.cell? ⟨w0.heap.size, 7, none⟩ = some (.bool q1) ∧ X.cell? ⟨w0.heap.size, 8, none⟩ = some (.bool q0) ∧ X.cell? ⟨w0.heap.size, 9, none⟩ = some (.bool b1) ∧ X.cell? ⟨bm, om + k * 2 + 1, none⟩ = some (.int .i64 kd) := by
  obtain ⟨c0, c1, c2, c3, c4, c5, c6, c7, c8, c9⟩ := ten_cells h.it
  exact ⟨c0, c1, c2, c3, c4, c5, c6, c7, c8, c9, hm⟩

set_option maxHeartbeats 64000000 in
set_option maxRecDepth 100000 in
theorem submay_2 {w : World} {v : Value} {l : List Mov} (hv : MovsAt w v l) (h60 : l.length ≤ 60) :
    Calls Try.prog 9 #[v] w fun e w' => e = .returned (.bool true) ∧ Below w.heap.size w w' := by
  have t0 : decide (60 < (l.length : Int)) = false := by rw [decide_eq_false_iff_not]; omega
  have HV := Lib.hid hv.1
  have HK := Lib.hid hv.2
  obtain ⟨ao, cap, rfl, hm⟩ := hv.1.open'
  have FS0 := Lib.hid (stB_made w)
  have FB0 : Hid (Below w.heap.size w ((((w.alloc (.cells #[.bool false, .bool false, .bool false, .bool false, .bool false, .bool false, .bool false, .bool false, .bool false, .bool false] 50)).alloc (.cells #[.bool false, .bool false] 51)).alloc (.cells #[.bool false, .bool false] 51)).alloc (.cells #[.bool false, .bool false] 51))) := Lib.hid (((((Below.refl _ _).alloc (Nat.le_refl _) _).alloc (by simp) _).alloc (by simp; omega) _).alloc (by simp; omega) _)
  clear hv h60
  go_enter Try.func9, Try.ntmps9
  go_wp2_with fail
  go_loopw [7] (fun i wr => ∃ (k : Nat) (s0 s1 q0 q1 b0 b1 : Bool), k ≤ l.length ∧ i = .int .i64 k ∧ Hid (StB wr w.heap.size s0 s1 q0 q1 b0 b1) ∧ Hid (suMay ⟨s0, s1, q0, q1, b0⟩ ⟨s1, s0, q1, q0, b1⟩ = true) ∧ Hid (Below w.heap.size w wr)) (fun i _ => l.length - (intOf i).toNat)
  case atStart => exact ⟨0, false, false, false, false, false, false, by omega, rfl, FS0, rfl, FB0⟩
  case round =>
    clear FS0 FB0
    obtain ⟨k, s0, s1, q0, q1, b0, b1, hk, rfl, FS, FM, FB⟩ := hrel
    by_cases hlt : k < l.length
    · obtain ⟨bm, om, rfl, hc⟩ := HV.out.row FB.out k hlt
      have hkw := HK.out _ (by rw [mgetD hlt]; exact List.getElem_mem hlt : l.getD k Mov.zero ∈ l)
      obtain ⟨⟨ot, kd⟩, hr⟩ : ∃ m, l.getD k Mov.zero = m := ⟨_, rfl⟩
      rw [hr] at hc hkw
      have m0 := hc 0 _ rfl
      have m1 := hc 1 _ rfl
      simp only [Nat.add_zero] at m0
      have hbm : bm < w.heap.size := by
        obtain ⟨b', o', e', hc'⟩ := HV.out.row (Below.refl _ _) k hlt
        rw [Option.some.injEq, Addr.mk.injEq] at e'
        rw [e'.1]
        exact World.block_lt_of_cell? w _ (hc' 0 _ rfl)
      have hnn : (0 : Int) ≤ (k : Int) := by omega
      have hli : (k : Int) < (l.length : Int) := by omega
      have M1 : Hid (∀ X, Below w.heap.size w X → X.cell? ⟨bm, om + k * 2 + 1, none⟩ = some (.int .i64 kd)) := Lib.hid (fun X hX => (hX.cell hbm).trans ((FB.out.cell (p := ⟨bm, om + k * 2 + 1, none⟩) hbm).symm.trans m1))
      clear hr hc
      cases ot with
      | false =>
        obtain ⟨⟨x0, x1, x2, x3, x4⟩, ⟨y0, y1, y2, y3, y4⟩, er, hx⟩ : ∃ x y er, suAct ⟨s0, s1, q0, q1, b0⟩ ⟨s1, s0, q1, q0, b1⟩ kd = (x, y, er) := ⟨_, _, _, rfl⟩
        have HX := Lib.hid hx
        have HA := Lib.hid (sact_eq hkw (Lib.hid hx))
        have HKW := Lib.hid hkw
        clear hx hkw
        try simp only at HA
        go_upto_region 14 with fail
        go_cut [10, 11, 12] (fun p q e wx => ∃ P Q, p = .pointer (some ⟨P, 0, none⟩) ∧ q = .pointer (some ⟨Q, 0, none⟩) ∧ e = .int .i64 er ∧ Hid (wx.heap[P]? = some (.cells #[.bool x0, .bool x1, .bool x2, .bool x3, .bool x4] 49 (0, 0))) ∧ Hid (wx.heap[Q]? = some (.cells #[.bool y0, .bool y1, .bool y2, .bool y3, .bool y4] 49 (0, 0))) ∧ Hid (w.heap.size + 4 ≤ P) ∧ Hid (w.heap.size + 4 ≤ Q) ∧ Hid (StB wx w.heap.size s0 s1 q0 q1 b0 b1) ∧ Hid (Below w.heap.size w wx))
        case first =>
          have FBd : Hid (Below w.heap.size w wr.drew) := Lib.hid FB.out.drew
          have FSd : Hid (StB wr.drew w.heap.size s0 s1 q0 q1 b0 b1) := Lib.hid (FS.out.later (Below.refl _ _).drew)
          clear FB FS m0 m1
          refine wp_region_held_drew (S := (fun X => X.cell? ⟨w.heap.size, 0, none⟩ = some (.bool s0) ∧ X.cell? ⟨w.heap.size, 1, none⟩ = some (.bool s1) ∧ X.cell? ⟨w.heap.size, 2, none⟩ = some (.bool q0) ∧ X.cell? ⟨w.heap.size, 3, none⟩ = some (.bool q1) ∧ X.cell? ⟨w.heap.size, 4, none⟩ = some (.bool b0) ∧ X.cell? ⟨w.heap.size, 5, none⟩ = some (.bool s1) ∧ X.cell? ⟨w.heap.size, 6, none⟩ = some (.bool s0) ∧ X.cell? ⟨w.heap.size, 7, none⟩ = some (.bool q1) ∧ X.cell? ⟨w.heap.size, 8, none⟩ = some (.bool q0) ∧ X.cell? ⟨w.heap.size, 9, none⟩ = some (.bool b1) ∧ X.cell? ⟨bm, om + k * 2 + 1, none⟩ = some (.int .i64 kd))) (by as_aux_lemma => kernel_rfl) ?_ (fun hHeld => ?_)
          · exact keepM FSd.out (M1.out _ FBd.out)
          generalize wr.drew = X0 at FBd FSd hHeld ⊢
          have FB := FBd
          have FS := FSd
          clear FBd FSd
          refine wpAnyH_take (i := 0) (oi := { dst := some 32, op := Op.move (Operand.tmp 8), type := 3, pos := "law.go:54", after := #[], guard := none }) (v := ?_) rfl (by as_aux_lemma => kernel_rfl) (by as_aux_lemma => kernel_rfl) (by as_aux_lemma => kernel_rfl) (fun _ _ _ h => h) (Or.inl ⟨by rfl, ?_⟩) (by assumption) ?_
          rotate_left
          · as_aux_lemma =>
              intro w' hSw
              try dsimp only at hSw
              go_simp
              try with_reducible rfl
          try simp only [Act.put, List.setIfInBounds_toArray, List.set_cons_zero, List.set_cons_succ]
          refine wpAnyH_take (i := 1) (oi := { dst := some 33, op := Op.indexAddr 50 (Operand.tmp 3) (Operand.tmp 32), type := 0, pos := "law.go:54", after := #[{ on := 0, ground := Ground.data }], guard := none }) (v := ?_) rfl (by as_aux_lemma => kernel_rfl) (by as_aux_lemma => kernel_rfl) (by as_aux_lemma => kernel_rfl) (fun _ _ _ h => h) (Or.inl ⟨by rfl, ?_⟩) (by assumption) ?_
          rotate_left
          · as_aux_lemma =>
              intro w' hSw
              try dsimp only at hSw
              go_simp
              try with_reducible rfl
          try simp only [Act.put, List.setIfInBounds_toArray, List.set_cons_zero, List.set_cons_succ]
          refine wpAnyH_take (i := 2) (oi := { dst := some 34, op := Op.load 49 (Operand.tmp 33), type := 49, pos := "law.go:54", after := #[{ on := 1, ground := Ground.data }], guard := none }) (v := ?_) rfl (by as_aux_lemma => kernel_rfl) (by as_aux_lemma => kernel_rfl) (by as_aux_lemma => kernel_rfl) (fun _ _ _ h => h) (Or.inl ⟨by rfl, ?_⟩) (by assumption) ?_
          rotate_left
          · as_aux_lemma =>
              intro w' hSw
              try dsimp only at hSw
              go_simp
              try with_reducible rfl
          try simp only [Act.put, List.setIfInBounds_toArray, List.set_cons_zero, List.set_cons_succ]
          refine wpAnyH_take (i := 3) (oi := { dst := some 35, op := Op.move (Operand.tmp 9), type := 3, pos := "law.go:54", after := #[], guard := none }) (v := ?_) rfl (by as_aux_lemma => kernel_rfl) (by as_aux_lemma => kernel_rfl) (by as_aux_lemma => kernel_rfl) (fun _ _ _ h => h) (Or.inl ⟨by rfl, ?_⟩) (by assumption) ?_
          rotate_left
          · as_aux_lemma =>
              intro w' hSw
              try dsimp only at hSw
              go_simp
              try with_reducible rfl
          try simp only [Act.put, List.setIfInBounds_toArray, List.set_cons_zero, List.set_cons_succ]
          refine wpAnyH_take (i := 4) (oi := { dst := some 36, op := Op.indexAddr 50 (Operand.tmp 3) (Operand.tmp 35), type := 0, pos := "law.go:54", after := #[{ on := 3, ground := Ground.data }], guard := none }) (v := ?_) rfl (by as_aux_lemma => kernel_rfl) (by as_aux_lemma => kernel_rfl) (by as_aux_lemma => kernel_rfl) (fun _ _ _ h => h) (Or.inl ⟨by rfl, ?_⟩) (by assumption) ?_
          rotate_left
          · as_aux_lemma =>
              intro w' hSw
              try dsimp only at hSw
              go_simp
              try with_reducible rfl
          try simp only [Act.put, List.setIfInBounds_toArray, List.set_cons_zero, List.set_cons_succ]
          refine wpAnyH_take (i := 5) (oi := { dst := some 37, op := Op.load 49 (Operand.tmp 36), type := 49, pos := "law.go:54", after := #[{ on := 4, ground := Ground.data }], guard := none }) (v := ?_) rfl (by as_aux_lemma => kernel_rfl) (by as_aux_lemma => kernel_rfl) (by as_aux_lemma => kernel_rfl) (fun _ _ _ h => h) (Or.inl ⟨by rfl, ?_⟩) (by assumption) ?_
          rotate_left
          · as_aux_lemma =>
              intro w' hSw
              try dsimp only at hSw
              go_simp
              try with_reducible rfl
          try simp only [Act.put, List.setIfInBounds_toArray, List.set_cons_zero, List.set_cons_succ]
          refine wpAnyH_take (i := 6) (oi := { dst := some 38, op := Op.move (Operand.tmp 0), type := 47, pos := "law.go:54", after := #[], guard := none }) (v := ?_) rfl (by as_aux_lemma => kernel_rfl) (by as_aux_lemma => kernel_rfl) (by as_aux_lemma => kernel_rfl) (fun _ _ _ h => h) (Or.inl ⟨by rfl, ?_⟩) (by assumption) ?_
          rotate_left
          · as_aux_lemma =>
              intro w' hSw
              try dsimp only at hSw
              go_simp
              try with_reducible rfl
          try simp only [Act.put, List.setIfInBounds_toArray, List.set_cons_zero, List.set_cons_succ]
          refine wpAnyH_take (i := 7) (oi := { dst := some 39, op := Op.move (Operand.tmp 7), type := 3, pos := "law.go:54", after := #[], guard := none }) (v := ?_) rfl (by as_aux_lemma => kernel_rfl) (by as_aux_lemma => kernel_rfl) (by as_aux_lemma => kernel_rfl) (fun _ _ _ h => h) (Or.inl ⟨by rfl, ?_⟩) (by assumption) ?_
          rotate_left
          · as_aux_lemma =>
              intro w' hSw
              try dsimp only at hSw
              go_simp
              try with_reducible rfl
          try simp only [Act.put, List.setIfInBounds_toArray, List.set_cons_zero, List.set_cons_succ]
          refine wpAnyH_take (i := 8) (oi := { dst := some 40, op := Op.indexAddr 47 (Operand.tmp 38) (Operand.tmp 39), type := 0, pos := "law.go:54", after := #[{ on := 6, ground := Ground.data }, { on := 7, ground := Ground.data }], guard := none }) (v := ?_) rfl (by as_aux_lemma => kernel_rfl) (by as_aux_lemma => kernel_rfl) (by as_aux_lemma => kernel_rfl) (fun _ _ _ h => h) (Or.inl ⟨by rfl, ?_⟩) (by assumption) ?_
          rotate_left
          · as_aux_lemma =>
              intro w' hSw
              try dsimp only at hSw
              go_simp
              try with_reducible rfl
          try simp only [Act.put, List.setIfInBounds_toArray, List.set_cons_zero, List.set_cons_succ]
          refine wpAnyH_take (i := 9) (oi := { dst := some 41, op := Op.fieldAddr 53 (Operand.tmp 40) 1, type := 0, pos := "law.go:54", after := #[{ on := 8, ground := Ground.data }], guard := none }) (v := ?_) rfl (by as_aux_lemma => kernel_rfl) (by as_aux_lemma => kernel_rfl) (by as_aux_lemma => kernel_rfl) (fun _ _ _ h => h) (Or.inl ⟨by rfl, ?_⟩) (by assumption) ?_
          rotate_left
          · as_aux_lemma =>
              intro w' hSw
              try dsimp only at hSw
              go_simp
              try with_reducible rfl
          try simp only [Act.put, List.setIfInBounds_toArray, List.set_cons_zero, List.set_cons_succ]
          refine wpAnyH_take (i := 10) (oi := { dst := some 42, op := Op.load 3 (Operand.tmp 41), type := 3, pos := "law.go:54", after := #[{ on := 9, ground := Ground.data }], guard := none }) (v := ?_) rfl (by as_aux_lemma => kernel_rfl) (by as_aux_lemma => kernel_rfl) (by as_aux_lemma => kernel_rfl) (fun _ _ _ h => h) (Or.inl ⟨by rfl, ?_⟩) (by assumption) ?_
          rotate_left
          · as_aux_lemma =>
              intro w' hSw
              try dsimp only at hSw
              go_simp
              try with_reducible rfl
          try simp only [Act.put, List.setIfInBounds_toArray, List.set_cons_zero, List.set_cons_succ]
          refine wpAnyH_ready (rs := [11, 16, 17]) (by as_aux_lemma => kernel_rfl) (by simp) ?_
          refine AllReadyH.cons (o := { dst := some 43, op := Op.call { callee := Callee.value (Operand.func 34), args := #[Operand.tmp 34, Operand.tmp 37, Operand.tmp 42], argTypes := #[49, 49, 3] }, type := 54, pos := "law.go:54", after := #[{ on := 2, ground := Ground.data }, { on := 5, ground := Ground.data }, { on := 10, ground := Ground.data }], guard := none }) rfl (fun Kx hK => ?_) (AllReadyH.cons (o := { dst := some 10, op := Op.alloc 49, type := 0, pos := "law.go:54", after := #[], guard := none }) rfl (fun Kx hK => ?_) (AllReadyH.cons (o := { dst := some 11, op := Op.alloc 49, type := 0, pos := "law.go:54", after := #[], guard := none }) rfl (fun Kx hK => ?_) AllReadyH.nil))
          · skip
            go_simp
            refine (HA.out _).mono ?_
            rintro e X1 ⟨rfl, b9⟩
            have FB2 := Lib.hid (FB.out.trans (b9.mono FB.out.size))
            have FS2 := Lib.hid (FS.out.later b9)
            go_wp2_with fail
            refine hK.out _ _ ?_ (fun hHeld2 => ?_)
            · exact keepM FS2.out (M1.out _ FB2.out)
            clear hK Kx hHeld
            have hHeld := hHeld2
            clear hHeld2
            try simp only [Act.put, List.setIfInBounds_toArray, List.set_cons_zero, List.set_cons_succ]
            clear FB FS b9 
            have FB := FB2
            clear FB2
            have FS := FS2
            clear FS2
            refine wpAnyH_take (i := 12) (oi := { dst := some 31, op := Op.move (Operand.tmp 43), type := 54, pos := "law.go:54", after := #[{ on := 11, ground := Ground.data }], guard := none }) (v := ?_) rfl (by as_aux_lemma => kernel_rfl) (by as_aux_lemma => kernel_rfl) (by as_aux_lemma => kernel_rfl) (fun _ _ _ h => h) (Or.inl ⟨by rfl, ?_⟩) (by assumption) ?_
            rotate_left
            · as_aux_lemma =>
                intro w' hSw
                try dsimp only at hSw
                go_simp
                try with_reducible rfl
            try simp only [Act.put, List.setIfInBounds_toArray, List.set_cons_zero, List.set_cons_succ]
            refine wpAnyH_take (i := 13) (oi := { dst := some 44, op := Op.extract (Operand.tmp 31) 0, type := 49, pos := "law.go:54", after := #[{ on := 12, ground := Ground.data }], guard := none }) (v := ?_) rfl (by as_aux_lemma => kernel_rfl) (by as_aux_lemma => kernel_rfl) (by as_aux_lemma => kernel_rfl) (fun _ _ _ h => h) (Or.inl ⟨by rfl, ?_⟩) (by assumption) ?_
            rotate_left
            · as_aux_lemma =>
                intro w' hSw
                try dsimp only at hSw
                go_simp
                try with_reducible rfl
            try simp only [Act.put, List.setIfInBounds_toArray, List.set_cons_zero, List.set_cons_succ]
            refine wpAnyH_take (i := 14) (oi := { dst := some 45, op := Op.extract (Operand.tmp 31) 1, type := 49, pos := "law.go:54", after := #[{ on := 12, ground := Ground.data }, { on := 18, ground := Ground.gcOnly Departure.lateStores }], guard := none }) (v := ?_) rfl (by as_aux_lemma => kernel_rfl) (by as_aux_lemma => kernel_rfl) (by as_aux_lemma => kernel_rfl) (fun _ _ _ h => h) (Or.inl ⟨by rfl, ?_⟩) (by assumption) ?_
            rotate_left
            · as_aux_lemma =>
                intro w' hSw
                try dsimp only at hSw
                go_simp
                try with_reducible rfl
            try simp only [Act.put, List.setIfInBounds_toArray, List.set_cons_zero, List.set_cons_succ]
            refine wpAnyH_take (i := 15) (oi := { dst := some 46, op := Op.extract (Operand.tmp 31) 2, type := 35, pos := "law.go:54", after := #[{ on := 12, ground := Ground.data }, { on := 19, ground := Ground.gcOnly Departure.lateStores }], guard := none }) (v := ?_) rfl (by as_aux_lemma => kernel_rfl) (by as_aux_lemma => kernel_rfl) (by as_aux_lemma => kernel_rfl) (fun _ _ _ h => h) (Or.inl ⟨by rfl, ?_⟩) (by assumption) ?_
            rotate_left
            · as_aux_lemma =>
                intro w' hSw
                try dsimp only at hSw
                go_simp
                try with_reducible rfl
            try simp only [Act.put, List.setIfInBounds_toArray, List.set_cons_zero, List.set_cons_succ]
            refine wpAnyH_ready (rs := [16, 17]) (by as_aux_lemma => kernel_rfl) (by simp) ?_
            refine AllReadyH.cons (o := { dst := some 10, op := Op.alloc 49, type := 0, pos := "law.go:54", after := #[], guard := none }) rfl (fun Kx hK => ?_) (AllReadyH.cons (o := { dst := some 11, op := Op.alloc 49, type := 0, pos := "law.go:54", after := #[], guard := none }) rfl (fun Kx hK => ?_) AllReadyH.nil)
            · skip
              go_simp
              have bb := bl_newZ X1 (.cells #[.bool false, .bool false, .bool false, .bool false, .bool false] 49)
              have FB2 := Lib.hid (FB.out.trans (bb.mono FB.out.size))
              have FS2 := Lib.hid (FS.out.later bb)
              have FP2 : Hid ((X1.alloc (.cells #[.bool false, .bool false, .bool false, .bool false, .bool false] 49)).heap[X1.heap.size]? = some (.cells #[.bool false, .bool false, .bool false, .bool false, .bool false] 49 (0, 0))) := Lib.hid (heap_alloc_new X1 _)
              have hP : w.heap.size + 4 ≤ X1.heap.size := FS.out.top
              refine hK.out _ _ ?_ (fun hHeld2 => ?_)
              · exact keepM FS2.out (M1.out _ FB2.out)
              clear hK Kx hHeld
              have hHeld := hHeld2
              clear hHeld2
              try simp only [Act.put, List.setIfInBounds_toArray, List.set_cons_zero, List.set_cons_succ]
              clear FB FS bb 
              generalize X1.alloc (.cells #[.bool false, .bool false, .bool false, .bool false, .bool false] 49) = X2 at FB2 FS2 FP2 hHeld ⊢
              generalize X1.heap.size = bP at FP2 hP ⊢
              have FB := FB2
              clear FB2
              have FS := FS2
              clear FS2
              have FP := FP2
              clear FP2
              refine wpAnyH_ready (rs := [17]) (by as_aux_lemma => kernel_rfl) (by simp) ?_
              refine AllReadyH.cons (o := { dst := some 11, op := Op.alloc 49, type := 0, pos := "law.go:54", after := #[], guard := none }) rfl (fun Kx hK => ?_) AllReadyH.nil
              · skip
                go_simp
                have bb := bl_newZ X2 (.cells #[.bool false, .bool false, .bool false, .bool false, .bool false] 49)
                have FB2 := Lib.hid (FB.out.trans (bb.mono FB.out.size))
                have FS2 := Lib.hid (FS.out.later bb)
                have FP2 := Lib.hid (heapUp FP.out bb)
                have FQ2 : Hid ((X2.alloc (.cells #[.bool false, .bool false, .bool false, .bool false, .bool false] 49)).heap[X2.heap.size]? = some (.cells #[.bool false, .bool false, .bool false, .bool false, .bool false] 49 (0, 0))) := Lib.hid (heap_alloc_new X2 _)
                have hQ : w.heap.size + 4 ≤ X2.heap.size := FS.out.top
                have hPQ : bP < X2.heap.size := (Array.getElem?_eq_some_iff.1 FP.out).1
                refine hK.out _ _ ?_ (fun hHeld2 => ?_)
                · exact keepM FS2.out (M1.out _ FB2.out)
                clear hK Kx hHeld
                have hHeld := hHeld2
                clear hHeld2
                try simp only [Act.put, List.setIfInBounds_toArray, List.set_cons_zero, List.set_cons_succ]
                clear FB FS bb FP
                generalize X2.alloc (.cells #[.bool false, .bool false, .bool false, .bool false, .bool false] 49) = X3 at FB2 FS2 FP2 FQ2 hHeld ⊢
                generalize X2.heap.size = bQ at FQ2 hQ hPQ ⊢
                have FB := FB2
                clear FB2
                have FS := FS2
                clear FS2
                have FP := FP2
                clear FP2
                have FQ := FQ2
                clear FQ2
                obtain ⟨g0, g1, g2, g3, g4⟩ := five_cells FP.out
                obtain ⟨f0, f1, f2, f3, f4, -⟩ := ten_free FP.out
                have FP2 := Lib.hid (set5 (x0 := .bool x0) (x1 := .bool x1) (x2 := .bool x2) (x3 := .bool x3) (x4 := .bool x4) FP.out)
                have FQ2 := Lib.hid (other5 FQ.out (by omega : bP ≠ bQ) 0 1 2 3 4 (.bool x0) (.bool x1) (.bool x2) (.bool x3) (.bool x4))
                have FS2 := Lib.hid (FS.out.other5 hP 0 1 2 3 4 (.bool x0) (.bool x1) (.bool x2) (.bool x3) (.bool x4))
                have FB2 := Lib.hid (below5 FB.out (by omega : w.heap.size ≤ bP) 0 1 2 3 4 (.bool x0) (.bool x1) (.bool x2) (.bool x3) (.bool x4))
                refine wpAnyH_ready (rs := [18]) (by as_aux_lemma => kernel_rfl) (by simp) ?_
                refine AllReadyH.cons (o := { dst := none, op := Op.store 49 (Operand.tmp 10) (Operand.tmp 44), type := 0, pos := "law.go:54", after := #[{ on := 16, ground := Ground.data }, { on := 13, ground := Ground.data }, { on := 11, ground := Ground.chain }, { on := 0, ground := Ground.phase }, { on := 1, ground := Ground.phase }, { on := 2, ground := Ground.phase }, { on := 3, ground := Ground.phase }, { on := 4, ground := Ground.phase }, { on := 5, ground := Ground.phase }, { on := 6, ground := Ground.phase }, { on := 7, ground := Ground.phase }, { on := 8, ground := Ground.phase }, { on := 9, ground := Ground.phase }, { on := 10, ground := Ground.phase }, { on := 11, ground := Ground.phase }, { on := 12, ground := Ground.phase }, { on := 13, ground := Ground.phase }, { on := 14, ground := Ground.textOnly Departure.lateStores }, { on := 15, ground := Ground.textOnly Departure.lateStores }, { on := 16, ground := Ground.phase }, { on := 17, ground := Ground.phase }], guard := none }) rfl (fun Kx hK => ?_) AllReadyH.nil
                go_simp
                refine hK.out _ _ ?_ (fun hHeld2 => ?_)
                · exact keepM FS2.out (M1.out _ FB2.out)
                clear hK Kx hHeld
                have hHeld := hHeld2
                clear hHeld2
                try simp only [Act.put, List.setIfInBounds_toArray, List.set_cons_zero, List.set_cons_succ]
                clear FB FS FP FQ g0 g1 g2 g3 g4 f0 f1 f2 f3 f4
                have FB := FB2
                clear FB2
                have FS := FS2
                clear FS2
                have FP := FP2
                clear FP2
                have FQ := FQ2
                clear FQ2
                obtain ⟨g0, g1, g2, g3, g4⟩ := five_cells FQ.out
                obtain ⟨f0, f1, f2, f3, f4, -⟩ := ten_free FQ.out
                have FQ2 := Lib.hid (set5 (x0 := .bool y0) (x1 := .bool y1) (x2 := .bool y2) (x3 := .bool y3) (x4 := .bool y4) FQ.out)
                have FP2 := Lib.hid (other5 FP.out (by omega : bQ ≠ bP) 0 1 2 3 4 (.bool y0) (.bool y1) (.bool y2) (.bool y3) (.bool y4))
                have FS2 := Lib.hid (FS.out.other5 hQ 0 1 2 3 4 (.bool y0) (.bool y1) (.bool y2) (.bool y3) (.bool y4))
                have FB2 := Lib.hid (below5 FB.out (by omega : w.heap.size ≤ bQ) 0 1 2 3 4 (.bool y0) (.bool y1) (.bool y2) (.bool y3) (.bool y4))
                refine wpAnyH_ready (rs := [19]) (by as_aux_lemma => kernel_rfl) (by simp) ?_
                refine AllReadyH.cons (o := { dst := none, op := Op.store 49 (Operand.tmp 11) (Operand.tmp 45), type := 0, pos := "law.go:54", after := #[{ on := 17, ground := Ground.data }, { on := 14, ground := Ground.data }, { on := 18, ground := Ground.chain }, { on := 0, ground := Ground.phase }, { on := 1, ground := Ground.phase }, { on := 2, ground := Ground.phase }, { on := 3, ground := Ground.phase }, { on := 4, ground := Ground.phase }, { on := 5, ground := Ground.phase }, { on := 6, ground := Ground.phase }, { on := 7, ground := Ground.phase }, { on := 8, ground := Ground.phase }, { on := 9, ground := Ground.phase }, { on := 10, ground := Ground.phase }, { on := 11, ground := Ground.phase }, { on := 12, ground := Ground.phase }, { on := 13, ground := Ground.phase }, { on := 14, ground := Ground.phase }, { on := 15, ground := Ground.textOnly Departure.lateStores }, { on := 16, ground := Ground.phase }, { on := 17, ground := Ground.phase }, { on := 18, ground := Ground.phase }], guard := none }) rfl (fun Kx hK => ?_) AllReadyH.nil
                go_simp
                refine hK.out _ _ ?_ (fun hHeld2 => ?_)
                · exact keepM FS2.out (M1.out _ FB2.out)
                clear hK Kx hHeld
                have hHeld := hHeld2
                clear hHeld2
                try simp only [Act.put, List.setIfInBounds_toArray, List.set_cons_zero, List.set_cons_succ]
                clear FB FS FP FQ g0 g1 g2 g3 g4 f0 f1 f2 f3 f4
                have FB := FB2
                clear FB2
                have FS := FS2
                clear FS2
                have FP := FP2
                clear FP2
                have FQ := FQ2
                clear FQ2
                as_aux_lemma =>
                  refine wpAnyH_take (i := 20) (oi := { dst := some 12, op := Op.assign (Operand.tmp 46), type := 35, pos := "law.go:54", after := #[{ on := 15, ground := Ground.data }, { on := 19, ground := Ground.chain }, { on := 0, ground := Ground.phase }, { on := 1, ground := Ground.phase }, { on := 2, ground := Ground.phase }, { on := 3, ground := Ground.phase }, { on := 4, ground := Ground.phase }, { on := 5, ground := Ground.phase }, { on := 6, ground := Ground.phase }, { on := 7, ground := Ground.phase }, { on := 8, ground := Ground.phase }, { on := 9, ground := Ground.phase }, { on := 10, ground := Ground.phase }, { on := 11, ground := Ground.phase }, { on := 12, ground := Ground.phase }, { on := 13, ground := Ground.phase }, { on := 14, ground := Ground.phase }, { on := 15, ground := Ground.phase }, { on := 16, ground := Ground.phase }, { on := 17, ground := Ground.phase }, { on := 18, ground := Ground.phase }, { on := 19, ground := Ground.phase }], guard := none }) (v := ?_) rfl (by as_aux_lemma => kernel_rfl) (by as_aux_lemma => kernel_rfl) (by as_aux_lemma => kernel_rfl) (fun _ _ _ h => h) (Or.inl ⟨by rfl, ?_⟩) (by assumption) ?_
                  rotate_left
                  · as_aux_lemma =>
                      intro w' hSw
                      try dsimp only at hSw
                      go_simp
                      try with_reducible rfl
                  try simp only [Act.put, List.setIfInBounds_toArray, List.set_cons_zero, List.set_cons_succ]
                  refine wpAnyH_done (by as_aux_lemma => kernel_rfl) ?_ _
                  go_wp2_with fail
                  go_meet
                  exact ⟨bP, bQ, rfl, rfl, rfl, FP, FQ, Lib.hid hP, Lib.hid hQ, FS, FB⟩
            · skip
              go_simp
              have bb := bl_newZ X1 (.cells #[.bool false, .bool false, .bool false, .bool false, .bool false] 49)
              have FB2 := Lib.hid (FB.out.trans (bb.mono FB.out.size))
              have FS2 := Lib.hid (FS.out.later bb)
              have FQ2 : Hid ((X1.alloc (.cells #[.bool false, .bool false, .bool false, .bool false, .bool false] 49)).heap[X1.heap.size]? = some (.cells #[.bool false, .bool false, .bool false, .bool false, .bool false] 49 (0, 0))) := Lib.hid (heap_alloc_new X1 _)
              have hQ : w.heap.size + 4 ≤ X1.heap.size := FS.out.top
              refine hK.out _ _ ?_ (fun hHeld2 => ?_)
              · exact keepM FS2.out (M1.out _ FB2.out)
              clear hK Kx hHeld
              have hHeld := hHeld2
              clear hHeld2
              try simp only [Act.put, List.setIfInBounds_toArray, List.set_cons_zero, List.set_cons_succ]
              clear FB FS bb 
              generalize X1.alloc (.cells #[.bool false, .bool false, .bool false, .bool false, .bool false] 49) = X2 at FB2 FS2 FQ2 hHeld ⊢
              generalize X1.heap.size = bQ at FQ2 hQ ⊢
              have FB := FB2
              clear FB2
              have FS := FS2
              clear FS2
              have FQ := FQ2
              clear FQ2
              refine wpAnyH_ready (rs := [16]) (by as_aux_lemma => kernel_rfl) (by simp) ?_
              refine AllReadyH.cons (o := { dst := some 10, op := Op.alloc 49, type := 0, pos := "law.go:54", after := #[], guard := none }) rfl (fun Kx hK => ?_) AllReadyH.nil
              · skip
                go_simp
                have bb := bl_newZ X2 (.cells #[.bool false, .bool false, .bool false, .bool false, .bool false] 49)
                have FB2 := Lib.hid (FB.out.trans (bb.mono FB.out.size))
                have FS2 := Lib.hid (FS.out.later bb)
                have FQ2 := Lib.hid (heapUp FQ.out bb)
                have FP2 : Hid ((X2.alloc (.cells #[.bool false, .bool false, .bool false, .bool false, .bool false] 49)).heap[X2.heap.size]? = some (.cells #[.bool false, .bool false, .bool false, .bool false, .bool false] 49 (0, 0))) := Lib.hid (heap_alloc_new X2 _)
                have hP : w.heap.size + 4 ≤ X2.heap.size := FS.out.top
                have hPQ : bQ < X2.heap.size := (Array.getElem?_eq_some_iff.1 FQ.out).1
                refine hK.out _ _ ?_ (fun hHeld2 => ?_)
                · exact keepM FS2.out (M1.out _ FB2.out)
                clear hK Kx hHeld
                have hHeld := hHeld2
                clear hHeld2
                try simp only [Act.put, List.setIfInBounds_toArray, List.set_cons_zero, List.set_cons_succ]
                clear FB FS bb FQ
                generalize X2.alloc (.cells #[.bool false, .bool false, .bool false, .bool false, .bool false] 49) = X3 at FB2 FS2 FP2 FQ2 hHeld ⊢
                generalize X2.heap.size = bP at FP2 hP hPQ ⊢
                have FB := FB2
                clear FB2
                have FS := FS2
                clear FS2
                have FP := FP2
                clear FP2
                have FQ := FQ2
                clear FQ2
                obtain ⟨g0, g1, g2, g3, g4⟩ := five_cells FP.out
                obtain ⟨f0, f1, f2, f3, f4, -⟩ := ten_free FP.out
                have FP2 := Lib.hid (set5 (x0 := .bool x0) (x1 := .bool x1) (x2 := .bool x2) (x3 := .bool x3) (x4 := .bool x4) FP.out)
                have FQ2 := Lib.hid (other5 FQ.out (by omega : bP ≠ bQ) 0 1 2 3 4 (.bool x0) (.bool x1) (.bool x2) (.bool x3) (.bool x4))
                have FS2 := Lib.hid (FS.out.other5 hP 0 1 2 3 4 (.bool x0) (.bool x1) (.bool x2) (.bool x3) (.bool x4))
                have FB2 := Lib.hid (below5 FB.out (by omega : w.heap.size ≤ bP) 0 1 2 3 4 (.bool x0) (.bool x1) (.bool x2) (.bool x3) (.bool x4))
                refine wpAnyH_ready (rs := [18]) (by as_aux_lemma => kernel_rfl) (by simp) ?_
                refine AllReadyH.cons (o := { dst := none, op := Op.store 49 (Operand.tmp 10) (Operand.tmp 44), type := 0, pos := "law.go:54", after := #[{ on := 16, ground := Ground.data }, { on := 13, ground := Ground.data }, { on := 11, ground := Ground.chain }, { on := 0, ground := Ground.phase }, { on := 1, ground := Ground.phase }, { on := 2, ground := Ground.phase }, { on := 3, ground := Ground.phase }, { on := 4, ground := Ground.phase }, { on := 5, ground := Ground.phase }, { on := 6, ground := Ground.phase }, { on := 7, ground := Ground.phase }, { on := 8, ground := Ground.phase }, { on := 9, ground := Ground.phase }, { on := 10, ground := Ground.phase }, { on := 11, ground := Ground.phase }, { on := 12, ground := Ground.phase }, { on := 13, ground := Ground.phase }, { on := 14, ground := Ground.textOnly Departure.lateStores }, { on := 15, ground := Ground.textOnly Departure.lateStores }, { on := 16, ground := Ground.phase }, { on := 17, ground := Ground.phase }], guard := none }) rfl (fun Kx hK => ?_) AllReadyH.nil
                go_simp
                refine hK.out _ _ ?_ (fun hHeld2 => ?_)
                · exact keepM FS2.out (M1.out _ FB2.out)
                clear hK Kx hHeld
                have hHeld := hHeld2
                clear hHeld2
                try simp only [Act.put, List.setIfInBounds_toArray, List.set_cons_zero, List.set_cons_succ]
                clear FB FS FP FQ g0 g1 g2 g3 g4 f0 f1 f2 f3 f4
                have FB := FB2
                clear FB2
                have FS := FS2
                clear FS2
                have FP := FP2
                clear FP2
                have FQ := FQ2
                clear FQ2
                obtain ⟨g0, g1, g2, g3, g4⟩ := five_cells FQ.out
                obtain ⟨f0, f1, f2, f3, f4, -⟩ := ten_free FQ.out
                have FQ2 := Lib.hid (set5 (x0 := .bool y0) (x1 := .bool y1) (x2 := .bool y2) (x3 := .bool y3) (x4 := .bool y4) FQ.out)
                have FP2 := Lib.hid (other5 FP.out (by omega : bQ ≠ bP) 0 1 2 3 4 (.bool y0) (.bool y1) (.bool y2) (.bool y3) (.bool y4))
                have FS2 := Lib.hid (FS.out.other5 hQ 0 1 2 3 4 (.bool y0) (.bool y1) (.bool y2) (.bool y3) (.bool y4))
                have FB2 := Lib.hid (below5 FB.out (by omega : w.heap.size ≤ bQ) 0 1 2 3 4 (.bool y0) (.bool y1) (.bool y2) (.bool y3) (.bool y4))
                refine wpAnyH_ready (rs := [19]) (by as_aux_lemma => kernel_rfl) (by simp) ?_
                refine AllReadyH.cons (o := { dst := none, op := Op.store 49 (Operand.tmp 11) (Operand.tmp 45), type := 0, pos := "law.go:54", after := #[{ on := 17, ground := Ground.data }, { on := 14, ground := Ground.data }, { on := 18, ground := Ground.chain }, { on := 0, ground := Ground.phase }, { on := 1, ground := Ground.phase }, { on := 2, ground := Ground.phase }, { on := 3, ground := Ground.phase }, { on := 4, ground := Ground.phase }, { on := 5, ground := Ground.phase }, { on := 6, ground := Ground.phase }, { on := 7, ground := Ground.phase }, { on := 8, ground := Ground.phase }, { on := 9, ground := Ground.phase }, { on := 10, ground := Ground.phase }, { on := 11, ground := Ground.phase }, { on := 12, ground := Ground.phase }, { on := 13, ground := Ground.phase }, { on := 14, ground := Ground.phase }, { on := 15, ground := Ground.textOnly Departure.lateStores }, { on := 16, ground := Ground.phase }, { on := 17, ground := Ground.phase }, { on := 18, ground := Ground.phase }], guard := none }) rfl (fun Kx hK => ?_) AllReadyH.nil
                go_simp
                refine hK.out _ _ ?_ (fun hHeld2 => ?_)
                · exact keepM FS2.out (M1.out _ FB2.out)
                clear hK Kx hHeld
                have hHeld := hHeld2
                clear hHeld2
                try simp only [Act.put, List.setIfInBounds_toArray, List.set_cons_zero, List.set_cons_succ]
                clear FB FS FP FQ g0 g1 g2 g3 g4 f0 f1 f2 f3 f4
                have FB := FB2
                clear FB2
                have FS := FS2
                clear FS2
                have FP := FP2
                clear FP2
                have FQ := FQ2
                clear FQ2
                as_aux_lemma =>
                  refine wpAnyH_take (i := 20) (oi := { dst := some 12, op := Op.assign (Operand.tmp 46), type := 35, pos := "law.go:54", after := #[{ on := 15, ground := Ground.data }, { on := 19, ground := Ground.chain }, { on := 0, ground := Ground.phase }, { on := 1, ground := Ground.phase }, { on := 2, ground := Ground.phase }, { on := 3, ground := Ground.phase }, { on := 4, ground := Ground.phase }, { on := 5, ground := Ground.phase }, { on := 6, ground := Ground.phase }, { on := 7, ground := Ground.phase }, { on := 8, ground := Ground.phase }, { on := 9, ground := Ground.phase }, { on := 10, ground := Ground.phase }, { on := 11, ground := Ground.phase }, { on := 12, ground := Ground.phase }, { on := 13, ground := Ground.phase }, { on := 14, ground := Ground.phase }, { on := 15, ground := Ground.phase }, { on := 16, ground := Ground.phase }, { on := 17, ground := Ground.phase }, { on := 18, ground := Ground.phase }, { on := 19, ground := Ground.phase }], guard := none }) (v := ?_) rfl (by as_aux_lemma => kernel_rfl) (by as_aux_lemma => kernel_rfl) (by as_aux_lemma => kernel_rfl) (fun _ _ _ h => h) (Or.inl ⟨by rfl, ?_⟩) (by assumption) ?_
                  rotate_left
                  · as_aux_lemma =>
                      intro w' hSw
                      try dsimp only at hSw
                      go_simp
                      try with_reducible rfl
                  try simp only [Act.put, List.setIfInBounds_toArray, List.set_cons_zero, List.set_cons_succ]
                  refine wpAnyH_done (by as_aux_lemma => kernel_rfl) ?_ _
                  go_wp2_with fail
                  go_meet
                  exact ⟨bP, bQ, rfl, rfl, rfl, FP, FQ, Lib.hid hP, Lib.hid hQ, FS, FB⟩
          · skip
            go_simp
            have bb := bl_newZ X0 (.cells #[.bool false, .bool false, .bool false, .bool false, .bool false] 49)
            have FB2 := Lib.hid (FB.out.trans (bb.mono FB.out.size))
            have FS2 := Lib.hid (FS.out.later bb)
            have FP2 : Hid ((X0.alloc (.cells #[.bool false, .bool false, .bool false, .bool false, .bool false] 49)).heap[X0.heap.size]? = some (.cells #[.bool false, .bool false, .bool false, .bool false, .bool false] 49 (0, 0))) := Lib.hid (heap_alloc_new X0 _)
            have hP : w.heap.size + 4 ≤ X0.heap.size := FS.out.top
            refine hK.out _ _ ?_ (fun hHeld2 => ?_)
            · exact keepM FS2.out (M1.out _ FB2.out)
            clear hK Kx hHeld
            have hHeld := hHeld2
            clear hHeld2
            try simp only [Act.put, List.setIfInBounds_toArray, List.set_cons_zero, List.set_cons_succ]
            clear FB FS bb 
            generalize X0.alloc (.cells #[.bool false, .bool false, .bool false, .bool false, .bool false] 49) = X1 at FB2 FS2 FP2 hHeld ⊢
            generalize X0.heap.size = bP at FP2 hP ⊢
            have FB := FB2
            clear FB2
            have FS := FS2
            clear FS2
            have FP := FP2
            clear FP2
            refine wpAnyH_ready (rs := [11, 17]) (by as_aux_lemma => kernel_rfl) (by simp) ?_
            refine AllReadyH.cons (o := { dst := some 43, op := Op.call { callee := Callee.value (Operand.func 34), args := #[Operand.tmp 34, Operand.tmp 37, Operand.tmp 42], argTypes := #[49, 49, 3] }, type := 54, pos := "law.go:54", after := #[{ on := 2, ground := Ground.data }, { on := 5, ground := Ground.data }, { on := 10, ground := Ground.data }], guard := none }) rfl (fun Kx hK => ?_) (AllReadyH.cons (o := { dst := some 11, op := Op.alloc 49, type := 0, pos := "law.go:54", after := #[], guard := none }) rfl (fun Kx hK => ?_) AllReadyH.nil)
            · skip
              go_simp
              refine (HA.out _).mono ?_
              rintro e X2 ⟨rfl, b9⟩
              have FB2 := Lib.hid (FB.out.trans (b9.mono FB.out.size))
              have FS2 := Lib.hid (FS.out.later b9)
              have FP2 := Lib.hid (heapUp FP.out b9)
              go_wp2_with fail
              refine hK.out _ _ ?_ (fun hHeld2 => ?_)
              · exact keepM FS2.out (M1.out _ FB2.out)
              clear hK Kx hHeld
              have hHeld := hHeld2
              clear hHeld2
              try simp only [Act.put, List.setIfInBounds_toArray, List.set_cons_zero, List.set_cons_succ]
              clear FB FS b9 FP
              have FB := FB2
              clear FB2
              have FS := FS2
              clear FS2
              have FP := FP2
              clear FP2
              refine wpAnyH_take (i := 12) (oi := { dst := some 31, op := Op.move (Operand.tmp 43), type := 54, pos := "law.go:54", after := #[{ on := 11, ground := Ground.data }], guard := none }) (v := ?_) rfl (by as_aux_lemma => kernel_rfl) (by as_aux_lemma => kernel_rfl) (by as_aux_lemma => kernel_rfl) (fun _ _ _ h => h) (Or.inl ⟨by rfl, ?_⟩) (by assumption) ?_
              rotate_left
              · as_aux_lemma =>
                  intro w' hSw
                  try dsimp only at hSw
                  go_simp
                  try with_reducible rfl
              try simp only [Act.put, List.setIfInBounds_toArray, List.set_cons_zero, List.set_cons_succ]
              refine wpAnyH_take (i := 13) (oi := { dst := some 44, op := Op.extract (Operand.tmp 31) 0, type := 49, pos := "law.go:54", after := #[{ on := 12, ground := Ground.data }], guard := none }) (v := ?_) rfl (by as_aux_lemma => kernel_rfl) (by as_aux_lemma => kernel_rfl) (by as_aux_lemma => kernel_rfl) (fun _ _ _ h => h) (Or.inl ⟨by rfl, ?_⟩) (by assumption) ?_
              rotate_left
              · as_aux_lemma =>
                  intro w' hSw
                  try dsimp only at hSw
                  go_simp
                  try with_reducible rfl
              try simp only [Act.put, List.setIfInBounds_toArray, List.set_cons_zero, List.set_cons_succ]
              refine wpAnyH_take (i := 14) (oi := { dst := some 45, op := Op.extract (Operand.tmp 31) 1, type := 49, pos := "law.go:54", after := #[{ on := 12, ground := Ground.data }, { on := 18, ground := Ground.gcOnly Departure.lateStores }], guard := none }) (v := ?_) rfl (by as_aux_lemma => kernel_rfl) (by as_aux_lemma => kernel_rfl) (by as_aux_lemma => kernel_rfl) (fun _ _ _ h => h) (Or.inl ⟨by rfl, ?_⟩) (by assumption) ?_
              rotate_left
              · as_aux_lemma =>
                  intro w' hSw
                  try dsimp only at hSw
                  go_simp
                  try with_reducible rfl
              try simp only [Act.put, List.setIfInBounds_toArray, List.set_cons_zero, List.set_cons_succ]
              refine wpAnyH_take (i := 15) (oi := { dst := some 46, op := Op.extract (Operand.tmp 31) 2, type := 35, pos := "law.go:54", after := #[{ on := 12, ground := Ground.data }, { on := 19, ground := Ground.gcOnly Departure.lateStores }], guard := none }) (v := ?_) rfl (by as_aux_lemma => kernel_rfl) (by as_aux_lemma => kernel_rfl) (by as_aux_lemma => kernel_rfl) (fun _ _ _ h => h) (Or.inl ⟨by rfl, ?_⟩) (by assumption) ?_
              rotate_left
              · as_aux_lemma =>
                  intro w' hSw
                  try dsimp only at hSw
                  go_simp
                  try with_reducible rfl
              try simp only [Act.put, List.setIfInBounds_toArray, List.set_cons_zero, List.set_cons_succ]
              refine wpAnyH_ready (rs := [17]) (by as_aux_lemma => kernel_rfl) (by simp) ?_
              refine AllReadyH.cons (o := { dst := some 11, op := Op.alloc 49, type := 0, pos := "law.go:54", after := #[], guard := none }) rfl (fun Kx hK => ?_) AllReadyH.nil
              · skip
                go_simp
                have bb := bl_newZ X2 (.cells #[.bool false, .bool false, .bool false, .bool false, .bool false] 49)
                have FB2 := Lib.hid (FB.out.trans (bb.mono FB.out.size))
                have FS2 := Lib.hid (FS.out.later bb)
                have FP2 := Lib.hid (heapUp FP.out bb)
                have FQ2 : Hid ((X2.alloc (.cells #[.bool false, .bool false, .bool false, .bool false, .bool false] 49)).heap[X2.heap.size]? = some (.cells #[.bool false, .bool false, .bool false, .bool false, .bool false] 49 (0, 0))) := Lib.hid (heap_alloc_new X2 _)
                have hQ : w.heap.size + 4 ≤ X2.heap.size := FS.out.top
                have hPQ : bP < X2.heap.size := (Array.getElem?_eq_some_iff.1 FP.out).1
                refine hK.out _ _ ?_ (fun hHeld2 => ?_)
                · exact keepM FS2.out (M1.out _ FB2.out)
                clear hK Kx hHeld
                have hHeld := hHeld2
                clear hHeld2
                try simp only [Act.put, List.setIfInBounds_toArray, List.set_cons_zero, List.set_cons_succ]
                clear FB FS bb FP
                generalize X2.alloc (.cells #[.bool false, .bool false, .bool false, .bool false, .bool false] 49) = X3 at FB2 FS2 FP2 FQ2 hHeld ⊢
                generalize X2.heap.size = bQ at FQ2 hQ hPQ ⊢
                have FB := FB2
                clear FB2
                have FS := FS2
                clear FS2
                have FP := FP2
                clear FP2
                have FQ := FQ2
                clear FQ2
                obtain ⟨g0, g1, g2, g3, g4⟩ := five_cells FP.out
                obtain ⟨f0, f1, f2, f3, f4, -⟩ := ten_free FP.out
                have FP2 := Lib.hid (set5 (x0 := .bool x0) (x1 := .bool x1) (x2 := .bool x2) (x3 := .bool x3) (x4 := .bool x4) FP.out)
                have FQ2 := Lib.hid (other5 FQ.out (by omega : bP ≠ bQ) 0 1 2 3 4 (.bool x0) (.bool x1) (.bool x2) (.bool x3) (.bool x4))
                have FS2 := Lib.hid (FS.out.other5 hP 0 1 2 3 4 (.bool x0) (.bool x1) (.bool x2) (.bool x3) (.bool x4))
                have FB2 := Lib.hid (below5 FB.out (by omega : w.heap.size ≤ bP) 0 1 2 3 4 (.bool x0) (.bool x1) (.bool x2) (.bool x3) (.bool x4))
                refine wpAnyH_ready (rs := [18]) (by as_aux_lemma => kernel_rfl) (by simp) ?_
                refine AllReadyH.cons (o := { dst := none, op := Op.store 49 (Operand.tmp 10) (Operand.tmp 44), type := 0, pos := "law.go:54", after := #[{ on := 16, ground := Ground.data }, { on := 13, ground := Ground.data }, { on := 11, ground := Ground.chain }, { on := 0, ground := Ground.phase }, { on := 1, ground := Ground.phase }, { on := 2, ground := Ground.phase }, { on := 3, ground := Ground.phase }, { on := 4, ground := Ground.phase }, { on := 5, ground := Ground.phase }, { on := 6, ground := Ground.phase }, { on := 7, ground := Ground.phase }, { on := 8, ground := Ground.phase }, { on := 9, ground := Ground.phase }, { on := 10, ground := Ground.phase }, { on := 11, ground := Ground.phase }, { on := 12, ground := Ground.phase }, { on := 13, ground := Ground.phase }, { on := 14, ground := Ground.textOnly Departure.lateStores }, { on := 15, ground := Ground.textOnly Departure.lateStores }, { on := 16, ground := Ground.phase }, { on := 17, ground := Ground.phase }], guard := none }) rfl (fun Kx hK => ?_) AllReadyH.nil
                go_simp
                refine hK.out _ _ ?_ (fun hHeld2 => ?_)
                · exact keepM FS2.out (M1.out _ FB2.out)
                clear hK Kx hHeld
                have hHeld := hHeld2
                clear hHeld2
                try simp only [Act.put, List.setIfInBounds_toArray, List.set_cons_zero, List.set_cons_succ]
                clear FB FS FP FQ g0 g1 g2 g3 g4 f0 f1 f2 f3 f4
                have FB := FB2
                clear FB2
                have FS := FS2
                clear FS2
                have FP := FP2
                clear FP2
                have FQ := FQ2
                clear FQ2
                obtain ⟨g0, g1, g2, g3, g4⟩ := five_cells FQ.out
                obtain ⟨f0, f1, f2, f3, f4, -⟩ := ten_free FQ.out
                have FQ2 := Lib.hid (set5 (x0 := .bool y0) (x1 := .bool y1) (x2 := .bool y2) (x3 := .bool y3) (x4 := .bool y4) FQ.out)
                have FP2 := Lib.hid (other5 FP.out (by omega : bQ ≠ bP) 0 1 2 3 4 (.bool y0) (.bool y1) (.bool y2) (.bool y3) (.bool y4))
                have FS2 := Lib.hid (FS.out.other5 hQ 0 1 2 3 4 (.bool y0) (.bool y1) (.bool y2) (.bool y3) (.bool y4))
                have FB2 := Lib.hid (below5 FB.out (by omega : w.heap.size ≤ bQ) 0 1 2 3 4 (.bool y0) (.bool y1) (.bool y2) (.bool y3) (.bool y4))
                refine wpAnyH_ready (rs := [19]) (by as_aux_lemma => kernel_rfl) (by simp) ?_
                refine AllReadyH.cons (o := { dst := none, op := Op.store 49 (Operand.tmp 11) (Operand.tmp 45), type := 0, pos := "law.go:54", after := #[{ on := 17, ground := Ground.data }, { on := 14, ground := Ground.data }, { on := 18, ground := Ground.chain }, { on := 0, ground := Ground.phase }, { on := 1, ground := Ground.phase }, { on := 2, ground := Ground.phase }, { on := 3, ground := Ground.phase }, { on := 4, ground := Ground.phase }, { on := 5, ground := Ground.phase }, { on := 6, ground := Ground.phase }, { on := 7, ground := Ground.phase }, { on := 8, ground := Ground.phase }, { on := 9, ground := Ground.phase }, { on := 10, ground := Ground.phase }, { on := 11, ground := Ground.phase }, { on := 12, ground := Ground.phase }, { on := 13, ground := Ground.phase }, { on := 14, ground := Ground.phase }, { on := 15, ground := Ground.textOnly Departure.lateStores }, { on := 16, ground := Ground.phase }, { on := 17, ground := Ground.phase }, { on := 18, ground := Ground.phase }], guard := none }) rfl (fun Kx hK => ?_) AllReadyH.nil
                go_simp
                refine hK.out _ _ ?_ (fun hHeld2 => ?_)
                · exact keepM FS2.out (M1.out _ FB2.out)
                clear hK Kx hHeld
                have hHeld := hHeld2
                clear hHeld2
                try simp only [Act.put, List.setIfInBounds_toArray, List.set_cons_zero, List.set_cons_succ]
                clear FB FS FP FQ g0 g1 g2 g3 g4 f0 f1 f2 f3 f4
                have FB := FB2
                clear FB2
                have FS := FS2
                clear FS2
                have FP := FP2
                clear FP2
                have FQ := FQ2
                clear FQ2
                as_aux_lemma =>
                  refine wpAnyH_take (i := 20) (oi := { dst := some 12, op := Op.assign (Operand.tmp 46), type := 35, pos := "law.go:54", after := #[{ on := 15, ground := Ground.data }, { on := 19, ground := Ground.chain }, { on := 0, ground := Ground.phase }, { on := 1, ground := Ground.phase }, { on := 2, ground := Ground.phase }, { on := 3, ground := Ground.phase }, { on := 4, ground := Ground.phase }, { on := 5, ground := Ground.phase }, { on := 6, ground := Ground.phase }, { on := 7, ground := Ground.phase }, { on := 8, ground := Ground.phase }, { on := 9, ground := Ground.phase }, { on := 10, ground := Ground.phase }, { on := 11, ground := Ground.phase }, { on := 12, ground := Ground.phase }, { on := 13, ground := Ground.phase }, { on := 14, ground := Ground.phase }, { on := 15, ground := Ground.phase }, { on := 16, ground := Ground.phase }, { on := 17, ground := Ground.phase }, { on := 18, ground := Ground.phase }, { on := 19, ground := Ground.phase }], guard := none }) (v := ?_) rfl (by as_aux_lemma => kernel_rfl) (by as_aux_lemma => kernel_rfl) (by as_aux_lemma => kernel_rfl) (fun _ _ _ h => h) (Or.inl ⟨by rfl, ?_⟩) (by assumption) ?_
                  rotate_left
                  · as_aux_lemma =>
                      intro w' hSw
                      try dsimp only at hSw
                      go_simp
                      try with_reducible rfl
                  try simp only [Act.put, List.setIfInBounds_toArray, List.set_cons_zero, List.set_cons_succ]
                  refine wpAnyH_done (by as_aux_lemma => kernel_rfl) ?_ _
                  go_wp2_with fail
                  go_meet
                  exact ⟨bP, bQ, rfl, rfl, rfl, FP, FQ, Lib.hid hP, Lib.hid hQ, FS, FB⟩
            · skip
              go_simp
              have bb := bl_newZ X1 (.cells #[.bool false, .bool false, .bool false, .bool false, .bool false] 49)
              have FB2 := Lib.hid (FB.out.trans (bb.mono FB.out.size))
              have FS2 := Lib.hid (FS.out.later bb)
              have FP2 := Lib.hid (heapUp FP.out bb)
              have FQ2 : Hid ((X1.alloc (.cells #[.bool false, .bool false, .bool false, .bool false, .bool false] 49)).heap[X1.heap.size]? = some (.cells #[.bool false, .bool false, .bool false, .bool false, .bool false] 49 (0, 0))) := Lib.hid (heap_alloc_new X1 _)
              have hQ : w.heap.size + 4 ≤ X1.heap.size := FS.out.top
              have hPQ : bP < X1.heap.size := (Array.getElem?_eq_some_iff.1 FP.out).1
              refine hK.out _ _ ?_ (fun hHeld2 => ?_)
              · exact keepM FS2.out (M1.out _ FB2.out)
              clear hK Kx hHeld
              have hHeld := hHeld2
              clear hHeld2
              try simp only [Act.put, List.setIfInBounds_toArray, List.set_cons_zero, List.set_cons_succ]
              clear FB FS bb FP
              generalize X1.alloc (.cells #[.bool false, .bool false, .bool false, .bool false, .bool false] 49) = X2 at FB2 FS2 FP2 FQ2 hHeld ⊢
              generalize X1.heap.size = bQ at FQ2 hQ hPQ ⊢
              have FB := FB2
              clear FB2
              have FS := FS2
              clear FS2
              have FP := FP2
              clear FP2
              have FQ := FQ2
              clear FQ2
              refine wpAnyH_ready (rs := [11]) (by as_aux_lemma => kernel_rfl) (by simp) ?_
              refine AllReadyH.cons (o := { dst := some 43, op := Op.call { callee := Callee.value (Operand.func 34), args := #[Operand.tmp 34, Operand.tmp 37, Operand.tmp 42], argTypes := #[49, 49, 3] }, type := 54, pos := "law.go:54", after := #[{ on := 2, ground := Ground.data }, { on := 5, ground := Ground.data }, { on := 10, ground := Ground.data }], guard := none }) rfl (fun Kx hK => ?_) AllReadyH.nil
              · skip
                go_simp
                refine (HA.out _).mono ?_
                rintro e X3 ⟨rfl, b9⟩
                have FB2 := Lib.hid (FB.out.trans (b9.mono FB.out.size))
                have FS2 := Lib.hid (FS.out.later b9)
                have FP2 := Lib.hid (heapUp FP.out b9)
                have FQ2 := Lib.hid (heapUp FQ.out b9)
                go_wp2_with fail
                refine hK.out _ _ ?_ (fun hHeld2 => ?_)
                · exact keepM FS2.out (M1.out _ FB2.out)
                clear hK Kx hHeld
                have hHeld := hHeld2
                clear hHeld2
                try simp only [Act.put, List.setIfInBounds_toArray, List.set_cons_zero, List.set_cons_succ]
                clear FB FS b9 FP FQ
                have FB := FB2
                clear FB2
                have FS := FS2
                clear FS2
                have FP := FP2
                clear FP2
                have FQ := FQ2
                clear FQ2
                refine wpAnyH_take (i := 12) (oi := { dst := some 31, op := Op.move (Operand.tmp 43), type := 54, pos := "law.go:54", after := #[{ on := 11, ground := Ground.data }], guard := none }) (v := ?_) rfl (by as_aux_lemma => kernel_rfl) (by as_aux_lemma => kernel_rfl) (by as_aux_lemma => kernel_rfl) (fun _ _ _ h => h) (Or.inl ⟨by rfl, ?_⟩) (by assumption) ?_
                rotate_left
                · as_aux_lemma =>
                    intro w' hSw
                    try dsimp only at hSw
                    go_simp
                    try with_reducible rfl
                try simp only [Act.put, List.setIfInBounds_toArray, List.set_cons_zero, List.set_cons_succ]
                refine wpAnyH_take (i := 13) (oi := { dst := some 44, op := Op.extract (Operand.tmp 31) 0, type := 49, pos := "law.go:54", after := #[{ on := 12, ground := Ground.data }], guard := none }) (v := ?_) rfl (by as_aux_lemma => kernel_rfl) (by as_aux_lemma => kernel_rfl) (by as_aux_lemma => kernel_rfl) (fun _ _ _ h => h) (Or.inl ⟨by rfl, ?_⟩) (by assumption) ?_
                rotate_left
                · as_aux_lemma =>
                    intro w' hSw
                    try dsimp only at hSw
                    go_simp
                    try with_reducible rfl
                try simp only [Act.put, List.setIfInBounds_toArray, List.set_cons_zero, List.set_cons_succ]
                refine wpAnyH_take (i := 14) (oi := { dst := some 45, op := Op.extract (Operand.tmp 31) 1, type := 49, pos := "law.go:54", after := #[{ on := 12, ground := Ground.data }, { on := 18, ground := Ground.gcOnly Departure.lateStores }], guard := none }) (v := ?_) rfl (by as_aux_lemma => kernel_rfl) (by as_aux_lemma => kernel_rfl) (by as_aux_lemma => kernel_rfl) (fun _ _ _ h => h) (Or.inl ⟨by rfl, ?_⟩) (by assumption) ?_
                rotate_left
                · as_aux_lemma =>
                    intro w' hSw
                    try dsimp only at hSw
                    go_simp
                    try with_reducible rfl
                try simp only [Act.put, List.setIfInBounds_toArray, List.set_cons_zero, List.set_cons_succ]
                refine wpAnyH_take (i := 15) (oi := { dst := some 46, op := Op.extract (Operand.tmp 31) 2, type := 35, pos := "law.go:54", after := #[{ on := 12, ground := Ground.data }, { on := 19, ground := Ground.gcOnly Departure.lateStores }], guard := none }) (v := ?_) rfl (by as_aux_lemma => kernel_rfl) (by as_aux_lemma => kernel_rfl) (by as_aux_lemma => kernel_rfl) (fun _ _ _ h => h) (Or.inl ⟨by rfl, ?_⟩) (by assumption) ?_
                rotate_left
                · as_aux_lemma =>
                    intro w' hSw
                    try dsimp only at hSw
                    go_simp
                    try with_reducible rfl
                try simp only [Act.put, List.setIfInBounds_toArray, List.set_cons_zero, List.set_cons_succ]
                obtain ⟨g0, g1, g2, g3, g4⟩ := five_cells FP.out
                obtain ⟨f0, f1, f2, f3, f4, -⟩ := ten_free FP.out
                have FP2 := Lib.hid (set5 (x0 := .bool x0) (x1 := .bool x1) (x2 := .bool x2) (x3 := .bool x3) (x4 := .bool x4) FP.out)
                have FQ2 := Lib.hid (other5 FQ.out (by omega : bP ≠ bQ) 0 1 2 3 4 (.bool x0) (.bool x1) (.bool x2) (.bool x3) (.bool x4))
                have FS2 := Lib.hid (FS.out.other5 hP 0 1 2 3 4 (.bool x0) (.bool x1) (.bool x2) (.bool x3) (.bool x4))
                have FB2 := Lib.hid (below5 FB.out (by omega : w.heap.size ≤ bP) 0 1 2 3 4 (.bool x0) (.bool x1) (.bool x2) (.bool x3) (.bool x4))
                refine wpAnyH_ready (rs := [18]) (by as_aux_lemma => kernel_rfl) (by simp) ?_
                refine AllReadyH.cons (o := { dst := none, op := Op.store 49 (Operand.tmp 10) (Operand.tmp 44), type := 0, pos := "law.go:54", after := #[{ on := 16, ground := Ground.data }, { on := 13, ground := Ground.data }, { on := 11, ground := Ground.chain }, { on := 0, ground := Ground.phase }, { on := 1, ground := Ground.phase }, { on := 2, ground := Ground.phase }, { on := 3, ground := Ground.phase }, { on := 4, ground := Ground.phase }, { on := 5, ground := Ground.phase }, { on := 6, ground := Ground.phase }, { on := 7, ground := Ground.phase }, { on := 8, ground := Ground.phase }, { on := 9, ground := Ground.phase }, { on := 10, ground := Ground.phase }, { on := 11, ground := Ground.phase }, { on := 12, ground := Ground.phase }, { on := 13, ground := Ground.phase }, { on := 14, ground := Ground.textOnly Departure.lateStores }, { on := 15, ground := Ground.textOnly Departure.lateStores }, { on := 16, ground := Ground.phase }, { on := 17, ground := Ground.phase }], guard := none }) rfl (fun Kx hK => ?_) AllReadyH.nil
                go_simp
                refine hK.out _ _ ?_ (fun hHeld2 => ?_)
                · exact keepM FS2.out (M1.out _ FB2.out)
                clear hK Kx hHeld
                have hHeld := hHeld2
                clear hHeld2
                try simp only [Act.put, List.setIfInBounds_toArray, List.set_cons_zero, List.set_cons_succ]
                clear FB FS FP FQ g0 g1 g2 g3 g4 f0 f1 f2 f3 f4
                have FB := FB2
                clear FB2
                have FS := FS2
                clear FS2
                have FP := FP2
                clear FP2
                have FQ := FQ2
                clear FQ2
                obtain ⟨g0, g1, g2, g3, g4⟩ := five_cells FQ.out
                obtain ⟨f0, f1, f2, f3, f4, -⟩ := ten_free FQ.out
                have FQ2 := Lib.hid (set5 (x0 := .bool y0) (x1 := .bool y1) (x2 := .bool y2) (x3 := .bool y3) (x4 := .bool y4) FQ.out)
                have FP2 := Lib.hid (other5 FP.out (by omega : bQ ≠ bP) 0 1 2 3 4 (.bool y0) (.bool y1) (.bool y2) (.bool y3) (.bool y4))
                have FS2 := Lib.hid (FS.out.other5 hQ 0 1 2 3 4 (.bool y0) (.bool y1) (.bool y2) (.bool y3) (.bool y4))
                have FB2 := Lib.hid (below5 FB.out (by omega : w.heap.size ≤ bQ) 0 1 2 3 4 (.bool y0) (.bool y1) (.bool y2) (.bool y3) (.bool y4))
                refine wpAnyH_ready (rs := [19]) (by as_aux_lemma => kernel_rfl) (by simp) ?_
                refine AllReadyH.cons (o := { dst := none, op := Op.store 49 (Operand.tmp 11) (Operand.tmp 45), type := 0, pos := "law.go:54", after := #[{ on := 17, ground := Ground.data }, { on := 14, ground := Ground.data }, { on := 18, ground := Ground.chain }, { on := 0, ground := Ground.phase }, { on := 1, ground := Ground.phase }, { on := 2, ground := Ground.phase }, { on := 3, ground := Ground.phase }, { on := 4, ground := Ground.phase }, { on := 5, ground := Ground.phase }, { on := 6, ground := Ground.phase }, { on := 7, ground := Ground.phase }, { on := 8, ground := Ground.phase }, { on := 9, ground := Ground.phase }, { on := 10, ground := Ground.phase }, { on := 11, ground := Ground.phase }, { on := 12, ground := Ground.phase }, { on := 13, ground := Ground.phase }, { on := 14, ground := Ground.phase }, { on := 15, ground := Ground.textOnly Departure.lateStores }, { on := 16, ground := Ground.phase }, { on := 17, ground := Ground.phase }, { on := 18, ground := Ground.phase }], guard := none }) rfl (fun Kx hK => ?_) AllReadyH.nil
                go_simp
                refine hK.out _ _ ?_ (fun hHeld2 => ?_)
                · exact keepM FS2.out (M1.out _ FB2.out)
                clear hK Kx hHeld
                have hHeld := hHeld2
                clear hHeld2
                try simp only [Act.put, List.setIfInBounds_toArray, List.set_cons_zero, List.set_cons_succ]
                clear FB FS FP FQ g0 g1 g2 g3 g4 f0 f1 f2 f3 f4
                have FB := FB2
                clear FB2
                have FS := FS2
                clear FS2
                have FP := FP2
                clear FP2
                have FQ := FQ2
                clear FQ2
                as_aux_lemma =>
                  refine wpAnyH_take (i := 20) (oi := { dst := some 12, op := Op.assign (Operand.tmp 46), type := 35, pos := "law.go:54", after := #[{ on := 15, ground := Ground.data }, { on := 19, ground := Ground.chain }, { on := 0, ground := Ground.phase }, { on := 1, ground := Ground.phase }, { on := 2, ground := Ground.phase }, { on := 3, ground := Ground.phase }, { on := 4, ground := Ground.phase }, { on := 5, ground := Ground.phase }, { on := 6, ground := Ground.phase }, { on := 7, ground := Ground.phase }, { on := 8, ground := Ground.phase }, { on := 9, ground := Ground.phase }, { on := 10, ground := Ground.phase }, { on := 11, ground := Ground.phase }, { on := 12, ground := Ground.phase }, { on := 13, ground := Ground.phase }, { on := 14, ground := Ground.phase }, { on := 15, ground := Ground.phase }, { on := 16, ground := Ground.phase }, { on := 17, ground := Ground.phase }, { on := 18, ground := Ground.phase }, { on := 19, ground := Ground.phase }], guard := none }) (v := ?_) rfl (by as_aux_lemma => kernel_rfl) (by as_aux_lemma => kernel_rfl) (by as_aux_lemma => kernel_rfl) (fun _ _ _ h => h) (Or.inl ⟨by rfl, ?_⟩) (by assumption) ?_
                  rotate_left
                  · as_aux_lemma =>
                      intro w' hSw
                      try dsimp only at hSw
                      go_simp
                      try with_reducible rfl
                  try simp only [Act.put, List.setIfInBounds_toArray, List.set_cons_zero, List.set_cons_succ]
                  refine wpAnyH_done (by as_aux_lemma => kernel_rfl) ?_ _
                  go_wp2_with fail
                  go_meet
                  exact ⟨bP, bQ, rfl, rfl, rfl, FP, FQ, Lib.hid hP, Lib.hid hQ, FS, FB⟩
          · skip
            go_simp
            have bb := bl_newZ X0 (.cells #[.bool false, .bool false, .bool false, .bool false, .bool false] 49)
            have FB2 := Lib.hid (FB.out.trans (bb.mono FB.out.size))
            have FS2 := Lib.hid (FS.out.later bb)
            have FQ2 : Hid ((X0.alloc (.cells #[.bool false, .bool false, .bool false, .bool false, .bool false] 49)).heap[X0.heap.size]? = some (.cells #[.bool false, .bool false, .bool false, .bool false, .bool false] 49 (0, 0))) := Lib.hid (heap_alloc_new X0 _)
            have hQ : w.heap.size + 4 ≤ X0.heap.size := FS.out.top
            refine hK.out _ _ ?_ (fun hHeld2 => ?_)
            · exact keepM FS2.out (M1.out _ FB2.out)
            clear hK Kx hHeld
            have hHeld := hHeld2
            clear hHeld2
            try simp only [Act.put, List.setIfInBounds_toArray, List.set_cons_zero, List.set_cons_succ]
            clear FB FS bb 
            generalize X0.alloc (.cells #[.bool false, .bool false, .bool false, .bool false, .bool false] 49) = X1 at FB2 FS2 FQ2 hHeld ⊢
            generalize X0.heap.size = bQ at FQ2 hQ ⊢
            have FB := FB2
            clear FB2
            have FS := FS2
            clear FS2
            have FQ := FQ2
            clear FQ2
            refine wpAnyH_ready (rs := [11, 16]) (by as_aux_lemma => kernel_rfl) (by simp) ?_
            refine AllReadyH.cons (o := { dst := some 43, op := Op.call { callee := Callee.value (Operand.func 34), args := #[Operand.tmp 34, Operand.tmp 37, Operand.tmp 42], argTypes := #[49, 49, 3] }, type := 54, pos := "law.go:54", after := #[{ on := 2, ground := Ground.data }, { on := 5, ground := Ground.data }, { on := 10, ground := Ground.data }], guard := none }) rfl (fun Kx hK => ?_) (AllReadyH.cons (o := { dst := some 10, op := Op.alloc 49, type := 0, pos := "law.go:54", after := #[], guard := none }) rfl (fun Kx hK => ?_) AllReadyH.nil)
            · skip
              go_simp
              refine (HA.out _).mono ?_
              rintro e X2 ⟨rfl, b9⟩
              have FB2 := Lib.hid (FB.out.trans (b9.mono FB.out.size))
              have FS2 := Lib.hid (FS.out.later b9)
              have FQ2 := Lib.hid (heapUp FQ.out b9)
              go_wp2_with fail
              refine hK.out _ _ ?_ (fun hHeld2 => ?_)
              · exact keepM FS2.out (M1.out _ FB2.out)
              clear hK Kx hHeld
              have hHeld := hHeld2
              clear hHeld2
              try simp only [Act.put, List.setIfInBounds_toArray, List.set_cons_zero, List.set_cons_succ]
              clear FB FS b9 FQ
              have FB := FB2
              clear FB2
              have FS := FS2
              clear FS2
              have FQ := FQ2
              clear FQ2
              refine wpAnyH_take (i := 12) (oi := { dst := some 31, op := Op.move (Operand.tmp 43), type := 54, pos := "law.go:54", after := #[{ on := 11, ground := Ground.data }], guard := none }) (v := ?_) rfl (by as_aux_lemma => kernel_rfl) (by as_aux_lemma => kernel_rfl) (by as_aux_lemma => kernel_rfl) (fun _ _ _ h => h) (Or.inl ⟨by rfl, ?_⟩) (by assumption) ?_
              rotate_left
              · as_aux_lemma =>
                  intro w' hSw
                  try dsimp only at hSw
                  go_simp
                  try with_reducible rfl
              try simp only [Act.put, List.setIfInBounds_toArray, List.set_cons_zero, List.set_cons_succ]
              refine wpAnyH_take (i := 13) (oi := { dst := some 44, op := Op.extract (Operand.tmp 31) 0, type := 49, pos := "law.go:54", after := #[{ on := 12, ground := Ground.data }], guard := none }) (v := ?_) rfl (by as_aux_lemma => kernel_rfl) (by as_aux_lemma => kernel_rfl) (by as_aux_lemma => kernel_rfl) (fun _ _ _ h => h) (Or.inl ⟨by rfl, ?_⟩) (by assumption) ?_
              rotate_left
              · as_aux_lemma =>
                  intro w' hSw
                  try dsimp only at hSw
                  go_simp
                  try with_reducible rfl
              try simp only [Act.put, List.setIfInBounds_toArray, List.set_cons_zero, List.set_cons_succ]
              refine wpAnyH_take (i := 14) (oi := { dst := some 45, op := Op.extract (Operand.tmp 31) 1, type := 49, pos := "law.go:54", after := #[{ on := 12, ground := Ground.data }, { on := 18, ground := Ground.gcOnly Departure.lateStores }], guard := none }) (v := ?_) rfl (by as_aux_lemma => kernel_rfl) (by as_aux_lemma => kernel_rfl) (by as_aux_lemma => kernel_rfl) (fun _ _ _ h => h) (Or.inl ⟨by rfl, ?_⟩) (by assumption) ?_
              rotate_left
              · as_aux_lemma =>
                  intro w' hSw
                  try dsimp only at hSw
                  go_simp
                  try with_reducible rfl
              try simp only [Act.put, List.setIfInBounds_toArray, List.set_cons_zero, List.set_cons_succ]
              refine wpAnyH_take (i := 15) (oi := { dst := some 46, op := Op.extract (Operand.tmp 31) 2, type := 35, pos := "law.go:54", after := #[{ on := 12, ground := Ground.data }, { on := 19, ground := Ground.gcOnly Departure.lateStores }], guard := none }) (v := ?_) rfl (by as_aux_lemma => kernel_rfl) (by as_aux_lemma => kernel_rfl) (by as_aux_lemma => kernel_rfl) (fun _ _ _ h => h) (Or.inl ⟨by rfl, ?_⟩) (by assumption) ?_
              rotate_left
              · as_aux_lemma =>
                  intro w' hSw
                  try dsimp only at hSw
                  go_simp
                  try with_reducible rfl
              try simp only [Act.put, List.setIfInBounds_toArray, List.set_cons_zero, List.set_cons_succ]
              refine wpAnyH_ready (rs := [16]) (by as_aux_lemma => kernel_rfl) (by simp) ?_
              refine AllReadyH.cons (o := { dst := some 10, op := Op.alloc 49, type := 0, pos := "law.go:54", after := #[], guard := none }) rfl (fun Kx hK => ?_) AllReadyH.nil
              · skip
                go_simp
                have bb := bl_newZ X2 (.cells #[.bool false, .bool false, .bool false, .bool false, .bool false] 49)
                have FB2 := Lib.hid (FB.out.trans (bb.mono FB.out.size))
                have FS2 := Lib.hid (FS.out.later bb)
                have FQ2 := Lib.hid (heapUp FQ.out bb)
                have FP2 : Hid ((X2.alloc (.cells #[.bool false, .bool false, .bool false, .bool false, .bool false] 49)).heap[X2.heap.size]? = some (.cells #[.bool false, .bool false, .bool false, .bool false, .bool false] 49 (0, 0))) := Lib.hid (heap_alloc_new X2 _)
                have hP : w.heap.size + 4 ≤ X2.heap.size := FS.out.top
                have hPQ : bQ < X2.heap.size := (Array.getElem?_eq_some_iff.1 FQ.out).1
                refine hK.out _ _ ?_ (fun hHeld2 => ?_)
                · exact keepM FS2.out (M1.out _ FB2.out)
                clear hK Kx hHeld
                have hHeld := hHeld2
                clear hHeld2
                try simp only [Act.put, List.setIfInBounds_toArray, List.set_cons_zero, List.set_cons_succ]
                clear FB FS bb FQ
                generalize X2.alloc (.cells #[.bool false, .bool false, .bool false, .bool false, .bool false] 49) = X3 at FB2 FS2 FP2 FQ2 hHeld ⊢
                generalize X2.heap.size = bP at FP2 hP hPQ ⊢
                have FB := FB2
                clear FB2
                have FS := FS2
                clear FS2
                have FP := FP2
                clear FP2
                have FQ := FQ2
                clear FQ2
                obtain ⟨g0, g1, g2, g3, g4⟩ := five_cells FP.out
                obtain ⟨f0, f1, f2, f3, f4, -⟩ := ten_free FP.out
                have FP2 := Lib.hid (set5 (x0 := .bool x0) (x1 := .bool x1) (x2 := .bool x2) (x3 := .bool x3) (x4 := .bool x4) FP.out)
                have FQ2 := Lib.hid (other5 FQ.out (by omega : bP ≠ bQ) 0 1 2 3 4 (.bool x0) (.bool x1) (.bool x2) (.bool x3) (.bool x4))
                have FS2 := Lib.hid (FS.out.other5 hP 0 1 2 3 4 (.bool x0) (.bool x1) (.bool x2) (.bool x3) (.bool x4))
                have FB2 := Lib.hid (below5 FB.out (by omega : w.heap.size ≤ bP) 0 1 2 3 4 (.bool x0) (.bool x1) (.bool x2) (.bool x3) (.bool x4))
                refine wpAnyH_ready (rs := [18]) (by as_aux_lemma => kernel_rfl) (by simp) ?_
                refine AllReadyH.cons (o := { dst := none, op := Op.store 49 (Operand.tmp 10) (Operand.tmp 44), type := 0, pos := "law.go:54", after := #[{ on := 16, ground := Ground.data }, { on := 13, ground := Ground.data }, { on := 11, ground := Ground.chain }, { on := 0, ground := Ground.phase }, { on := 1, ground := Ground.phase }, { on := 2, ground := Ground.phase }, { on := 3, ground := Ground.phase }, { on := 4, ground := Ground.phase }, { on := 5, ground := Ground.phase }, { on := 6, ground := Ground.phase }, { on := 7, ground := Ground.phase }, { on := 8, ground := Ground.phase }, { on := 9, ground := Ground.phase }, { on := 10, ground := Ground.phase }, { on := 11, ground := Ground.phase }, { on := 12, ground := Ground.phase }, { on := 13, ground := Ground.phase }, { on := 14, ground := Ground.textOnly Departure.lateStores }, { on := 15, ground := Ground.textOnly Departure.lateStores }, { on := 16, ground := Ground.phase }, { on := 17, ground := Ground.phase }], guard := none }) rfl (fun Kx hK => ?_) AllReadyH.nil
                go_simp
                refine hK.out _ _ ?_ (fun hHeld2 => ?_)
                · exact keepM FS2.out (M1.out _ FB2.out)
                clear hK Kx hHeld
                have hHeld := hHeld2
                clear hHeld2
                try simp only [Act.put, List.setIfInBounds_toArray, List.set_cons_zero, List.set_cons_succ]
                clear FB FS FP FQ g0 g1 g2 g3 g4 f0 f1 f2 f3 f4
                have FB := FB2
                clear FB2
                have FS := FS2
                clear FS2
                have FP := FP2
                clear FP2
                have FQ := FQ2
                clear FQ2
                obtain ⟨g0, g1, g2, g3, g4⟩ := five_cells FQ.out
                obtain ⟨f0, f1, f2, f3, f4, -⟩ := ten_free FQ.out
                have FQ2 := Lib.hid (set5 (x0 := .bool y0) (x1 := .bool y1) (x2 := .bool y2) (x3 := .bool y3) (x4 := .bool y4) FQ.out)
                have FP2 := Lib.hid (other5 FP.out (by omega : bQ ≠ bP) 0 1 2 3 4 (.bool y0) (.bool y1) (.bool y2) (.bool y3) (.bool y4))
                have FS2 := Lib.hid (FS.out.other5 hQ 0 1 2 3 4 (.bool y0) (.bool y1) (.bool y2) (.bool y3) (.bool y4))
                have FB2 := Lib.hid (below5 FB.out (by omega : w.heap.size ≤ bQ) 0 1 2 3 4 (.bool y0) (.bool y1) (.bool y2) (.bool y3) (.bool y4))
                refine wpAnyH_ready (rs := [19]) (by as_aux_lemma => kernel_rfl) (by simp) ?_
                refine AllReadyH.cons (o := { dst := none, op := Op.store 49 (Operand.tmp 11) (Operand.tmp 45), type := 0, pos := "law.go:54", after := #[{ on := 17, ground := Ground.data }, { on := 14, ground := Ground.data }, { on := 18, ground := Ground.chain }, { on := 0, ground := Ground.phase }, { on := 1, ground := Ground.phase }, { on := 2, ground := Ground.phase }, { on := 3, ground := Ground.phase }, { on := 4, ground := Ground.phase }, { on := 5, ground := Ground.phase }, { on := 6, ground := Ground.phase }, { on := 7, ground := Ground.phase }, { on := 8, ground := Ground.phase }, { on := 9, ground := Ground.phase }, { on := 10, ground := Ground.phase }, { on := 11, ground := Ground.phase }, { on := 12, ground := Ground.phase }, { on := 13, ground := Ground.phase }, { on := 14, ground := Ground.phase }, { on := 15, ground := Ground.textOnly Departure.lateStores }, { on := 16, ground := Ground.phase }, { on := 17, ground := Ground.phase }, { on := 18, ground := Ground.phase }], guard := none }) rfl (fun Kx hK => ?_) AllReadyH.nil
                go_simp
                refine hK.out _ _ ?_ (fun hHeld2 => ?_)
                · exact keepM FS2.out (M1.out _ FB2.out)
                clear hK Kx hHeld
                have hHeld := hHeld2
                clear hHeld2
                try simp only [Act.put, List.setIfInBounds_toArray, List.set_cons_zero, List.set_cons_succ]
                clear FB FS FP FQ g0 g1 g2 g3 g4 f0 f1 f2 f3 f4
                have FB := FB2
                clear FB2
                have FS := FS2
                clear FS2
                have FP := FP2
                clear FP2
                have FQ := FQ2
                clear FQ2
                as_aux_lemma =>
                  refine wpAnyH_take (i := 20) (oi := { dst := some 12, op := Op.assign (Operand.tmp 46), type := 35, pos := "law.go:54", after := #[{ on := 15, ground := Ground.data }, { on := 19, ground := Ground.chain }, { on := 0, ground := Ground.phase }, { on := 1, ground := Ground.phase }, { on := 2, ground := Ground.phase }, { on := 3, ground := Ground.phase }, { on := 4, ground := Ground.phase }, { on := 5, ground := Ground.phase }, { on := 6, ground := Ground.phase }, { on := 7, ground := Ground.phase }, { on := 8, ground := Ground.phase }, { on := 9, ground := Ground.phase }, { on := 10, ground := Ground.phase }, { on := 11, ground := Ground.phase }, { on := 12, ground := Ground.phase }, { on := 13, ground := Ground.phase }, { on := 14, ground := Ground.phase }, { on := 15, ground := Ground.phase }, { on := 16, ground := Ground.phase }, { on := 17, ground := Ground.phase }, { on := 18, ground := Ground.phase }, { on := 19, ground := Ground.phase }], guard := none }) (v := ?_) rfl (by as_aux_lemma => kernel_rfl) (by as_aux_lemma => kernel_rfl) (by as_aux_lemma => kernel_rfl) (fun _ _ _ h => h) (Or.inl ⟨by rfl, ?_⟩) (by assumption) ?_
                  rotate_left
                  · as_aux_lemma =>
                      intro w' hSw
                      try dsimp only at hSw
                      go_simp
                      try with_reducible rfl
                  try simp only [Act.put, List.setIfInBounds_toArray, List.set_cons_zero, List.set_cons_succ]
                  refine wpAnyH_done (by as_aux_lemma => kernel_rfl) ?_ _
                  go_wp2_with fail
                  go_meet
                  exact ⟨bP, bQ, rfl, rfl, rfl, FP, FQ, Lib.hid hP, Lib.hid hQ, FS, FB⟩
            · skip
              go_simp
              have bb := bl_newZ X1 (.cells #[.bool false, .bool false, .bool false, .bool false, .bool false] 49)
              have FB2 := Lib.hid (FB.out.trans (bb.mono FB.out.size))
              have FS2 := Lib.hid (FS.out.later bb)
              have FQ2 := Lib.hid (heapUp FQ.out bb)
              have FP2 : Hid ((X1.alloc (.cells #[.bool false, .bool false, .bool false, .bool false, .bool false] 49)).heap[X1.heap.size]? = some (.cells #[.bool false, .bool false, .bool false, .bool false, .bool false] 49 (0, 0))) := Lib.hid (heap_alloc_new X1 _)
              have hP : w.heap.size + 4 ≤ X1.heap.size := FS.out.top
              have hPQ : bQ < X1.heap.size := (Array.getElem?_eq_some_iff.1 FQ.out).1
              refine hK.out _ _ ?_ (fun hHeld2 => ?_)
              · exact keepM FS2.out (M1.out _ FB2.out)
              clear hK Kx hHeld
              have hHeld := hHeld2
              clear hHeld2
              try simp only [Act.put, List.setIfInBounds_toArray, List.set_cons_zero, List.set_cons_succ]
              clear FB FS bb FQ
              generalize X1.alloc (.cells #[.bool false, .bool false, .bool false, .bool false, .bool false] 49) = X2 at FB2 FS2 FP2 FQ2 hHeld ⊢
              generalize X1.heap.size = bP at FP2 hP hPQ ⊢
              have FB := FB2
              clear FB2
              have FS := FS2
              clear FS2
              have FP := FP2
              clear FP2
              have FQ := FQ2
              clear FQ2
              refine wpAnyH_ready (rs := [11]) (by as_aux_lemma => kernel_rfl) (by simp) ?_
              refine AllReadyH.cons (o := { dst := some 43, op := Op.call { callee := Callee.value (Operand.func 34), args := #[Operand.tmp 34, Operand.tmp 37, Operand.tmp 42], argTypes := #[49, 49, 3] }, type := 54, pos := "law.go:54", after := #[{ on := 2, ground := Ground.data }, { on := 5, ground := Ground.data }, { on := 10, ground := Ground.data }], guard := none }) rfl (fun Kx hK => ?_) AllReadyH.nil
              · skip
                go_simp
                refine (HA.out _).mono ?_
                rintro e X3 ⟨rfl, b9⟩
                have FB2 := Lib.hid (FB.out.trans (b9.mono FB.out.size))
                have FS2 := Lib.hid (FS.out.later b9)
                have FP2 := Lib.hid (heapUp FP.out b9)
                have FQ2 := Lib.hid (heapUp FQ.out b9)
                go_wp2_with fail
                refine hK.out _ _ ?_ (fun hHeld2 => ?_)
                · exact keepM FS2.out (M1.out _ FB2.out)
                clear hK Kx hHeld
                have hHeld := hHeld2
                clear hHeld2
                try simp only [Act.put, List.setIfInBounds_toArray, List.set_cons_zero, List.set_cons_succ]
                clear FB FS b9 FP FQ
                have FB := FB2
                clear FB2
                have FS := FS2
                clear FS2
                have FP := FP2
                clear FP2
                have FQ := FQ2
                clear FQ2
                refine wpAnyH_take (i := 12) (oi := { dst := some 31, op := Op.move (Operand.tmp 43), type := 54, pos := "law.go:54", after := #[{ on := 11, ground := Ground.data }], guard := none }) (v := ?_) rfl (by as_aux_lemma => kernel_rfl) (by as_aux_lemma => kernel_rfl) (by as_aux_lemma => kernel_rfl) (fun _ _ _ h => h) (Or.inl ⟨by rfl, ?_⟩) (by assumption) ?_
                rotate_left
                · as_aux_lemma =>
                    intro w' hSw
                    try dsimp only at hSw
                    go_simp
                    try with_reducible rfl
                try simp only [Act.put, List.setIfInBounds_toArray, List.set_cons_zero, List.set_cons_succ]
                refine wpAnyH_take (i := 13) (oi := { dst := some 44, op := Op.extract (Operand.tmp 31) 0, type := 49, pos := "law.go:54", after := #[{ on := 12, ground := Ground.data }], guard := none }) (v := ?_) rfl (by as_aux_lemma => kernel_rfl) (by as_aux_lemma => kernel_rfl) (by as_aux_lemma => kernel_rfl) (fun _ _ _ h => h) (Or.inl ⟨by rfl, ?_⟩) (by assumption) ?_
                rotate_left
                · as_aux_lemma =>
                    intro w' hSw
                    try dsimp only at hSw
                    go_simp
                    try with_reducible rfl
                try simp only [Act.put, List.setIfInBounds_toArray, List.set_cons_zero, List.set_cons_succ]
                refine wpAnyH_take (i := 14) (oi := { dst := some 45, op := Op.extract (Operand.tmp 31) 1, type := 49, pos := "law.go:54", after := #[{ on := 12, ground := Ground.data }, { on := 18, ground := Ground.gcOnly Departure.lateStores }], guard := none }) (v := ?_) rfl (by as_aux_lemma => kernel_rfl) (by as_aux_lemma => kernel_rfl) (by as_aux_lemma => kernel_rfl) (fun _ _ _ h => h) (Or.inl ⟨by rfl, ?_⟩) (by assumption) ?_
                rotate_left
                · as_aux_lemma =>
                    intro w' hSw
                    try dsimp only at hSw
                    go_simp
                    try with_reducible rfl
                try simp only [Act.put, List.setIfInBounds_toArray, List.set_cons_zero, List.set_cons_succ]
                refine wpAnyH_take (i := 15) (oi := { dst := some 46, op := Op.extract (Operand.tmp 31) 2, type := 35, pos := "law.go:54", after := #[{ on := 12, ground := Ground.data }, { on := 19, ground := Ground.gcOnly Departure.lateStores }], guard := none }) (v := ?_) rfl (by as_aux_lemma => kernel_rfl) (by as_aux_lemma => kernel_rfl) (by as_aux_lemma => kernel_rfl) (fun _ _ _ h => h) (Or.inl ⟨by rfl, ?_⟩) (by assumption) ?_
                rotate_left
                · as_aux_lemma =>
                    intro w' hSw
                    try dsimp only at hSw
                    go_simp
                    try with_reducible rfl
                try simp only [Act.put, List.setIfInBounds_toArray, List.set_cons_zero, List.set_cons_succ]
                obtain ⟨g0, g1, g2, g3, g4⟩ := five_cells FP.out
                obtain ⟨f0, f1, f2, f3, f4, -⟩ := ten_free FP.out
                have FP2 := Lib.hid (set5 (x0 := .bool x0) (x1 := .bool x1) (x2 := .bool x2) (x3 := .bool x3) (x4 := .bool x4) FP.out)
                have FQ2 := Lib.hid (other5 FQ.out (by omega : bP ≠ bQ) 0 1 2 3 4 (.bool x0) (.bool x1) (.bool x2) (.bool x3) (.bool x4))
                have FS2 := Lib.hid (FS.out.other5 hP 0 1 2 3 4 (.bool x0) (.bool x1) (.bool x2) (.bool x3) (.bool x4))
                have FB2 := Lib.hid (below5 FB.out (by omega : w.heap.size ≤ bP) 0 1 2 3 4 (.bool x0) (.bool x1) (.bool x2) (.bool x3) (.bool x4))
                refine wpAnyH_ready (rs := [18]) (by as_aux_lemma => kernel_rfl) (by simp) ?_
                refine AllReadyH.cons (o := { dst := none, op := Op.store 49 (Operand.tmp 10) (Operand.tmp 44), type := 0, pos := "law.go:54", after := #[{ on := 16, ground := Ground.data }, { on := 13, ground := Ground.data }, { on := 11, ground := Ground.chain }, { on := 0, ground := Ground.phase }, { on := 1, ground := Ground.phase }, { on := 2, ground := Ground.phase }, { on := 3, ground := Ground.phase }, { on := 4, ground := Ground.phase }, { on := 5, ground := Ground.phase }, { on := 6, ground := Ground.phase }, { on := 7, ground := Ground.phase }, { on := 8, ground := Ground.phase }, { on := 9, ground := Ground.phase }, { on := 10, ground := Ground.phase }, { on := 11, ground := Ground.phase }, { on := 12, ground := Ground.phase }, { on := 13, ground := Ground.phase }, { on := 14, ground := Ground.textOnly Departure.lateStores }, { on := 15, ground := Ground.textOnly Departure.lateStores }, { on := 16, ground := Ground.phase }, { on := 17, ground := Ground.phase }], guard := none }) rfl (fun Kx hK => ?_) AllReadyH.nil
                go_simp
                refine hK.out _ _ ?_ (fun hHeld2 => ?_)
                · exact keepM FS2.out (M1.out _ FB2.out)
                clear hK Kx hHeld
                have hHeld := hHeld2
                clear hHeld2
                try simp only [Act.put, List.setIfInBounds_toArray, List.set_cons_zero, List.set_cons_succ]
                clear FB FS FP FQ g0 g1 g2 g3 g4 f0 f1 f2 f3 f4
                have FB := FB2
                clear FB2
                have FS := FS2
                clear FS2
                have FP := FP2
                clear FP2
                have FQ := FQ2
                clear FQ2
                obtain ⟨g0, g1, g2, g3, g4⟩ := five_cells FQ.out
                obtain ⟨f0, f1, f2, f3, f4, -⟩ := ten_free FQ.out
                have FQ2 := Lib.hid (set5 (x0 := .bool y0) (x1 := .bool y1) (x2 := .bool y2) (x3 := .bool y3) (x4 := .bool y4) FQ.out)
                have FP2 := Lib.hid (other5 FP.out (by omega : bQ ≠ bP) 0 1 2 3 4 (.bool y0) (.bool y1) (.bool y2) (.bool y3) (.bool y4))
                have FS2 := Lib.hid (FS.out.other5 hQ 0 1 2 3 4 (.bool y0) (.bool y1) (.bool y2) (.bool y3) (.bool y4))
                have FB2 := Lib.hid (below5 FB.out (by omega : w.heap.size ≤ bQ) 0 1 2 3 4 (.bool y0) (.bool y1) (.bool y2) (.bool y3) (.bool y4))
                refine wpAnyH_ready (rs := [19]) (by as_aux_lemma => kernel_rfl) (by simp) ?_
                refine AllReadyH.cons (o := { dst := none, op := Op.store 49 (Operand.tmp 11) (Operand.tmp 45), type := 0, pos := "law.go:54", after := #[{ on := 17, ground := Ground.data }, { on := 14, ground := Ground.data }, { on := 18, ground := Ground.chain }, { on := 0, ground := Ground.phase }, { on := 1, ground := Ground.phase }, { on := 2, ground := Ground.phase }, { on := 3, ground := Ground.phase }, { on := 4, ground := Ground.phase }, { on := 5, ground := Ground.phase }, { on := 6, ground := Ground.phase }, { on := 7, ground := Ground.phase }, { on := 8, ground := Ground.phase }, { on := 9, ground := Ground.phase }, { on := 10, ground := Ground.phase }, { on := 11, ground := Ground.phase }, { on := 12, ground := Ground.phase }, { on := 13, ground := Ground.phase }, { on := 14, ground := Ground.phase }, { on := 15, ground := Ground.textOnly Departure.lateStores }, { on := 16, ground := Ground.phase }, { on := 17, ground := Ground.phase }, { on := 18, ground := Ground.phase }], guard := none }) rfl (fun Kx hK => ?_) AllReadyH.nil
                go_simp
                refine hK.out _ _ ?_ (fun hHeld2 => ?_)
                · exact keepM FS2.out (M1.out _ FB2.out)
                clear hK Kx hHeld
                have hHeld := hHeld2
                clear hHeld2
                try simp only [Act.put, List.setIfInBounds_toArray, List.set_cons_zero, List.set_cons_succ]
                clear FB FS FP FQ g0 g1 g2 g3 g4 f0 f1 f2 f3 f4
                have FB := FB2
                clear FB2
                have FS := FS2
                clear FS2
                have FP := FP2
                clear FP2
                have FQ := FQ2
                clear FQ2
                as_aux_lemma =>
                  refine wpAnyH_take (i := 20) (oi := { dst := some 12, op := Op.assign (Operand.tmp 46), type := 35, pos := "law.go:54", after := #[{ on := 15, ground := Ground.data }, { on := 19, ground := Ground.chain }, { on := 0, ground := Ground.phase }, { on := 1, ground := Ground.phase }, { on := 2, ground := Ground.phase }, { on := 3, ground := Ground.phase }, { on := 4, ground := Ground.phase }, { on := 5, ground := Ground.phase }, { on := 6, ground := Ground.phase }, { on := 7, ground := Ground.phase }, { on := 8, ground := Ground.phase }, { on := 9, ground := Ground.phase }, { on := 10, ground := Ground.phase }, { on := 11, ground := Ground.phase }, { on := 12, ground := Ground.phase }, { on := 13, ground := Ground.phase }, { on := 14, ground := Ground.phase }, { on := 15, ground := Ground.phase }, { on := 16, ground := Ground.phase }, { on := 17, ground := Ground.phase }, { on := 18, ground := Ground.phase }, { on := 19, ground := Ground.phase }], guard := none }) (v := ?_) rfl (by as_aux_lemma => kernel_rfl) (by as_aux_lemma => kernel_rfl) (by as_aux_lemma => kernel_rfl) (fun _ _ _ h => h) (Or.inl ⟨by rfl, ?_⟩) (by assumption) ?_
                  rotate_left
                  · as_aux_lemma =>
                      intro w' hSw
                      try dsimp only at hSw
                      go_simp
                      try with_reducible rfl
                  try simp only [Act.put, List.setIfInBounds_toArray, List.set_cons_zero, List.set_cons_succ]
                  refine wpAnyH_done (by as_aux_lemma => kernel_rfl) ?_ _
                  go_wp2_with fail
                  go_meet
                  exact ⟨bP, bQ, rfl, rfl, rfl, FP, FQ, Lib.hid hP, Lib.hid hQ, FS, FB⟩
        case rest =>
          as_aux_lemma =>
            obtain ⟨P, Q, rfl, rfl, rfl, FP, FQ, HP, HQ, GS, GB⟩ := hcut
            clear FS FB m0 m1 HA
            by_cases he : er = 0
            · subst he
              obtain ⟨hmay, hk1, hk6, -⟩ := suAct_ok HX.out
              have HKE := Lib.hid (k_cases hk1 hk6)
              have GI := Lib.hid GS.out.it
              have GA := Lib.hid GS.out.ask
              have GE := Lib.hid GS.out.se
              have GL := Lib.hid GS.out.bl
              clear hk1 hk6 hmay GS
              go_upto_region 18 with fail
              go_cut [] (fun wx => Hid (wx.heap[w.heap.size]? = some (.cells #[.bool x0, .bool x1, .bool x2, .bool x3, .bool x4, .bool s1, .bool s0, .bool q1, .bool q0, .bool b1] 50 (0, 0))) ∧ Hid (wx.heap[Q]? = some (.cells #[.bool y0, .bool y1, .bool y2, .bool y3, .bool y4] 49 (0, 0))) ∧ Hid (wx.heap[w.heap.size + 1]? = some (.cells #[.bool q0, .bool q1] 51 (0, 0))) ∧ Hid (wx.heap[w.heap.size + 2]? = some (.cells #[.bool s0, .bool s1] 51 (0, 0))) ∧ Hid (wx.heap[w.heap.size + 3]? = some (.cells #[.bool b0, .bool b1] 51 (0, 0))) ∧ Hid (Below w.heap.size w wx))
              case first =>
                obtain ⟨g0, g1, g2, g3, g4⟩ := five_cells FP.out
                obtain ⟨c0, c1, c2, c3, c4, c5, c6, c7, c8, c9⟩ := ten_cells GI.out
                obtain ⟨f0, f1, f2, f3, f4, f5, f6, f7, f8, f9⟩ := ten_free GI.out
                clear c5 f5 c6 f6 c7 f7 c8 f8 c9 f9
                have hq := HQ.out
                have I2 := Lib.hid (ten_lo (x0 := .bool x0) (x1 := .bool x1) (x2 := .bool x2) (x3 := .bool x3) (x4 := .bool x4) GI.out)
                have Q2 := Lib.hid (other5 FQ.out (by omega : w.heap.size ≠ Q) 0 1 2 3 4 (.bool x0) (.bool x1) (.bool x2) (.bool x3) (.bool x4))
                have A2 := Lib.hid (other5 GA.out (by omega : w.heap.size ≠ w.heap.size + 1) 0 1 2 3 4 (.bool x0) (.bool x1) (.bool x2) (.bool x3) (.bool x4))
                have E2 := Lib.hid (other5 GE.out (by omega : w.heap.size ≠ w.heap.size + 2) 0 1 2 3 4 (.bool x0) (.bool x1) (.bool x2) (.bool x3) (.bool x4))
                have L2 := Lib.hid (other5 GL.out (by omega : w.heap.size ≠ w.heap.size + 3) 0 1 2 3 4 (.bool x0) (.bool x1) (.bool x2) (.bool x3) (.bool x4))
                have B2 := Lib.hid (below5 GB.out (Nat.le_refl _) 0 1 2 3 4 (.bool x0) (.bool x1) (.bool x2) (.bool x3) (.bool x4))
                clear hq
                go_wp2_with fail
                go_meet
                exact ⟨I2, Q2, A2, E2, L2, B2⟩
              case rest =>
                clear GI GA GE GL GB FP FQ
                obtain ⟨GI, FQ, GA, GE, GL, GB⟩ := hcut
                go_upto_region 19 with fail
                go_cut [] (fun wx => Hid (wx.heap[w.heap.size]? = some (.cells #[.bool x0, .bool x1, .bool x2, .bool x3, .bool x4, .bool y0, .bool y1, .bool y2, .bool y3, .bool y4] 50 (0, 0))) ∧ Hid (wx.heap[w.heap.size + 1]? = some (.cells #[.bool q0, .bool q1] 51 (0, 0))) ∧ Hid (wx.heap[w.heap.size + 2]? = some (.cells #[.bool s0, .bool s1] 51 (0, 0))) ∧ Hid (wx.heap[w.heap.size + 3]? = some (.cells #[.bool b0, .bool b1] 51 (0, 0))) ∧ Hid (Below w.heap.size w wx))
                case first =>
                  obtain ⟨g0, g1, g2, g3, g4⟩ := five_cells FQ.out
                  obtain ⟨c0, c1, c2, c3, c4, c5, c6, c7, c8, c9⟩ := ten_cells GI.out
                  obtain ⟨f0, f1, f2, f3, f4, f5, f6, f7, f8, f9⟩ := ten_free GI.out
                  clear c0 f0 c1 f1 c2 f2 c3 f3 c4 f4
                  have I2 := Lib.hid (ten_hi (x5 := .bool y0) (x6 := .bool y1) (x7 := .bool y2) (x8 := .bool y3) (x9 := .bool y4) GI.out)
                  have A2 := Lib.hid (other5 GA.out (by omega : w.heap.size ≠ w.heap.size + 1) 5 6 7 8 9 (.bool y0) (.bool y1) (.bool y2) (.bool y3) (.bool y4))
                  have E2 := Lib.hid (other5 GE.out (by omega : w.heap.size ≠ w.heap.size + 2) 5 6 7 8 9 (.bool y0) (.bool y1) (.bool y2) (.bool y3) (.bool y4))
                  have L2 := Lib.hid (other5 GL.out (by omega : w.heap.size ≠ w.heap.size + 3) 5 6 7 8 9 (.bool y0) (.bool y1) (.bool y2) (.bool y3) (.bool y4))
                  have B2 := Lib.hid (below5 GB.out (Nat.le_refl _) 5 6 7 8 9 (.bool y0) (.bool y1) (.bool y2) (.bool y3) (.bool y4))
                  go_wp2_with fail
                  go_meet
                  exact ⟨I2, A2, E2, L2, B2⟩
                case rest =>
                  clear GI GA GE GL GB FQ
                  obtain ⟨GI, GA, GE, GL, GB⟩ := hcut
                  have mk := M1.out _ GB.out
                  go_upto_block 2 with fail
                  clear mk
                  go_cut [] (fun wx => ∃ (s0 s1 q0 q1 b0 b1 : Bool), Hid (StB wx w.heap.size s0 s1 q0 q1 b0 b1) ∧ Hid (suMay ⟨s0, s1, q0, q1, b0⟩ ⟨s1, s0, q1, q0, b1⟩ = true) ∧ Hid (Below w.heap.size w wx))
                  case first =>
                    as_aux_lemma =>
                      rcases HKE.out with rfl | rfl | rfl | rfl | rfl | rfl
                      · as_aux_lemma =>
                          have hs := HX.out
                          have hst := st1 s0 s1 q0 q1 b0 b1 FM.out (by rw [hs])
                          obtain ⟨e1, e2, e3, e4, hq, hm2⟩ := hst
                          rw [hq] at hs
                          simp only [Prod.mk.injEq, It.mk.injEq] at hs
                          obtain ⟨⟨rfl, rfl, rfl, rfl, rfl⟩, ⟨rfl, rfl, rfl, rfl, rfl⟩, -⟩ := hs
                          subst e1
                          subst e2
                          subst e3
                          subst e4
                          clear hq HX FM HKE
                          obtain ⟨a0, a1, a2, a3⟩ := two_cells GA.out
                          obtain ⟨u0, u1, u2, u3⟩ := two_cells GE.out
                          obtain ⟨z0, z1, z2, z3⟩ := two_cells GL.out
                          have mk := M1.out _ GB.out
                          have F0 := GI.out
                          have F1 := GA.out
                          have F2 := GE.out
                          have F3 := GL.out
                          have FBx := GB.out
                          replace F0 := heap_set_other F0 (by omega : w.heap.size + 1 ≠ w.heap.size) 0 (.bool true)
                          replace F1 := heap_setCell_same _ (w.heap.size + 1) 0 _ _ (.bool true) F1
                          replace F2 := heap_set_other F2 (by omega : w.heap.size + 1 ≠ w.heap.size + 2) 0 (.bool true)
                          replace F3 := heap_set_other F3 (by omega : w.heap.size + 1 ≠ w.heap.size + 3) 0 (.bool true)
                          replace FBx := FBx.setCell (by omega : w.heap.size ≤ w.heap.size + 1) (p := ⟨w.heap.size + 1, 0, none⟩) (.bool true)
                          have R1 : Hid (StB (wc.setCell ⟨w.heap.size + 1, 0, none⟩ (.bool true)) w.heap.size false s1 true q1 false false) := Lib.hid ⟨F0, F1, F2, F3⟩
                          have R2 := Lib.hid FBx
                          have R3 : Hid (suMay ⟨false, s1, true, q1, false⟩ ⟨s1, false, q1, true, false⟩ = true) := Lib.hid hm2
                          clear F0 F1 F2 F3 FBx GI GA GE GL GB hm2
                          go_wp2_with fail
                          go_meet
                          exact ⟨false, s1, true, q1, false, false, R1, R3, R2⟩
                      -- kind 2
                      · as_aux_lemma =>
                          have hs := HX.out
                          have hst := st2 s0 s1 q0 q1 b0 b1 FM.out (by rw [hs])
                          obtain ⟨e1, e2, e3, hq, hm2⟩ := hst
                          rw [hq] at hs
                          simp only [Prod.mk.injEq, It.mk.injEq] at hs
                          obtain ⟨⟨rfl, rfl, rfl, rfl, rfl⟩, ⟨rfl, rfl, rfl, rfl, rfl⟩, -⟩ := hs
                          subst e1
                          subst e2
                          subst e3
                          clear hq HX FM HKE
                          obtain ⟨a0, a1, a2, a3⟩ := two_cells GA.out
                          obtain ⟨u0, u1, u2, u3⟩ := two_cells GE.out
                          obtain ⟨z0, z1, z2, z3⟩ := two_cells GL.out
                          have mk := M1.out _ GB.out
                          have F0 := GI.out
                          have F1 := GA.out
                          have F2 := GE.out
                          have F3 := GL.out
                          have FBx := GB.out
                          replace F0 := heap_set_other F0 (by omega : w.heap.size + 1 ≠ w.heap.size) 1 (.bool false)
                          replace F1 := heap_setCell_same _ (w.heap.size + 1) 1 _ _ (.bool false) F1
                          replace F2 := heap_set_other F2 (by omega : w.heap.size + 1 ≠ w.heap.size + 2) 1 (.bool false)
                          replace F3 := heap_set_other F3 (by omega : w.heap.size + 1 ≠ w.heap.size + 3) 1 (.bool false)
                          replace FBx := FBx.setCell (by omega : w.heap.size ≤ w.heap.size + 1) (p := ⟨w.heap.size + 1, 1, none⟩) (.bool false)
                          replace F0 := heap_set_other F0 (by omega : w.heap.size + 2 ≠ w.heap.size) 1 (.bool true)
                          replace F1 := heap_set_other F1 (by omega : w.heap.size + 2 ≠ w.heap.size + 1) 1 (.bool true)
                          replace F2 := heap_setCell_same _ (w.heap.size + 2) 1 _ _ (.bool true) F2
                          replace F3 := heap_set_other F3 (by omega : w.heap.size + 2 ≠ w.heap.size + 3) 1 (.bool true)
                          replace FBx := FBx.setCell (by omega : w.heap.size ≤ w.heap.size + 2) (p := ⟨w.heap.size + 2, 1, none⟩) (.bool true)
                          have R1 : Hid (StB ((wc.setCell ⟨w.heap.size + 1, 1, none⟩ (.bool false)).setCell ⟨w.heap.size + 2, 1, none⟩ (.bool true)) w.heap.size s0 true q0 false false false) := Lib.hid ⟨F0, F1, F2, F3⟩
                          have R2 := Lib.hid FBx
                          have R3 : Hid (suMay ⟨s0, true, q0, false, false⟩ ⟨true, s0, false, q0, false⟩ = true) := Lib.hid hm2
                          clear F0 F1 F2 F3 FBx GI GA GE GL GB hm2
                          go_wp2_with fail
                          go_meet
                          exact ⟨s0, true, q0, false, false, false, R1, R3, R2⟩
                      -- kind 3
                      · as_aux_lemma =>
                          have hs := HX.out
                          have hst := st3 s0 s1 q0 q1 b0 b1 FM.out (by rw [hs])
                          obtain ⟨hq, hm2⟩ := hst
                          rw [hq] at hs
                          simp only [Prod.mk.injEq, It.mk.injEq] at hs
                          obtain ⟨⟨rfl, rfl, rfl, rfl, rfl⟩, ⟨rfl, rfl, rfl, rfl, rfl⟩, -⟩ := hs
                          clear hq HX FM HKE
                          obtain ⟨a0, a1, a2, a3⟩ := two_cells GA.out
                          obtain ⟨u0, u1, u2, u3⟩ := two_cells GE.out
                          obtain ⟨z0, z1, z2, z3⟩ := two_cells GL.out
                          have mk := M1.out _ GB.out
                          have F0 := GI.out
                          have F1 := GA.out
                          have F2 := GE.out
                          have F3 := GL.out
                          have FBx := GB.out
                          replace F0 := heap_set_other F0 (by omega : w.heap.size + 1 ≠ w.heap.size) 0 (.bool false)
                          replace F1 := heap_setCell_same _ (w.heap.size + 1) 0 _ _ (.bool false) F1
                          replace F2 := heap_set_other F2 (by omega : w.heap.size + 1 ≠ w.heap.size + 2) 0 (.bool false)
                          replace F3 := heap_set_other F3 (by omega : w.heap.size + 1 ≠ w.heap.size + 3) 0 (.bool false)
                          replace FBx := FBx.setCell (by omega : w.heap.size ≤ w.heap.size + 1) (p := ⟨w.heap.size + 1, 0, none⟩) (.bool false)
                          replace F0 := heap_set_other F0 (by omega : w.heap.size + 2 ≠ w.heap.size) 0 (.bool false)
                          replace F1 := heap_set_other F1 (by omega : w.heap.size + 2 ≠ w.heap.size + 1) 0 (.bool false)
                          replace F2 := heap_setCell_same _ (w.heap.size + 2) 0 _ _ (.bool false) F2
                          replace F3 := heap_set_other F3 (by omega : w.heap.size + 2 ≠ w.heap.size + 3) 0 (.bool false)
                          replace FBx := FBx.setCell (by omega : w.heap.size ≤ w.heap.size + 2) (p := ⟨w.heap.size + 2, 0, none⟩) (.bool false)
                          have R1 : Hid (StB ((wc.setCell ⟨w.heap.size + 1, 0, none⟩ (.bool false)).setCell ⟨w.heap.size + 2, 0, none⟩ (.bool false)) w.heap.size false s1 false q1 b0 b1) := Lib.hid ⟨F0, F1, F2, F3⟩
                          have R2 := Lib.hid FBx
                          have R3 : Hid (suMay ⟨false, s1, false, q1, b0⟩ ⟨s1, false, q1, false, b1⟩ = true) := Lib.hid hm2
                          clear F0 F1 F2 F3 FBx GI GA GE GL GB hm2
                          go_wp2_with fail
                          go_meet
                          exact ⟨false, s1, false, q1, b0, b1, R1, R3, R2⟩
                      -- kind 4
                      · as_aux_lemma =>
                          have hs := HX.out
                          have hst := st4 s0 s1 q0 q1 b0 b1 FM.out (by rw [hs])
                          obtain ⟨hq, hm2⟩ := hst
                          rw [hq] at hs
                          simp only [Prod.mk.injEq, It.mk.injEq] at hs
                          obtain ⟨⟨rfl, rfl, rfl, rfl, rfl⟩, ⟨rfl, rfl, rfl, rfl, rfl⟩, -⟩ := hs
                          clear hq HX FM HKE
                          obtain ⟨a0, a1, a2, a3⟩ := two_cells GA.out
                          obtain ⟨u0, u1, u2, u3⟩ := two_cells GE.out
                          obtain ⟨z0, z1, z2, z3⟩ := two_cells GL.out
                          have mk := M1.out _ GB.out
                          have F0 := GI.out
                          have F1 := GA.out
                          have F2 := GE.out
                          have F3 := GL.out
                          have FBx := GB.out
                          replace F0 := heap_set_other F0 (by omega : w.heap.size + 1 ≠ w.heap.size) 1 (.bool false)
                          replace F1 := heap_setCell_same _ (w.heap.size + 1) 1 _ _ (.bool false) F1
                          replace F2 := heap_set_other F2 (by omega : w.heap.size + 1 ≠ w.heap.size + 2) 1 (.bool false)
                          replace F3 := heap_set_other F3 (by omega : w.heap.size + 1 ≠ w.heap.size + 3) 1 (.bool false)
                          replace FBx := FBx.setCell (by omega : w.heap.size ≤ w.heap.size + 1) (p := ⟨w.heap.size + 1, 1, none⟩) (.bool false)
                          replace F0 := heap_set_other F0 (by omega : w.heap.size + 2 ≠ w.heap.size) 1 (.bool false)
                          replace F1 := heap_set_other F1 (by omega : w.heap.size + 2 ≠ w.heap.size + 1) 1 (.bool false)
                          replace F2 := heap_setCell_same _ (w.heap.size + 2) 1 _ _ (.bool false) F2
                          replace F3 := heap_set_other F3 (by omega : w.heap.size + 2 ≠ w.heap.size + 3) 1 (.bool false)
                          replace FBx := FBx.setCell (by omega : w.heap.size ≤ w.heap.size + 2) (p := ⟨w.heap.size + 2, 1, none⟩) (.bool false)
                          have R1 : Hid (StB ((wc.setCell ⟨w.heap.size + 1, 1, none⟩ (.bool false)).setCell ⟨w.heap.size + 2, 1, none⟩ (.bool false)) w.heap.size s0 false q0 false b0 b1) := Lib.hid ⟨F0, F1, F2, F3⟩
                          have R2 := Lib.hid FBx
                          have R3 : Hid (suMay ⟨s0, false, q0, false, b0⟩ ⟨false, s0, false, q0, b1⟩ = true) := Lib.hid hm2
                          clear F0 F1 F2 F3 FBx GI GA GE GL GB hm2
                          go_wp2_with fail
                          go_meet
                          exact ⟨s0, false, q0, false, b0, b1, R1, R3, R2⟩
                      -- kind 5
                      · as_aux_lemma =>
                          have hs := HX.out
                          have hst := st5 s0 s1 q0 q1 b0 b1 FM.out (by rw [hs])
                          obtain ⟨hq, hm2⟩ := hst
                          rw [hq] at hs
                          simp only [Prod.mk.injEq, It.mk.injEq] at hs
                          obtain ⟨⟨rfl, rfl, rfl, rfl, rfl⟩, ⟨rfl, rfl, rfl, rfl, rfl⟩, -⟩ := hs
                          clear hq HX FM HKE
                          obtain ⟨a0, a1, a2, a3⟩ := two_cells GA.out
                          obtain ⟨u0, u1, u2, u3⟩ := two_cells GE.out
                          obtain ⟨z0, z1, z2, z3⟩ := two_cells GL.out
                          have mk := M1.out _ GB.out
                          have F0 := GI.out
                          have F1 := GA.out
                          have F2 := GE.out
                          have F3 := GL.out
                          have FBx := GB.out
                          replace F0 := heap_set_other F0 (by omega : w.heap.size + 3 ≠ w.heap.size) 0 (.bool true)
                          replace F1 := heap_set_other F1 (by omega : w.heap.size + 3 ≠ w.heap.size + 1) 0 (.bool true)
                          replace F2 := heap_set_other F2 (by omega : w.heap.size + 3 ≠ w.heap.size + 2) 0 (.bool true)
                          replace F3 := heap_setCell_same _ (w.heap.size + 3) 0 _ _ (.bool true) F3
                          replace FBx := FBx.setCell (by omega : w.heap.size ≤ w.heap.size + 3) (p := ⟨w.heap.size + 3, 0, none⟩) (.bool true)
                          have R1 : Hid (StB (wc.setCell ⟨w.heap.size + 3, 0, none⟩ (.bool true)) w.heap.size s0 s1 q0 q1 true b1) := Lib.hid ⟨F0, F1, F2, F3⟩
                          have R2 := Lib.hid FBx
                          have R3 : Hid (suMay ⟨s0, s1, q0, q1, true⟩ ⟨s1, s0, q1, q0, b1⟩ = true) := Lib.hid hm2
                          clear F0 F1 F2 F3 FBx GI GA GE GL GB hm2
                          go_wp2_with fail
                          go_meet
                          exact ⟨s0, s1, q0, q1, true, b1, R1, R3, R2⟩
                      -- kind 6
                      · as_aux_lemma =>
                          have hs := HX.out
                          have hst := st6 s0 s1 q0 q1 b0 b1 FM.out (by rw [hs])
                          obtain ⟨hq, hm2⟩ := hst
                          rw [hq] at hs
                          simp only [Prod.mk.injEq, It.mk.injEq] at hs
                          obtain ⟨⟨rfl, rfl, rfl, rfl, rfl⟩, ⟨rfl, rfl, rfl, rfl, rfl⟩, -⟩ := hs
                          clear hq HX FM HKE
                          obtain ⟨a0, a1, a2, a3⟩ := two_cells GA.out
                          obtain ⟨u0, u1, u2, u3⟩ := two_cells GE.out
                          obtain ⟨z0, z1, z2, z3⟩ := two_cells GL.out
                          have mk := M1.out _ GB.out
                          have F0 := GI.out
                          have F1 := GA.out
                          have F2 := GE.out
                          have F3 := GL.out
                          have FBx := GB.out
                          replace F0 := heap_set_other F0 (by omega : w.heap.size + 3 ≠ w.heap.size) 0 (.bool false)
                          replace F1 := heap_set_other F1 (by omega : w.heap.size + 3 ≠ w.heap.size + 1) 0 (.bool false)
                          replace F2 := heap_set_other F2 (by omega : w.heap.size + 3 ≠ w.heap.size + 2) 0 (.bool false)
                          replace F3 := heap_setCell_same _ (w.heap.size + 3) 0 _ _ (.bool false) F3
                          replace FBx := FBx.setCell (by omega : w.heap.size ≤ w.heap.size + 3) (p := ⟨w.heap.size + 3, 0, none⟩) (.bool false)
                          have R1 : Hid (StB (wc.setCell ⟨w.heap.size + 3, 0, none⟩ (.bool false)) w.heap.size s0 s1 q0 q1 false b1) := Lib.hid ⟨F0, F1, F2, F3⟩
                          have R2 := Lib.hid FBx
                          have R3 : Hid (suMay ⟨s0, s1, q0, q1, false⟩ ⟨s1, s0, q1, q0, b1⟩ = true) := Lib.hid hm2
                          clear F0 F1 F2 F3 FBx GI GA GE GL GB hm2
                          go_wp2_with fail
                          go_meet
                          exact ⟨s0, s1, q0, q1, false, b1, R1, R3, R2⟩
                  case rest =>
                    as_aux_lemma =>
                      clear GI GA GE GL GB FM HX
                      obtain ⟨n0, n1, p0, p1, e0, e1, GS, FM, GB⟩ := hcut
                      have hm1 : suMay ⟨n1, n0, p1, p0, e1⟩ ⟨n0, n1, p0, p1, e0⟩ = true := (suMay_comm _ _).trans FM.out
                      obtain ⟨c0, c1, c2, c3, c4, c5, c6, c7, c8, c9⟩ := ten_cells GS.out.it
                      go_wp2_with fail
                      refine (smay_bl n0 n1 p0 p1 e0 n1 n0 p1 p0 e1 FM.out _).mono ?_
                      rintro e w30 ⟨rfl, b30⟩
                      have GS2 := Lib.hid (GS.out.later b30)
                      have GB2 := Lib.hid (GB.out.trans (b30.mono GB.out.size))
                      clear b30 GS GB c0 c1 c2 c3 c4 c5 c6 c7 c8 c9
                      obtain ⟨c0, c1, c2, c3, c4, c5, c6, c7, c8, c9⟩ := ten_cells GS2.out.it
                      go_wp2_with fail
                      refine (smay_bl n1 n0 p1 p0 e1 n0 n1 p0 p1 e0 hm1 _).mono ?_
                      rintro e w31 ⟨rfl, b31⟩
                      have GS := Lib.hid (GS2.out.later b31)
                      have GB := Lib.hid (GB2.out.trans (b31.mono GB2.out.size))
                      clear b31 GS2 GB2 c0 c1 c2 c3 c4 c5 c6 c7 c8 c9 hm1
                      go_wp2_with fail
                      go_loopw [13] (fun i wi => ∃ j : Nat, j ≤ 2 ∧ i = .int .i64 j ∧ Hid (StB wi w.heap.size n0 n1 p0 p1 e0 e1) ∧ Hid (Below w.heap.size w wi)) (fun i _ => 2 - (intOf i).toNat)
                      case atStart => exact ⟨0, by omega, rfl, GS, GB⟩
                      case round =>
                        clear GS GB
                        obtain ⟨j, hj, rfl, GS, GB⟩ := hrel
                        have h3 : j = 0 ∨ j = 1 ∨ j = 2 := by omega
                        rcases h3 with rfl | rfl | rfl
                        · obtain ⟨c0, c1, c2, c3, c4, c5, c6, c7, c8, c9⟩ := ten_cells GS.out.it
                          obtain ⟨a0, a1, -, -⟩ := two_cells GS.out.ask
                          obtain ⟨u0, u1, -, -⟩ := two_cells GS.out.se
                          obtain ⟨z0, z1, -, -⟩ := two_cells GS.out.bl
                          replace c0 := cell_regrown c0
                          replace c1 := cell_regrown c1
                          replace c2 := cell_regrown c2
                          replace c3 := cell_regrown c3
                          replace c4 := cell_regrown c4
                          replace c5 := cell_regrown c5
                          replace c6 := cell_regrown c6
                          replace c7 := cell_regrown c7
                          replace c8 := cell_regrown c8
                          replace c9 := cell_regrown c9
                          replace a0 := cell_regrown a0
                          replace a1 := cell_regrown a1
                          replace u0 := cell_regrown u0
                          replace u1 := cell_regrown u1
                          replace z0 := cell_regrown z0
                          replace z1 := cell_regrown z1
                          have HSE : ∀ r, suSees ⟨n0, n1, p0, p1, e0⟩ ⟨n1, n0, p1, p0, e1⟩ = r → Hid (∀ w, Calls Try.prog 36 #[.agg #[.bool n0, .bool n1, .bool p0, .bool p1, .bool e0], .agg #[.bool n1, .bool n0, .bool p1, .bool p0, .bool e1]] w fun e w' => e = .returned (.bool r) ∧ Below w.heap.size w w') := fun r h => Lib.hid (ssees_eq n0 n1 p0 p1 e0 n1 n0 p1 p0 e1 h)
                          cases n0 with
                          | false =>
                            as_aux_lemma =>
                              have HS2 := HSE false rfl
                              clear HSE
                              go_wp2_with fail
                              refine wp_region_quiet_below (by kernel_rfl) (by kernel_rfl) ?_
                              repeat (go_big_quiet_step (with_reducible exact rgB HS2.out _ _ _))
                              refine wpQuiet_nil ?_
                              intro w40 hw40
                              have b40 := regrownZ hw40
                              have G1 := Lib.hid (GS.out.later b40)
                              have G2 := Lib.hid (GB.out.trans (b40.mono GB.out.size))
                              clear hw40 b40 GS GB c0 c1 c2 c3 c4 c5 c6 c7 c8 c9 a0 a1 u0 u1 z0 z1
                              go_wp2_with fail
                              go_roundw
                              case rel => exact ⟨1, by omega, by go_num, G1, G2⟩
                              case measure => simp [intOf]
                          | true =>
                            cases e0 with
                            | true =>
                              as_aux_lemma =>
                                have HS2 := HSE false (by rfl)
                                clear HSE
                                go_wp2_with fail
                                refine wp_region_quiet_below (by kernel_rfl) (by kernel_rfl) ?_
                                repeat (go_big_quiet_step (with_reducible exact rgB HS2.out _ _ _))
                                refine wpQuiet_nil ?_
                                intro w40 hw40
                                have b40 := regrownZ hw40
                                have G1 := Lib.hid (GS.out.later b40)
                                have G2 := Lib.hid (GB.out.trans (b40.mono GB.out.size))
                                clear hw40 b40 GS GB c0 c1 c2 c3 c4 c5 c6 c7 c8 c9 a0 a1 u0 u1 z0 z1
                                go_wp2_with fail
                                go_roundw
                                case rel => exact ⟨1, by omega, by go_num, G1, G2⟩
                                case measure => simp [intOf]
                            | false =>
                              cases e1 with
                              | true =>
                                as_aux_lemma =>
                                  have HS2 := HSE false rfl
                                  clear HSE
                                  go_wp2_with fail
                                  refine wp_region_quiet_below (by kernel_rfl) (by kernel_rfl) ?_
                                  repeat (go_big_quiet_step (with_reducible exact rgB HS2.out _ _ _))
                                  refine wpQuiet_nil ?_
                                  intro w40 hw40
                                  have b40 := regrownZ hw40
                                  have G1 := Lib.hid (GS.out.later b40)
                                  have G2 := Lib.hid (GB.out.trans (b40.mono GB.out.size))
                                  clear hw40 b40 GS GB c0 c1 c2 c3 c4 c5 c6 c7 c8 c9 a0 a1 u0 u1 z0 z1
                                  go_wp2_with fail
                                  go_roundw
                                  case rel => exact ⟨1, by omega, by go_num, G1, G2⟩
                                  case measure => simp [intOf]
                              | false =>
                                as_aux_lemma =>
                                  have HS2 := HSE true rfl
                                  clear HSE
                                  go_wp2_with fail
                                  refine wp_region_quiet_below (by kernel_rfl) (by kernel_rfl) ?_
                                  repeat (go_big_quiet_step (with_reducible exact rgB HS2.out _ _ _))
                                  refine wpQuiet_nil ?_
                                  intro w40 hw40
                                  have b40 := regrownZ hw40
                                  have G1 := Lib.hid (GS.out.later b40)
                                  have G2 := Lib.hid (GB.out.trans (b40.mono GB.out.size))
                                  clear hw40 b40 GS GB c0 c1 c2 c3 c4 c5 c6 c7 c8 c9 a0 a1 u0 u1 z0 z1
                                  go_wp2_with fail
                                  go_roundw
                                  case rel => exact ⟨1, by omega, by go_num, G1, G2⟩
                                  case measure => simp [intOf]
                        · obtain ⟨c0, c1, c2, c3, c4, c5, c6, c7, c8, c9⟩ := ten_cells GS.out.it
                          obtain ⟨a0, a1, -, -⟩ := two_cells GS.out.ask
                          obtain ⟨u0, u1, -, -⟩ := two_cells GS.out.se
                          obtain ⟨z0, z1, -, -⟩ := two_cells GS.out.bl
                          replace c0 := cell_regrown c0
                          replace c1 := cell_regrown c1
                          replace c2 := cell_regrown c2
                          replace c3 := cell_regrown c3
                          replace c4 := cell_regrown c4
                          replace c5 := cell_regrown c5
                          replace c6 := cell_regrown c6
                          replace c7 := cell_regrown c7
                          replace c8 := cell_regrown c8
                          replace c9 := cell_regrown c9
                          replace a0 := cell_regrown a0
                          replace a1 := cell_regrown a1
                          replace u0 := cell_regrown u0
                          replace u1 := cell_regrown u1
                          replace z0 := cell_regrown z0
                          replace z1 := cell_regrown z1
                          have HSE : ∀ r, suSees ⟨n1, n0, p1, p0, e1⟩ ⟨n0, n1, p0, p1, e0⟩ = r → Hid (∀ w, Calls Try.prog 36 #[.agg #[.bool n1, .bool n0, .bool p1, .bool p0, .bool e1], .agg #[.bool n0, .bool n1, .bool p0, .bool p1, .bool e0]] w fun e w' => e = .returned (.bool r) ∧ Below w.heap.size w w') := fun r h => Lib.hid (ssees_eq n1 n0 p1 p0 e1 n0 n1 p0 p1 e0 h)
                          cases n1 with
                          | false =>
                            as_aux_lemma =>
                              have HS2 := HSE false rfl
                              clear HSE
                              go_wp2_with fail
                              refine wp_region_quiet_below (by kernel_rfl) (by kernel_rfl) ?_
                              repeat (go_big_quiet_step (with_reducible exact rgB HS2.out _ _ _))
                              refine wpQuiet_nil ?_
                              intro w40 hw40
                              have b40 := regrownZ hw40
                              have G1 := Lib.hid (GS.out.later b40)
                              have G2 := Lib.hid (GB.out.trans (b40.mono GB.out.size))
                              clear hw40 b40 GS GB c0 c1 c2 c3 c4 c5 c6 c7 c8 c9 a0 a1 u0 u1 z0 z1
                              go_wp2_with fail
                              go_roundw
                              case rel => exact ⟨2, by omega, by go_num, G1, G2⟩
                              case measure => simp [intOf]
                          | true =>
                            cases e0 with
                            | true =>
                              as_aux_lemma =>
                                have HS2 := HSE false (by cases e1 <;> rfl)
                                clear HSE
                                go_wp2_with fail
                                refine wp_region_quiet_below (by kernel_rfl) (by kernel_rfl) ?_
                                repeat (go_big_quiet_step (with_reducible exact rgB HS2.out _ _ _))
                                refine wpQuiet_nil ?_
                                intro w40 hw40
                                have b40 := regrownZ hw40
                                have G1 := Lib.hid (GS.out.later b40)
                                have G2 := Lib.hid (GB.out.trans (b40.mono GB.out.size))
                                clear hw40 b40 GS GB c0 c1 c2 c3 c4 c5 c6 c7 c8 c9 a0 a1 u0 u1 z0 z1
                                go_wp2_with fail
                                go_roundw
                                case rel => exact ⟨2, by omega, by go_num, G1, G2⟩
                                case measure => simp [intOf]
                            | false =>
                              cases e1 with
                              | true =>
                                as_aux_lemma =>
                                  have HS2 := HSE false rfl
                                  clear HSE
                                  go_wp2_with fail
                                  refine wp_region_quiet_below (by kernel_rfl) (by kernel_rfl) ?_
                                  repeat (go_big_quiet_step (with_reducible exact rgB HS2.out _ _ _))
                                  refine wpQuiet_nil ?_
                                  intro w40 hw40
                                  have b40 := regrownZ hw40
                                  have G1 := Lib.hid (GS.out.later b40)
                                  have G2 := Lib.hid (GB.out.trans (b40.mono GB.out.size))
                                  clear hw40 b40 GS GB c0 c1 c2 c3 c4 c5 c6 c7 c8 c9 a0 a1 u0 u1 z0 z1
                                  go_wp2_with fail
                                  go_roundw
                                  case rel => exact ⟨2, by omega, by go_num, G1, G2⟩
                                  case measure => simp [intOf]
                              | false =>
                                as_aux_lemma =>
                                  have HS2 := HSE true rfl
                                  clear HSE
                                  go_wp2_with fail
                                  refine wp_region_quiet_below (by kernel_rfl) (by kernel_rfl) ?_
                                  repeat (go_big_quiet_step (with_reducible exact rgB HS2.out _ _ _))
                                  refine wpQuiet_nil ?_
                                  intro w40 hw40
                                  have b40 := regrownZ hw40
                                  have G1 := Lib.hid (GS.out.later b40)
                                  have G2 := Lib.hid (GB.out.trans (b40.mono GB.out.size))
                                  clear hw40 b40 GS GB c0 c1 c2 c3 c4 c5 c6 c7 c8 c9 a0 a1 u0 u1 z0 z1
                                  go_wp2_with fail
                                  go_roundw
                                  case rel => exact ⟨2, by omega, by go_num, G1, G2⟩
                                  case measure => simp [intOf]
                        · go_wp2_with fail
                          go_roundw
                          case rel => exact ⟨k + 1, n0, n1, p0, p1, e0, e1, by omega, by go_num, GS, FM, GB⟩
                          case measure => simp [intOf]; omega
            · as_aux_lemma =>
                obtain ⟨hx1, hx2⟩ := suAct_err HX.out he
                replace hx1 := hx1.symm
                replace hx2 := hx2.symm
                simp only [It.mk.injEq] at hx1 hx2
                obtain ⟨rfl, rfl, rfl, rfl, rfl⟩ := hx1
                obtain ⟨rfl, rfl, rfl, rfl, rfl⟩ := hx2
                have te : ((er : Int) != 0) = true := by rw [bne_iff_ne]; omega
                obtain ⟨g0, g1, g2, g3, g4⟩ := five_cells FP.out
                obtain ⟨d0, d1, d2, d3, d4⟩ := five_cells FQ.out
                obtain ⟨c0, c1, c2, c3, c4, c5, c6, c7, c8, c9⟩ := ten_cells GS.out.it
                replace g0 := cell_regrown g0
                replace g1 := cell_regrown g1
                replace g2 := cell_regrown g2
                replace g3 := cell_regrown g3
                replace g4 := cell_regrown g4
                replace d0 := cell_regrown d0
                replace d1 := cell_regrown d1
                replace d2 := cell_regrown d2
                replace d3 := cell_regrown d3
                replace d4 := cell_regrown d4
                replace c0 := cell_regrown c0
                replace c1 := cell_regrown c1
                replace c2 := cell_regrown c2
                replace c3 := cell_regrown c3
                replace c4 := cell_regrown c4
                replace c5 := cell_regrown c5
                replace c6 := cell_regrown c6
                replace c7 := cell_regrown c7
                replace c8 := cell_regrown c8
                replace c9 := cell_regrown c9
                have h1 : ∀ w, (binOp .neq 49 (.agg #[.bool s0, .bool s1, .bool q0, .bool q1, .bool b0]) (.agg #[.bool s0, .bool s1, .bool q0, .bool q1, .bool b0])).run Try.prog w = .ok (.bool false) w := fun w => by rw [item_neq]; exact congrArg (fun b => Result.ok (Value.bool (!b)) w) (itSame_self ⟨s0, s1, q0, q1, b0⟩)
                have h2 : ∀ w, (binOp .neq 49 (.agg #[.bool s1, .bool s0, .bool q1, .bool q0, .bool b1]) (.agg #[.bool s1, .bool s0, .bool q1, .bool q0, .bool b1])).run Try.prog w = .ok (.bool false) w := fun w => by rw [item_neq]; exact congrArg (fun b => Result.ok (Value.bool (!b)) w) (itSame_self ⟨s1, s0, q1, q0, b1⟩)
                clear HX he
                go_wp2_with fail
                refine wp_region_quiet_below (by kernel_rfl) (by kernel_rfl) ?_
                repeat (go_big_quiet_step (fail))
                refine wpQuiet_nil ?_
                intro w40 hw40
                have b40 := regrownZ hw40
                have G1 := Lib.hid (GS.out.later b40)
                have G2 := Lib.hid (GB.out.trans (b40.mono GB.out.size))
                clear hw40 b40 GS GB g0 g1 g2 g3 g4 d0 d1 d2 d3 d4 c0 c1 c2 c3 c4 c5 c6 c7 c8 c9
                go_wp2_with fail
                go_roundw
                case rel => exact ⟨k + 1, s0, s1, q0, q1, b0, b1, by omega, by go_num, G1, FM, G2⟩
                case measure => simp [intOf]; omega
      | true =>
        obtain ⟨⟨x0, x1, x2, x3, x4⟩, ⟨y0, y1, y2, y3, y4⟩, er, hx⟩ : ∃ x y er, suAct ⟨s1, s0, q1, q0, b1⟩ ⟨s0, s1, q0, q1, b0⟩ kd = (x, y, er) := ⟨_, _, _, rfl⟩
        have HX := Lib.hid hx
        have HA := Lib.hid (sact_eq hkw (Lib.hid hx))
        have HKW := Lib.hid hkw
        clear hx hkw
        try simp only at HA
        go_upto_region 14 with fail
        go_cut [10, 11, 12] (fun p q e wx => ∃ P Q, p = .pointer (some ⟨P, 0, none⟩) ∧ q = .pointer (some ⟨Q, 0, none⟩) ∧ e = .int .i64 er ∧ Hid (wx.heap[P]? = some (.cells #[.bool x0, .bool x1, .bool x2, .bool x3, .bool x4] 49 (0, 0))) ∧ Hid (wx.heap[Q]? = some (.cells #[.bool y0, .bool y1, .bool y2, .bool y3, .bool y4] 49 (0, 0))) ∧ Hid (w.heap.size + 4 ≤ P) ∧ Hid (w.heap.size + 4 ≤ Q) ∧ Hid (StB wx w.heap.size s0 s1 q0 q1 b0 b1) ∧ Hid (Below w.heap.size w wx))
        case first =>
          have FBd : Hid (Below w.heap.size w wr.drew) := Lib.hid FB.out.drew
          have FSd : Hid (StB wr.drew w.heap.size s0 s1 q0 q1 b0 b1) := Lib.hid (FS.out.later (Below.refl _ _).drew)
          clear FB FS m0 m1
          refine wp_region_held_drew (S := (fun X => X.cell? ⟨w.heap.size, 0, none⟩ = some (.bool s0) ∧ X.cell? ⟨w.heap.size, 1, none⟩ = some (.bool s1) ∧ X.cell? ⟨w.heap.size, 2, none⟩ = some (.bool q0) ∧ X.cell? ⟨w.heap.size, 3, none⟩ = some (.bool q1) ∧ X.cell? ⟨w.heap.size, 4, none⟩ = some (.bool b0) ∧ X.cell? ⟨w.heap.size, 5, none⟩ = some (.bool s1) ∧ X.cell? ⟨w.heap.size, 6, none⟩ = some (.bool s0) ∧ X.cell? ⟨w.heap.size, 7, none⟩ = some (.bool q1) ∧ X.cell? ⟨w.heap.size, 8, none⟩ = some (.bool q0) ∧ X.cell? ⟨w.heap.size, 9, none⟩ = some (.bool b1) ∧ X.cell? ⟨bm, om + k * 2 + 1, none⟩ = some (.int .i64 kd))) (by as_aux_lemma => kernel_rfl) ?_ (fun hHeld => ?_)
          · exact keepM FSd.out (M1.out _ FBd.out)
          generalize wr.drew = X0 at FBd FSd hHeld ⊢
          have FB := FBd
          have FS := FSd
          clear FBd FSd
          refine wpAnyH_take (i := 0) (oi := { dst := some 32, op := Op.move (Operand.tmp 8), type := 3, pos := "law.go:54", after := #[], guard := none }) (v := ?_) rfl (by as_aux_lemma => kernel_rfl) (by as_aux_lemma => kernel_rfl) (by as_aux_lemma => kernel_rfl) (fun _ _ _ h => h) (Or.inl ⟨by rfl, ?_⟩) (by assumption) ?_
          rotate_left
          · as_aux_lemma =>
              intro w' hSw
              try dsimp only at hSw
              go_simp
              try with_reducible rfl
          try simp only [Act.put, List.setIfInBounds_toArray, List.set_cons_zero, List.set_cons_succ]
          refine wpAnyH_take (i := 1) (oi := { dst := some 33, op := Op.indexAddr 50 (Operand.tmp 3) (Operand.tmp 32), type := 0, pos := "law.go:54", after := #[{ on := 0, ground := Ground.data }], guard := none }) (v := ?_) rfl (by as_aux_lemma => kernel_rfl) (by as_aux_lemma => kernel_rfl) (by as_aux_lemma => kernel_rfl) (fun _ _ _ h => h) (Or.inl ⟨by rfl, ?_⟩) (by assumption) ?_
          rotate_left
          · as_aux_lemma =>
              intro w' hSw
              try dsimp only at hSw
              go_simp
              try with_reducible rfl
          try simp only [Act.put, List.setIfInBounds_toArray, List.set_cons_zero, List.set_cons_succ]
          refine wpAnyH_take (i := 2) (oi := { dst := some 34, op := Op.load 49 (Operand.tmp 33), type := 49, pos := "law.go:54", after := #[{ on := 1, ground := Ground.data }], guard := none }) (v := ?_) rfl (by as_aux_lemma => kernel_rfl) (by as_aux_lemma => kernel_rfl) (by as_aux_lemma => kernel_rfl) (fun _ _ _ h => h) (Or.inl ⟨by rfl, ?_⟩) (by assumption) ?_
          rotate_left
          · as_aux_lemma =>
              intro w' hSw
              try dsimp only at hSw
              go_simp
              try with_reducible rfl
          try simp only [Act.put, List.setIfInBounds_toArray, List.set_cons_zero, List.set_cons_succ]
          refine wpAnyH_take (i := 3) (oi := { dst := some 35, op := Op.move (Operand.tmp 9), type := 3, pos := "law.go:54", after := #[], guard := none }) (v := ?_) rfl (by as_aux_lemma => kernel_rfl) (by as_aux_lemma => kernel_rfl) (by as_aux_lemma => kernel_rfl) (fun _ _ _ h => h) (Or.inl ⟨by rfl, ?_⟩) (by assumption) ?_
          rotate_left
          · as_aux_lemma =>
              intro w' hSw
              try dsimp only at hSw
              go_simp
              try with_reducible rfl
          try simp only [Act.put, List.setIfInBounds_toArray, List.set_cons_zero, List.set_cons_succ]
          refine wpAnyH_take (i := 4) (oi := { dst := some 36, op := Op.indexAddr 50 (Operand.tmp 3) (Operand.tmp 35), type := 0, pos := "law.go:54", after := #[{ on := 3, ground := Ground.data }], guard := none }) (v := ?_) rfl (by as_aux_lemma => kernel_rfl) (by as_aux_lemma => kernel_rfl) (by as_aux_lemma => kernel_rfl) (fun _ _ _ h => h) (Or.inl ⟨by rfl, ?_⟩) (by assumption) ?_
          rotate_left
          · as_aux_lemma =>
              intro w' hSw
              try dsimp only at hSw
              go_simp
              try with_reducible rfl
          try simp only [Act.put, List.setIfInBounds_toArray, List.set_cons_zero, List.set_cons_succ]
          refine wpAnyH_take (i := 5) (oi := { dst := some 37, op := Op.load 49 (Operand.tmp 36), type := 49, pos := "law.go:54", after := #[{ on := 4, ground := Ground.data }], guard := none }) (v := ?_) rfl (by as_aux_lemma => kernel_rfl) (by as_aux_lemma => kernel_rfl) (by as_aux_lemma => kernel_rfl) (fun _ _ _ h => h) (Or.inl ⟨by rfl, ?_⟩) (by assumption) ?_
          rotate_left
          · as_aux_lemma =>
              intro w' hSw
              try dsimp only at hSw
              go_simp
              try with_reducible rfl
          try simp only [Act.put, List.setIfInBounds_toArray, List.set_cons_zero, List.set_cons_succ]
          refine wpAnyH_take (i := 6) (oi := { dst := some 38, op := Op.move (Operand.tmp 0), type := 47, pos := "law.go:54", after := #[], guard := none }) (v := ?_) rfl (by as_aux_lemma => kernel_rfl) (by as_aux_lemma => kernel_rfl) (by as_aux_lemma => kernel_rfl) (fun _ _ _ h => h) (Or.inl ⟨by rfl, ?_⟩) (by assumption) ?_
          rotate_left
          · as_aux_lemma =>
              intro w' hSw
              try dsimp only at hSw
              go_simp
              try with_reducible rfl
          try simp only [Act.put, List.setIfInBounds_toArray, List.set_cons_zero, List.set_cons_succ]
          refine wpAnyH_take (i := 7) (oi := { dst := some 39, op := Op.move (Operand.tmp 7), type := 3, pos := "law.go:54", after := #[], guard := none }) (v := ?_) rfl (by as_aux_lemma => kernel_rfl) (by as_aux_lemma => kernel_rfl) (by as_aux_lemma => kernel_rfl) (fun _ _ _ h => h) (Or.inl ⟨by rfl, ?_⟩) (by assumption) ?_
          rotate_left
          · as_aux_lemma =>
              intro w' hSw
              try dsimp only at hSw
              go_simp
              try with_reducible rfl
          try simp only [Act.put, List.setIfInBounds_toArray, List.set_cons_zero, List.set_cons_succ]
          refine wpAnyH_take (i := 8) (oi := { dst := some 40, op := Op.indexAddr 47 (Operand.tmp 38) (Operand.tmp 39), type := 0, pos := "law.go:54", after := #[{ on := 6, ground := Ground.data }, { on := 7, ground := Ground.data }], guard := none }) (v := ?_) rfl (by as_aux_lemma => kernel_rfl) (by as_aux_lemma => kernel_rfl) (by as_aux_lemma => kernel_rfl) (fun _ _ _ h => h) (Or.inl ⟨by rfl, ?_⟩) (by assumption) ?_
          rotate_left
          · as_aux_lemma =>
              intro w' hSw
              try dsimp only at hSw
              go_simp
              try with_reducible rfl
          try simp only [Act.put, List.setIfInBounds_toArray, List.set_cons_zero, List.set_cons_succ]
          refine wpAnyH_take (i := 9) (oi := { dst := some 41, op := Op.fieldAddr 53 (Operand.tmp 40) 1, type := 0, pos := "law.go:54", after := #[{ on := 8, ground := Ground.data }], guard := none }) (v := ?_) rfl (by as_aux_lemma => kernel_rfl) (by as_aux_lemma => kernel_rfl) (by as_aux_lemma => kernel_rfl) (fun _ _ _ h => h) (Or.inl ⟨by rfl, ?_⟩) (by assumption) ?_
          rotate_left
          · as_aux_lemma =>
              intro w' hSw
              try dsimp only at hSw
              go_simp
              try with_reducible rfl
          try simp only [Act.put, List.setIfInBounds_toArray, List.set_cons_zero, List.set_cons_succ]
          refine wpAnyH_take (i := 10) (oi := { dst := some 42, op := Op.load 3 (Operand.tmp 41), type := 3, pos := "law.go:54", after := #[{ on := 9, ground := Ground.data }], guard := none }) (v := ?_) rfl (by as_aux_lemma => kernel_rfl) (by as_aux_lemma => kernel_rfl) (by as_aux_lemma => kernel_rfl) (fun _ _ _ h => h) (Or.inl ⟨by rfl, ?_⟩) (by assumption) ?_
          rotate_left
          · as_aux_lemma =>
              intro w' hSw
              try dsimp only at hSw
              go_simp
              try with_reducible rfl
          try simp only [Act.put, List.setIfInBounds_toArray, List.set_cons_zero, List.set_cons_succ]
          refine wpAnyH_ready (rs := [11, 16, 17]) (by as_aux_lemma => kernel_rfl) (by simp) ?_
          refine AllReadyH.cons (o := { dst := some 43, op := Op.call { callee := Callee.value (Operand.func 34), args := #[Operand.tmp 34, Operand.tmp 37, Operand.tmp 42], argTypes := #[49, 49, 3] }, type := 54, pos := "law.go:54", after := #[{ on := 2, ground := Ground.data }, { on := 5, ground := Ground.data }, { on := 10, ground := Ground.data }], guard := none }) rfl (fun Kx hK => ?_) (AllReadyH.cons (o := { dst := some 10, op := Op.alloc 49, type := 0, pos := "law.go:54", after := #[], guard := none }) rfl (fun Kx hK => ?_) (AllReadyH.cons (o := { dst := some 11, op := Op.alloc 49, type := 0, pos := "law.go:54", after := #[], guard := none }) rfl (fun Kx hK => ?_) AllReadyH.nil))
          · skip
            go_simp
            refine (HA.out _).mono ?_
            rintro e X1 ⟨rfl, b9⟩
            have FB2 := Lib.hid (FB.out.trans (b9.mono FB.out.size))
            have FS2 := Lib.hid (FS.out.later b9)
            go_wp2_with fail
            refine hK.out _ _ ?_ (fun hHeld2 => ?_)
            · exact keepM FS2.out (M1.out _ FB2.out)
            clear hK Kx hHeld
            have hHeld := hHeld2
            clear hHeld2
            try simp only [Act.put, List.setIfInBounds_toArray, List.set_cons_zero, List.set_cons_succ]
            clear FB FS b9 
            have FB := FB2
            clear FB2
            have FS := FS2
            clear FS2
            refine wpAnyH_take (i := 12) (oi := { dst := some 31, op := Op.move (Operand.tmp 43), type := 54, pos := "law.go:54", after := #[{ on := 11, ground := Ground.data }], guard := none }) (v := ?_) rfl (by as_aux_lemma => kernel_rfl) (by as_aux_lemma => kernel_rfl) (by as_aux_lemma => kernel_rfl) (fun _ _ _ h => h) (Or.inl ⟨by rfl, ?_⟩) (by assumption) ?_
            rotate_left
            · as_aux_lemma =>
                intro w' hSw
                try dsimp only at hSw
                go_simp
                try with_reducible rfl
            try simp only [Act.put, List.setIfInBounds_toArray, List.set_cons_zero, List.set_cons_succ]
            refine wpAnyH_take (i := 13) (oi := { dst := some 44, op := Op.extract (Operand.tmp 31) 0, type := 49, pos := "law.go:54", after := #[{ on := 12, ground := Ground.data }], guard := none }) (v := ?_) rfl (by as_aux_lemma => kernel_rfl) (by as_aux_lemma => kernel_rfl) (by as_aux_lemma => kernel_rfl) (fun _ _ _ h => h) (Or.inl ⟨by rfl, ?_⟩) (by assumption) ?_
            rotate_left
            · as_aux_lemma =>
                intro w' hSw
                try dsimp only at hSw
                go_simp
                try with_reducible rfl
            try simp only [Act.put, List.setIfInBounds_toArray, List.set_cons_zero, List.set_cons_succ]
            refine wpAnyH_take (i := 14) (oi := { dst := some 45, op := Op.extract (Operand.tmp 31) 1, type := 49, pos := "law.go:54", after := #[{ on := 12, ground := Ground.data }, { on := 18, ground := Ground.gcOnly Departure.lateStores }], guard := none }) (v := ?_) rfl (by as_aux_lemma => kernel_rfl) (by as_aux_lemma => kernel_rfl) (by as_aux_lemma => kernel_rfl) (fun _ _ _ h => h) (Or.inl ⟨by rfl, ?_⟩) (by assumption) ?_
            rotate_left
            · as_aux_lemma =>
                intro w' hSw
                try dsimp only at hSw
                go_simp
                try with_reducible rfl
            try simp only [Act.put, List.setIfInBounds_toArray, List.set_cons_zero, List.set_cons_succ]
            refine wpAnyH_take (i := 15) (oi := { dst := some 46, op := Op.extract (Operand.tmp 31) 2, type := 35, pos := "law.go:54", after := #[{ on := 12, ground := Ground.data }, { on := 19, ground := Ground.gcOnly Departure.lateStores }], guard := none }) (v := ?_) rfl (by as_aux_lemma => kernel_rfl) (by as_aux_lemma => kernel_rfl) (by as_aux_lemma => kernel_rfl) (fun _ _ _ h => h) (Or.inl ⟨by rfl, ?_⟩) (by assumption) ?_
            rotate_left
            · as_aux_lemma =>
                intro w' hSw
                try dsimp only at hSw
                go_simp
                try with_reducible rfl
            try simp only [Act.put, List.setIfInBounds_toArray, List.set_cons_zero, List.set_cons_succ]
            refine wpAnyH_ready (rs := [16, 17]) (by as_aux_lemma => kernel_rfl) (by simp) ?_
            refine AllReadyH.cons (o := { dst := some 10, op := Op.alloc 49, type := 0, pos := "law.go:54", after := #[], guard := none }) rfl (fun Kx hK => ?_) (AllReadyH.cons (o := { dst := some 11, op := Op.alloc 49, type := 0, pos := "law.go:54", after := #[], guard := none }) rfl (fun Kx hK => ?_) AllReadyH.nil)
            · skip
              go_simp
              have bb := bl_newZ X1 (.cells #[.bool false, .bool false, .bool false, .bool false, .bool false] 49)
              have FB2 := Lib.hid (FB.out.trans (bb.mono FB.out.size))
              have FS2 := Lib.hid (FS.out.later bb)
              have FP2 : Hid ((X1.alloc (.cells #[.bool false, .bool false, .bool false, .bool false, .bool false] 49)).heap[X1.heap.size]? = some (.cells #[.bool false, .bool false, .bool false, .bool false, .bool false] 49 (0, 0))) := Lib.hid (heap_alloc_new X1 _)
              have hP : w.heap.size + 4 ≤ X1.heap.size := FS.out.top
              refine hK.out _ _ ?_ (fun hHeld2 => ?_)
              · exact keepM FS2.out (M1.out _ FB2.out)
              clear hK Kx hHeld
              have hHeld := hHeld2
              clear hHeld2
              try simp only [Act.put, List.setIfInBounds_toArray, List.set_cons_zero, List.set_cons_succ]
              clear FB FS bb 
              generalize X1.alloc (.cells #[.bool false, .bool false, .bool false, .bool false, .bool false] 49) = X2 at FB2 FS2 FP2 hHeld ⊢
              generalize X1.heap.size = bP at FP2 hP ⊢
              have FB := FB2
              clear FB2
              have FS := FS2
              clear FS2
              have FP := FP2
              clear FP2
              refine wpAnyH_ready (rs := [17]) (by as_aux_lemma => kernel_rfl) (by simp) ?_
              refine AllReadyH.cons (o := { dst := some 11, op := Op.alloc 49, type := 0, pos := "law.go:54", after := #[], guard := none }) rfl (fun Kx hK => ?_) AllReadyH.nil
              · skip
                go_simp
                have bb := bl_newZ X2 (.cells #[.bool false, .bool false, .bool false, .bool false, .bool false] 49)
                have FB2 := Lib.hid (FB.out.trans (bb.mono FB.out.size))
                have FS2 := Lib.hid (FS.out.later bb)
                have FP2 := Lib.hid (heapUp FP.out bb)
                have FQ2 : Hid ((X2.alloc (.cells #[.bool false, .bool false, .bool false, .bool false, .bool false] 49)).heap[X2.heap.size]? = some (.cells #[.bool false, .bool false, .bool false, .bool false, .bool false] 49 (0, 0))) := Lib.hid (heap_alloc_new X2 _)
                have hQ : w.heap.size + 4 ≤ X2.heap.size := FS.out.top
                have hPQ : bP < X2.heap.size := (Array.getElem?_eq_some_iff.1 FP.out).1
                refine hK.out _ _ ?_ (fun hHeld2 => ?_)
                · exact keepM FS2.out (M1.out _ FB2.out)
                clear hK Kx hHeld
                have hHeld := hHeld2
                clear hHeld2
                try simp only [Act.put, List.setIfInBounds_toArray, List.set_cons_zero, List.set_cons_succ]
                clear FB FS bb FP
                generalize X2.alloc (.cells #[.bool false, .bool false, .bool false, .bool false, .bool false] 49) = X3 at FB2 FS2 FP2 FQ2 hHeld ⊢
                generalize X2.heap.size = bQ at FQ2 hQ hPQ ⊢
                have FB := FB2
                clear FB2
                have FS := FS2
                clear FS2
                have FP := FP2
                clear FP2
                have FQ := FQ2
                clear FQ2
                obtain ⟨g0, g1, g2, g3, g4⟩ := five_cells FP.out
                obtain ⟨f0, f1, f2, f3, f4, -⟩ := ten_free FP.out
                have FP2 := Lib.hid (set5 (x0 := .bool x0) (x1 := .bool x1) (x2 := .bool x2) (x3 := .bool x3) (x4 := .bool x4) FP.out)
                have FQ2 := Lib.hid (other5 FQ.out (by omega : bP ≠ bQ) 0 1 2 3 4 (.bool x0) (.bool x1) (.bool x2) (.bool x3) (.bool x4))
                have FS2 := Lib.hid (FS.out.other5 hP 0 1 2 3 4 (.bool x0) (.bool x1) (.bool x2) (.bool x3) (.bool x4))
                have FB2 := Lib.hid (below5 FB.out (by omega : w.heap.size ≤ bP) 0 1 2 3 4 (.bool x0) (.bool x1) (.bool x2) (.bool x3) (.bool x4))
                refine wpAnyH_ready (rs := [18]) (by as_aux_lemma => kernel_rfl) (by simp) ?_
                refine AllReadyH.cons (o := { dst := none, op := Op.store 49 (Operand.tmp 10) (Operand.tmp 44), type := 0, pos := "law.go:54", after := #[{ on := 16, ground := Ground.data }, { on := 13, ground := Ground.data }, { on := 11, ground := Ground.chain }, { on := 0, ground := Ground.phase }, { on := 1, ground := Ground.phase }, { on := 2, ground := Ground.phase }, { on := 3, ground := Ground.phase }, { on := 4, ground := Ground.phase }, { on := 5, ground := Ground.phase }, { on := 6, ground := Ground.phase }, { on := 7, ground := Ground.phase }, { on := 8, ground := Ground.phase }, { on := 9, ground := Ground.phase }, { on := 10, ground := Ground.phase }, { on := 11, ground := Ground.phase }, { on := 12, ground := Ground.phase }, { on := 13, ground := Ground.phase }, { on := 14, ground := Ground.textOnly Departure.lateStores }, { on := 15, ground := Ground.textOnly Departure.lateStores }, { on := 16, ground := Ground.phase }, { on := 17, ground := Ground.phase }], guard := none }) rfl (fun Kx hK => ?_) AllReadyH.nil
                go_simp
                refine hK.out _ _ ?_ (fun hHeld2 => ?_)
                · exact keepM FS2.out (M1.out _ FB2.out)
                clear hK Kx hHeld
                have hHeld := hHeld2
                clear hHeld2
                try simp only [Act.put, List.setIfInBounds_toArray, List.set_cons_zero, List.set_cons_succ]
                clear FB FS FP FQ g0 g1 g2 g3 g4 f0 f1 f2 f3 f4
                have FB := FB2
                clear FB2
                have FS := FS2
                clear FS2
                have FP := FP2
                clear FP2
                have FQ := FQ2
                clear FQ2
                obtain ⟨g0, g1, g2, g3, g4⟩ := five_cells FQ.out
                obtain ⟨f0, f1, f2, f3, f4, -⟩ := ten_free FQ.out
                have FQ2 := Lib.hid (set5 (x0 := .bool y0) (x1 := .bool y1) (x2 := .bool y2) (x3 := .bool y3) (x4 := .bool y4) FQ.out)
                have FP2 := Lib.hid (other5 FP.out (by omega : bQ ≠ bP) 0 1 2 3 4 (.bool y0) (.bool y1) (.bool y2) (.bool y3) (.bool y4))
                have FS2 := Lib.hid (FS.out.other5 hQ 0 1 2 3 4 (.bool y0) (.bool y1) (.bool y2) (.bool y3) (.bool y4))
                have FB2 := Lib.hid (below5 FB.out (by omega : w.heap.size ≤ bQ) 0 1 2 3 4 (.bool y0) (.bool y1) (.bool y2) (.bool y3) (.bool y4))
                refine wpAnyH_ready (rs := [19]) (by as_aux_lemma => kernel_rfl) (by simp) ?_
                refine AllReadyH.cons (o := { dst := none, op := Op.store 49 (Operand.tmp 11) (Operand.tmp 45), type := 0, pos := "law.go:54", after := #[{ on := 17, ground := Ground.data }, { on := 14, ground := Ground.data }, { on := 18, ground := Ground.chain }, { on := 0, ground := Ground.phase }, { on := 1, ground := Ground.phase }, { on := 2, ground := Ground.phase }, { on := 3, ground := Ground.phase }, { on := 4, ground := Ground.phase }, { on := 5, ground := Ground.phase }, { on := 6, ground := Ground.phase }, { on := 7, ground := Ground.phase }, { on := 8, ground := Ground.phase }, { on := 9, ground := Ground.phase }, { on := 10, ground := Ground.phase }, { on := 11, ground := Ground.phase }, { on := 12, ground := Ground.phase }, { on := 13, ground := Ground.phase }, { on := 14, ground := Ground.phase }, { on := 15, ground := Ground.textOnly Departure.lateStores }, { on := 16, ground := Ground.phase }, { on := 17, ground := Ground.phase }, { on := 18, ground := Ground.phase }], guard := none }) rfl (fun Kx hK => ?_) AllReadyH.nil
                go_simp
                refine hK.out _ _ ?_ (fun hHeld2 => ?_)
                · exact keepM FS2.out (M1.out _ FB2.out)
                clear hK Kx hHeld
                have hHeld := hHeld2
                clear hHeld2
                try simp only [Act.put, List.setIfInBounds_toArray, List.set_cons_zero, List.set_cons_succ]
                clear FB FS FP FQ g0 g1 g2 g3 g4 f0 f1 f2 f3 f4
                have FB := FB2
                clear FB2
                have FS := FS2
                clear FS2
                have FP := FP2
                clear FP2
                have FQ := FQ2
                clear FQ2
                as_aux_lemma =>
                  refine wpAnyH_take (i := 20) (oi := { dst := some 12, op := Op.assign (Operand.tmp 46), type := 35, pos := "law.go:54", after := #[{ on := 15, ground := Ground.data }, { on := 19, ground := Ground.chain }, { on := 0, ground := Ground.phase }, { on := 1, ground := Ground.phase }, { on := 2, ground := Ground.phase }, { on := 3, ground := Ground.phase }, { on := 4, ground := Ground.phase }, { on := 5, ground := Ground.phase }, { on := 6, ground := Ground.phase }, { on := 7, ground := Ground.phase }, { on := 8, ground := Ground.phase }, { on := 9, ground := Ground.phase }, { on := 10, ground := Ground.phase }, { on := 11, ground := Ground.phase }, { on := 12, ground := Ground.phase }, { on := 13, ground := Ground.phase }, { on := 14, ground := Ground.phase }, { on := 15, ground := Ground.phase }, { on := 16, ground := Ground.phase }, { on := 17, ground := Ground.phase }, { on := 18, ground := Ground.phase }, { on := 19, ground := Ground.phase }], guard := none }) (v := ?_) rfl (by as_aux_lemma => kernel_rfl) (by as_aux_lemma => kernel_rfl) (by as_aux_lemma => kernel_rfl) (fun _ _ _ h => h) (Or.inl ⟨by rfl, ?_⟩) (by assumption) ?_
                  rotate_left
                  · as_aux_lemma =>
                      intro w' hSw
                      try dsimp only at hSw
                      go_simp
                      try with_reducible rfl
                  try simp only [Act.put, List.setIfInBounds_toArray, List.set_cons_zero, List.set_cons_succ]
                  refine wpAnyH_done (by as_aux_lemma => kernel_rfl) ?_ _
                  go_wp2_with fail
                  go_meet
                  exact ⟨bP, bQ, rfl, rfl, rfl, FP, FQ, Lib.hid hP, Lib.hid hQ, FS, FB⟩
            · skip
              go_simp
              have bb := bl_newZ X1 (.cells #[.bool false, .bool false, .bool false, .bool false, .bool false] 49)
              have FB2 := Lib.hid (FB.out.trans (bb.mono FB.out.size))
              have FS2 := Lib.hid (FS.out.later bb)
              have FQ2 : Hid ((X1.alloc (.cells #[.bool false, .bool false, .bool false, .bool false, .bool false] 49)).heap[X1.heap.size]? = some (.cells #[.bool false, .bool false, .bool false, .bool false, .bool false] 49 (0, 0))) := Lib.hid (heap_alloc_new X1 _)
              have hQ : w.heap.size + 4 ≤ X1.heap.size := FS.out.top
              refine hK.out _ _ ?_ (fun hHeld2 => ?_)
              · exact keepM FS2.out (M1.out _ FB2.out)
              clear hK Kx hHeld
              have hHeld := hHeld2
              clear hHeld2
              try simp only [Act.put, List.setIfInBounds_toArray, List.set_cons_zero, List.set_cons_succ]
              clear FB FS bb 
              generalize X1.alloc (.cells #[.bool false, .bool false, .bool false, .bool false, .bool false] 49) = X2 at FB2 FS2 FQ2 hHeld ⊢
              generalize X1.heap.size = bQ at FQ2 hQ ⊢
              have FB := FB2
              clear FB2
              have FS := FS2
              clear FS2
              have FQ := FQ2
              clear FQ2
              refine wpAnyH_ready (rs := [16]) (by as_aux_lemma => kernel_rfl) (by simp) ?_
              refine AllReadyH.cons (o := { dst := some 10, op := Op.alloc 49, type := 0, pos := "law.go:54", after := #[], guard := none }) rfl (fun Kx hK => ?_) AllReadyH.nil
              · skip
                go_simp
                have bb := bl_newZ X2 (.cells #[.bool false, .bool false, .bool false, .bool false, .bool false] 49)
                have FB2 := Lib.hid (FB.out.trans (bb.mono FB.out.size))
                have FS2 := Lib.hid (FS.out.later bb)
                have FQ2 := Lib.hid (heapUp FQ.out bb)
                have FP2 : Hid ((X2.alloc (.cells #[.bool false, .bool false, .bool false, .bool false, .bool false] 49)).heap[X2.heap.size]? = some (.cells #[.bool false, .bool false, .bool false, .bool false, .bool false] 49 (0, 0))) := Lib.hid (heap_alloc_new X2 _)
                have hP : w.heap.size + 4 ≤ X2.heap.size := FS.out.top
                have hPQ : bQ < X2.heap.size := (Array.getElem?_eq_some_iff.1 FQ.out).1
                refine hK.out _ _ ?_ (fun hHeld2 => ?_)
                · exact keepM FS2.out (M1.out _ FB2.out)
                clear hK Kx hHeld
                have hHeld := hHeld2
                clear hHeld2
                try simp only [Act.put, List.setIfInBounds_toArray, List.set_cons_zero, List.set_cons_succ]
                clear FB FS bb FQ
                generalize X2.alloc (.cells #[.bool false, .bool false, .bool false, .bool false, .bool false] 49) = X3 at FB2 FS2 FP2 FQ2 hHeld ⊢
                generalize X2.heap.size = bP at FP2 hP hPQ ⊢
                have FB := FB2
                clear FB2
                have FS := FS2
                clear FS2
                have FP := FP2
                clear FP2
                have FQ := FQ2
                clear FQ2
                obtain ⟨g0, g1, g2, g3, g4⟩ := five_cells FP.out
                obtain ⟨f0, f1, f2, f3, f4, -⟩ := ten_free FP.out
                have FP2 := Lib.hid (set5 (x0 := .bool x0) (x1 := .bool x1) (x2 := .bool x2) (x3 := .bool x3) (x4 := .bool x4) FP.out)
                have FQ2 := Lib.hid (other5 FQ.out (by omega : bP ≠ bQ) 0 1 2 3 4 (.bool x0) (.bool x1) (.bool x2) (.bool x3) (.bool x4))
                have FS2 := Lib.hid (FS.out.other5 hP 0 1 2 3 4 (.bool x0) (.bool x1) (.bool x2) (.bool x3) (.bool x4))
                have FB2 := Lib.hid (below5 FB.out (by omega : w.heap.size ≤ bP) 0 1 2 3 4 (.bool x0) (.bool x1) (.bool x2) (.bool x3) (.bool x4))
                refine wpAnyH_ready (rs := [18]) (by as_aux_lemma => kernel_rfl) (by simp) ?_
                refine AllReadyH.cons (o := { dst := none, op := Op.store 49 (Operand.tmp 10) (Operand.tmp 44), type := 0, pos := "law.go:54", after := #[{ on := 16, ground := Ground.data }, { on := 13, ground := Ground.data }, { on := 11, ground := Ground.chain }, { on := 0, ground := Ground.phase }, { on := 1, ground := Ground.phase }, { on := 2, ground := Ground.phase }, { on := 3, ground := Ground.phase }, { on := 4, ground := Ground.phase }, { on := 5, ground := Ground.phase }, { on := 6, ground := Ground.phase }, { on := 7, ground := Ground.phase }, { on := 8, ground := Ground.phase }, { on := 9, ground := Ground.phase }, { on := 10, ground := Ground.phase }, { on := 11, ground := Ground.phase }, { on := 12, ground := Ground.phase }, { on := 13, ground := Ground.phase }, { on := 14, ground := Ground.textOnly Departure.lateStores }, { on := 15, ground := Ground.textOnly Departure.lateStores }, { on := 16, ground := Ground.phase }, { on := 17, ground := Ground.phase }], guard := none }) rfl (fun Kx hK => ?_) AllReadyH.nil
                go_simp
                refine hK.out _ _ ?_ (fun hHeld2 => ?_)
                · exact keepM FS2.out (M1.out _ FB2.out)
                clear hK Kx hHeld
                have hHeld := hHeld2
                clear hHeld2
                try simp only [Act.put, List.setIfInBounds_toArray, List.set_cons_zero, List.set_cons_succ]
                clear FB FS FP FQ g0 g1 g2 g3 g4 f0 f1 f2 f3 f4
                have FB := FB2
                clear FB2
                have FS := FS2
                clear FS2
                have FP := FP2
                clear FP2
                have FQ := FQ2
                clear FQ2
                obtain ⟨g0, g1, g2, g3, g4⟩ := five_cells FQ.out
                obtain ⟨f0, f1, f2, f3, f4, -⟩ := ten_free FQ.out
                have FQ2 := Lib.hid (set5 (x0 := .bool y0) (x1 := .bool y1) (x2 := .bool y2) (x3 := .bool y3) (x4 := .bool y4) FQ.out)
                have FP2 := Lib.hid (other5 FP.out (by omega : bQ ≠ bP) 0 1 2 3 4 (.bool y0) (.bool y1) (.bool y2) (.bool y3) (.bool y4))
                have FS2 := Lib.hid (FS.out.other5 hQ 0 1 2 3 4 (.bool y0) (.bool y1) (.bool y2) (.bool y3) (.bool y4))
                have FB2 := Lib.hid (below5 FB.out (by omega : w.heap.size ≤ bQ) 0 1 2 3 4 (.bool y0) (.bool y1) (.bool y2) (.bool y3) (.bool y4))
                refine wpAnyH_ready (rs := [19]) (by as_aux_lemma => kernel_rfl) (by simp) ?_
                refine AllReadyH.cons (o := { dst := none, op := Op.store 49 (Operand.tmp 11) (Operand.tmp 45), type := 0, pos := "law.go:54", after := #[{ on := 17, ground := Ground.data }, { on := 14, ground := Ground.data }, { on := 18, ground := Ground.chain }, { on := 0, ground := Ground.phase }, { on := 1, ground := Ground.phase }, { on := 2, ground := Ground.phase }, { on := 3, ground := Ground.phase }, { on := 4, ground := Ground.phase }, { on := 5, ground := Ground.phase }, { on := 6, ground := Ground.phase }, { on := 7, ground := Ground.phase }, { on := 8, ground := Ground.phase }, { on := 9, ground := Ground.phase }, { on := 10, ground := Ground.phase }, { on := 11, ground := Ground.phase }, { on := 12, ground := Ground.phase }, { on := 13, ground := Ground.phase }, { on := 14, ground := Ground.phase }, { on := 15, ground := Ground.textOnly Departure.lateStores }, { on := 16, ground := Ground.phase }, { on := 17, ground := Ground.phase }, { on := 18, ground := Ground.phase }], guard := none }) rfl (fun Kx hK => ?_) AllReadyH.nil
                go_simp
                refine hK.out _ _ ?_ (fun hHeld2 => ?_)
                · exact keepM FS2.out (M1.out _ FB2.out)
                clear hK Kx hHeld
                have hHeld := hHeld2
                clear hHeld2
                try simp only [Act.put, List.setIfInBounds_toArray, List.set_cons_zero, List.set_cons_succ]
                clear FB FS FP FQ g0 g1 g2 g3 g4 f0 f1 f2 f3 f4
                have FB := FB2
                clear FB2
                have FS := FS2
                clear FS2
                have FP := FP2
                clear FP2
                have FQ := FQ2
                clear FQ2
                as_aux_lemma =>
                  refine wpAnyH_take (i := 20) (oi := { dst := some 12, op := Op.assign (Operand.tmp 46), type := 35, pos := "law.go:54", after := #[{ on := 15, ground := Ground.data }, { on := 19, ground := Ground.chain }, { on := 0, ground := Ground.phase }, { on := 1, ground := Ground.phase }, { on := 2, ground := Ground.phase }, { on := 3, ground := Ground.phase }, { on := 4, ground := Ground.phase }, { on := 5, ground := Ground.phase }, { on := 6, ground := Ground.phase }, { on := 7, ground := Ground.phase }, { on := 8, ground := Ground.phase }, { on := 9, ground := Ground.phase }, { on := 10, ground := Ground.phase }, { on := 11, ground := Ground.phase }, { on := 12, ground := Ground.phase }, { on := 13, ground := Ground.phase }, { on := 14, ground := Ground.phase }, { on := 15, ground := Ground.phase }, { on := 16, ground := Ground.phase }, { on := 17, ground := Ground.phase }, { on := 18, ground := Ground.phase }, { on := 19, ground := Ground.phase }], guard := none }) (v := ?_) rfl (by as_aux_lemma => kernel_rfl) (by as_aux_lemma => kernel_rfl) (by as_aux_lemma => kernel_rfl) (fun _ _ _ h => h) (Or.inl ⟨by rfl, ?_⟩) (by assumption) ?_
                  rotate_left
                  · as_aux_lemma =>
                      intro w' hSw
                      try dsimp only at hSw
                      go_simp
                      try with_reducible rfl
                  try simp only [Act.put, List.setIfInBounds_toArray, List.set_cons_zero, List.set_cons_succ]
                  refine wpAnyH_done (by as_aux_lemma => kernel_rfl) ?_ _
                  go_wp2_with fail
                  go_meet
                  exact ⟨bP, bQ, rfl, rfl, rfl, FP, FQ, Lib.hid hP, Lib.hid hQ, FS, FB⟩
          · skip
            go_simp
            have bb := bl_newZ X0 (.cells #[.bool false, .bool false, .bool false, .bool false, .bool false] 49)
            have FB2 := Lib.hid (FB.out.trans (bb.mono FB.out.size))
            have FS2 := Lib.hid (FS.out.later bb)
            have FP2 : Hid ((X0.alloc (.cells #[.bool false, .bool false, .bool false, .bool false, .bool false] 49)).heap[X0.heap.size]? = some (.cells #[.bool false, .bool false, .bool false, .bool false, .bool false] 49 (0, 0))) := Lib.hid (heap_alloc_new X0 _)
            have hP : w.heap.size + 4 ≤ X0.heap.size := FS.out.top
            refine hK.out _ _ ?_ (fun hHeld2 => ?_)
            · exact keepM FS2.out (M1.out _ FB2.out)
            clear hK Kx hHeld
            have hHeld := hHeld2
            clear hHeld2
            try simp only [Act.put, List.setIfInBounds_toArray, List.set_cons_zero, List.set_cons_succ]
            clear FB FS bb 
            generalize X0.alloc (.cells #[.bool false, .bool false, .bool false, .bool false, .bool false] 49) = X1 at FB2 FS2 FP2 hHeld ⊢
            generalize X0.heap.size = bP at FP2 hP ⊢
            have FB := FB2
            clear FB2
            have FS := FS2
            clear FS2
            have FP := FP2
            clear FP2
            refine wpAnyH_ready (rs := [11, 17]) (by as_aux_lemma => kernel_rfl) (by simp) ?_
            refine AllReadyH.cons (o := { dst := some 43, op := Op.call { callee := Callee.value (Operand.func 34), args := #[Operand.tmp 34, Operand.tmp 37, Operand.tmp 42], argTypes := #[49, 49, 3] }, type := 54, pos := "law.go:54", after := #[{ on := 2, ground := Ground.data }, { on := 5, ground := Ground.data }, { on := 10, ground := Ground.data }], guard := none }) rfl (fun Kx hK => ?_) (AllReadyH.cons (o := { dst := some 11, op := Op.alloc 49, type := 0, pos := "law.go:54", after := #[], guard := none }) rfl (fun Kx hK => ?_) AllReadyH.nil)
            · skip
              go_simp
              refine (HA.out _).mono ?_
              rintro e X2 ⟨rfl, b9⟩
              have FB2 := Lib.hid (FB.out.trans (b9.mono FB.out.size))
              have FS2 := Lib.hid (FS.out.later b9)
              have FP2 := Lib.hid (heapUp FP.out b9)
              go_wp2_with fail
              refine hK.out _ _ ?_ (fun hHeld2 => ?_)
              · exact keepM FS2.out (M1.out _ FB2.out)
              clear hK Kx hHeld
              have hHeld := hHeld2
              clear hHeld2
              try simp only [Act.put, List.setIfInBounds_toArray, List.set_cons_zero, List.set_cons_succ]
              clear FB FS b9 FP
              have FB := FB2
              clear FB2
              have FS := FS2
              clear FS2
              have FP := FP2
              clear FP2
              refine wpAnyH_take (i := 12) (oi := { dst := some 31, op := Op.move (Operand.tmp 43), type := 54, pos := "law.go:54", after := #[{ on := 11, ground := Ground.data }], guard := none }) (v := ?_) rfl (by as_aux_lemma => kernel_rfl) (by as_aux_lemma => kernel_rfl) (by as_aux_lemma => kernel_rfl) (fun _ _ _ h => h) (Or.inl ⟨by rfl, ?_⟩) (by assumption) ?_
              rotate_left
              · as_aux_lemma =>
                  intro w' hSw
                  try dsimp only at hSw
                  go_simp
                  try with_reducible rfl
              try simp only [Act.put, List.setIfInBounds_toArray, List.set_cons_zero, List.set_cons_succ]
              refine wpAnyH_take (i := 13) (oi := { dst := some 44, op := Op.extract (Operand.tmp 31) 0, type := 49, pos := "law.go:54", after := #[{ on := 12, ground := Ground.data }], guard := none }) (v := ?_) rfl (by as_aux_lemma => kernel_rfl) (by as_aux_lemma => kernel_rfl) (by as_aux_lemma => kernel_rfl) (fun _ _ _ h => h) (Or.inl ⟨by rfl, ?_⟩) (by assumption) ?_
              rotate_left
              · as_aux_lemma =>
                  intro w' hSw
                  try dsimp only at hSw
                  go_simp
                  try with_reducible rfl
              try simp only [Act.put, List.setIfInBounds_toArray, List.set_cons_zero, List.set_cons_succ]
              refine wpAnyH_take (i := 14) (oi := { dst := some 45, op := Op.extract (Operand.tmp 31) 1, type := 49, pos := "law.go:54", after := #[{ on := 12, ground := Ground.data }, { on := 18, ground := Ground.gcOnly Departure.lateStores }], guard := none }) (v := ?_) rfl (by as_aux_lemma => kernel_rfl) (by as_aux_lemma => kernel_rfl) (by as_aux_lemma => kernel_rfl) (fun _ _ _ h => h) (Or.inl ⟨by rfl, ?_⟩) (by assumption) ?_
              rotate_left
              · as_aux_lemma =>
                  intro w' hSw
                  try dsimp only at hSw
                  go_simp
                  try with_reducible rfl
              try simp only [Act.put, List.setIfInBounds_toArray, List.set_cons_zero, List.set_cons_succ]
              refine wpAnyH_take (i := 15) (oi := { dst := some 46, op := Op.extract (Operand.tmp 31) 2, type := 35, pos := "law.go:54", after := #[{ on := 12, ground := Ground.data }, { on := 19, ground := Ground.gcOnly Departure.lateStores }], guard := none }) (v := ?_) rfl (by as_aux_lemma => kernel_rfl) (by as_aux_lemma => kernel_rfl) (by as_aux_lemma => kernel_rfl) (fun _ _ _ h => h) (Or.inl ⟨by rfl, ?_⟩) (by assumption) ?_
              rotate_left
              · as_aux_lemma =>
                  intro w' hSw
                  try dsimp only at hSw
                  go_simp
                  try with_reducible rfl
              try simp only [Act.put, List.setIfInBounds_toArray, List.set_cons_zero, List.set_cons_succ]
              refine wpAnyH_ready (rs := [17]) (by as_aux_lemma => kernel_rfl) (by simp) ?_
              refine AllReadyH.cons (o := { dst := some 11, op := Op.alloc 49, type := 0, pos := "law.go:54", after := #[], guard := none }) rfl (fun Kx hK => ?_) AllReadyH.nil
              · skip
                go_simp
                have bb := bl_newZ X2 (.cells #[.bool false, .bool false, .bool false, .bool false, .bool false] 49)
                have FB2 := Lib.hid (FB.out.trans (bb.mono FB.out.size))
                have FS2 := Lib.hid (FS.out.later bb)
                have FP2 := Lib.hid (heapUp FP.out bb)
                have FQ2 : Hid ((X2.alloc (.cells #[.bool false, .bool false, .bool false, .bool false, .bool false] 49)).heap[X2.heap.size]? = some (.cells #[.bool false, .bool false, .bool false, .bool false, .bool false] 49 (0, 0))) := Lib.hid (heap_alloc_new X2 _)
                have hQ : w.heap.size + 4 ≤ X2.heap.size := FS.out.top
                have hPQ : bP < X2.heap.size := (Array.getElem?_eq_some_iff.1 FP.out).1
                refine hK.out _ _ ?_ (fun hHeld2 => ?_)
                · exact keepM FS2.out (M1.out _ FB2.out)
                clear hK Kx hHeld
                have hHeld := hHeld2
                clear hHeld2
                try simp only [Act.put, List.setIfInBounds_toArray, List.set_cons_zero, List.set_cons_succ]
                clear FB FS bb FP
                generalize X2.alloc (.cells #[.bool false, .bool false, .bool false, .bool false, .bool false] 49) = X3 at FB2 FS2 FP2 FQ2 hHeld ⊢
                generalize X2.heap.size = bQ at FQ2 hQ hPQ ⊢
                have FB := FB2
                clear FB2
                have FS := FS2
                clear FS2
                have FP := FP2
                clear FP2
                have FQ := FQ2
                clear FQ2
                obtain ⟨g0, g1, g2, g3, g4⟩ := five_cells FP.out
                obtain ⟨f0, f1, f2, f3, f4, -⟩ := ten_free FP.out
                have FP2 := Lib.hid (set5 (x0 := .bool x0) (x1 := .bool x1) (x2 := .bool x2) (x3 := .bool x3) (x4 := .bool x4) FP.out)
                have FQ2 := Lib.hid (other5 FQ.out (by omega : bP ≠ bQ) 0 1 2 3 4 (.bool x0) (.bool x1) (.bool x2) (.bool x3) (.bool x4))
                have FS2 := Lib.hid (FS.out.other5 hP 0 1 2 3 4 (.bool x0) (.bool x1) (.bool x2) (.bool x3) (.bool x4))
                have FB2 := Lib.hid (below5 FB.out (by omega : w.heap.size ≤ bP) 0 1 2 3 4 (.bool x0) (.bool x1) (.bool x2) (.bool x3) (.bool x4))
                refine wpAnyH_ready (rs := [18]) (by as_aux_lemma => kernel_rfl) (by simp) ?_
                refine AllReadyH.cons (o := { dst := none, op := Op.store 49 (Operand.tmp 10) (Operand.tmp 44), type := 0, pos := "law.go:54", after := #[{ on := 16, ground := Ground.data }, { on := 13, ground := Ground.data }, { on := 11, ground := Ground.chain }, { on := 0, ground := Ground.phase }, { on := 1, ground := Ground.phase }, { on := 2, ground := Ground.phase }, { on := 3, ground := Ground.phase }, { on := 4, ground := Ground.phase }, { on := 5, ground := Ground.phase }, { on := 6, ground := Ground.phase }, { on := 7, ground := Ground.phase }, { on := 8, ground := Ground.phase }, { on := 9, ground := Ground.phase }, { on := 10, ground := Ground.phase }, { on := 11, ground := Ground.phase }, { on := 12, ground := Ground.phase }, { on := 13, ground := Ground.phase }, { on := 14, ground := Ground.textOnly Departure.lateStores }, { on := 15, ground := Ground.textOnly Departure.lateStores }, { on := 16, ground := Ground.phase }, { on := 17, ground := Ground.phase }], guard := none }) rfl (fun Kx hK => ?_) AllReadyH.nil
                go_simp
                refine hK.out _ _ ?_ (fun hHeld2 => ?_)
                · exact keepM FS2.out (M1.out _ FB2.out)
                clear hK Kx hHeld
                have hHeld := hHeld2
                clear hHeld2
                try simp only [Act.put, List.setIfInBounds_toArray, List.set_cons_zero, List.set_cons_succ]
                clear FB FS FP FQ g0 g1 g2 g3 g4 f0 f1 f2 f3 f4
                have FB := FB2
                clear FB2
                have FS := FS2
                clear FS2
                have FP := FP2
                clear FP2
                have FQ := FQ2
                clear FQ2
                obtain ⟨g0, g1, g2, g3, g4⟩ := five_cells FQ.out
                obtain ⟨f0, f1, f2, f3, f4, -⟩ := ten_free FQ.out
                have FQ2 := Lib.hid (set5 (x0 := .bool y0) (x1 := .bool y1) (x2 := .bool y2) (x3 := .bool y3) (x4 := .bool y4) FQ.out)
                have FP2 := Lib.hid (other5 FP.out (by omega : bQ ≠ bP) 0 1 2 3 4 (.bool y0) (.bool y1) (.bool y2) (.bool y3) (.bool y4))
                have FS2 := Lib.hid (FS.out.other5 hQ 0 1 2 3 4 (.bool y0) (.bool y1) (.bool y2) (.bool y3) (.bool y4))
                have FB2 := Lib.hid (below5 FB.out (by omega : w.heap.size ≤ bQ) 0 1 2 3 4 (.bool y0) (.bool y1) (.bool y2) (.bool y3) (.bool y4))
                refine wpAnyH_ready (rs := [19]) (by as_aux_lemma => kernel_rfl) (by simp) ?_
                refine AllReadyH.cons (o := { dst := none, op := Op.store 49 (Operand.tmp 11) (Operand.tmp 45), type := 0, pos := "law.go:54", after := #[{ on := 17, ground := Ground.data }, { on := 14, ground := Ground.data }, { on := 18, ground := Ground.chain }, { on := 0, ground := Ground.phase }, { on := 1, ground := Ground.phase }, { on := 2, ground := Ground.phase }, { on := 3, ground := Ground.phase }, { on := 4, ground := Ground.phase }, { on := 5, ground := Ground.phase }, { on := 6, ground := Ground.phase }, { on := 7, ground := Ground.phase }, { on := 8, ground := Ground.phase }, { on := 9, ground := Ground.phase }, { on := 10, ground := Ground.phase }, { on := 11, ground := Ground.phase }, { on := 12, ground := Ground.phase }, { on := 13, ground := Ground.phase }, { on := 14, ground := Ground.phase }, { on := 15, ground := Ground.textOnly Departure.lateStores }, { on := 16, ground := Ground.phase }, { on := 17, ground := Ground.phase }, { on := 18, ground := Ground.phase }], guard := none }) rfl (fun Kx hK => ?_) AllReadyH.nil
                go_simp
                refine hK.out _ _ ?_ (fun hHeld2 => ?_)
                · exact keepM FS2.out (M1.out _ FB2.out)
                clear hK Kx hHeld
                have hHeld := hHeld2
                clear hHeld2
                try simp only [Act.put, List.setIfInBounds_toArray, List.set_cons_zero, List.set_cons_succ]
                clear FB FS FP FQ g0 g1 g2 g3 g4 f0 f1 f2 f3 f4
                have FB := FB2
                clear FB2
                have FS := FS2
                clear FS2
                have FP := FP2
                clear FP2
                have FQ := FQ2
                clear FQ2
                as_aux_lemma =>
                  refine wpAnyH_take (i := 20) (oi := { dst := some 12, op := Op.assign (Operand.tmp 46), type := 35, pos := "law.go:54", after := #[{ on := 15, ground := Ground.data }, { on := 19, ground := Ground.chain }, { on := 0, ground := Ground.phase }, { on := 1, ground := Ground.phase }, { on := 2, ground := Ground.phase }, { on := 3, ground := Ground.phase }, { on := 4, ground := Ground.phase }, { on := 5, ground := Ground.phase }, { on := 6, ground := Ground.phase }, { on := 7, ground := Ground.phase }, { on := 8, ground := Ground.phase }, { on := 9, ground := Ground.phase }, { on := 10, ground := Ground.phase }, { on := 11, ground := Ground.phase }, { on := 12, ground := Ground.phase }, { on := 13, ground := Ground.phase }, { on := 14, ground := Ground.phase }, { on := 15, ground := Ground.phase }, { on := 16, ground := Ground.phase }, { on := 17, ground := Ground.phase }, { on := 18, ground := Ground.phase }, { on := 19, ground := Ground.phase }], guard := none }) (v := ?_) rfl (by as_aux_lemma => kernel_rfl) (by as_aux_lemma => kernel_rfl) (by as_aux_lemma => kernel_rfl) (fun _ _ _ h => h) (Or.inl ⟨by rfl, ?_⟩) (by assumption) ?_
                  rotate_left
                  · as_aux_lemma =>
                      intro w' hSw
                      try dsimp only at hSw
                      go_simp
                      try with_reducible rfl
                  try simp only [Act.put, List.setIfInBounds_toArray, List.set_cons_zero, List.set_cons_succ]
                  refine wpAnyH_done (by as_aux_lemma => kernel_rfl) ?_ _
                  go_wp2_with fail
                  go_meet
                  exact ⟨bP, bQ, rfl, rfl, rfl, FP, FQ, Lib.hid hP, Lib.hid hQ, FS, FB⟩
            · skip
              go_simp
              have bb := bl_newZ X1 (.cells #[.bool false, .bool false, .bool false, .bool false, .bool false] 49)
              have FB2 := Lib.hid (FB.out.trans (bb.mono FB.out.size))
              have FS2 := Lib.hid (FS.out.later bb)
              have FP2 := Lib.hid (heapUp FP.out bb)
              have FQ2 : Hid ((X1.alloc (.cells #[.bool false, .bool false, .bool false, .bool false, .bool false] 49)).heap[X1.heap.size]? = some (.cells #[.bool false, .bool false, .bool false, .bool false, .bool false] 49 (0, 0))) := Lib.hid (heap_alloc_new X1 _)
              have hQ : w.heap.size + 4 ≤ X1.heap.size := FS.out.top
              have hPQ : bP < X1.heap.size := (Array.getElem?_eq_some_iff.1 FP.out).1
              refine hK.out _ _ ?_ (fun hHeld2 => ?_)
              · exact keepM FS2.out (M1.out _ FB2.out)
              clear hK Kx hHeld
              have hHeld := hHeld2
              clear hHeld2
              try simp only [Act.put, List.setIfInBounds_toArray, List.set_cons_zero, List.set_cons_succ]
              clear FB FS bb FP
              generalize X1.alloc (.cells #[.bool false, .bool false, .bool false, .bool false, .bool false] 49) = X2 at FB2 FS2 FP2 FQ2 hHeld ⊢
              generalize X1.heap.size = bQ at FQ2 hQ hPQ ⊢
              have FB := FB2
              clear FB2
              have FS := FS2
              clear FS2
              have FP := FP2
              clear FP2
              have FQ := FQ2
              clear FQ2
              refine wpAnyH_ready (rs := [11]) (by as_aux_lemma => kernel_rfl) (by simp) ?_
              refine AllReadyH.cons (o := { dst := some 43, op := Op.call { callee := Callee.value (Operand.func 34), args := #[Operand.tmp 34, Operand.tmp 37, Operand.tmp 42], argTypes := #[49, 49, 3] }, type := 54, pos := "law.go:54", after := #[{ on := 2, ground := Ground.data }, { on := 5, ground := Ground.data }, { on := 10, ground := Ground.data }], guard := none }) rfl (fun Kx hK => ?_) AllReadyH.nil
              · skip
                go_simp
                refine (HA.out _).mono ?_
                rintro e X3 ⟨rfl, b9⟩
                have FB2 := Lib.hid (FB.out.trans (b9.mono FB.out.size))
                have FS2 := Lib.hid (FS.out.later b9)
                have FP2 := Lib.hid (heapUp FP.out b9)
                have FQ2 := Lib.hid (heapUp FQ.out b9)
                go_wp2_with fail
                refine hK.out _ _ ?_ (fun hHeld2 => ?_)
                · exact keepM FS2.out (M1.out _ FB2.out)
                clear hK Kx hHeld
                have hHeld := hHeld2
                clear hHeld2
                try simp only [Act.put, List.setIfInBounds_toArray, List.set_cons_zero, List.set_cons_succ]
                clear FB FS b9 FP FQ
                have FB := FB2
                clear FB2
                have FS := FS2
                clear FS2
                have FP := FP2
                clear FP2
                have FQ := FQ2
                clear FQ2
                refine wpAnyH_take (i := 12) (oi := { dst := some 31, op := Op.move (Operand.tmp 43), type := 54, pos := "law.go:54", after := #[{ on := 11, ground := Ground.data }], guard := none }) (v := ?_) rfl (by as_aux_lemma => kernel_rfl) (by as_aux_lemma => kernel_rfl) (by as_aux_lemma => kernel_rfl) (fun _ _ _ h => h) (Or.inl ⟨by rfl, ?_⟩) (by assumption) ?_
                rotate_left
                · as_aux_lemma =>
                    intro w' hSw
                    try dsimp only at hSw
                    go_simp
                    try with_reducible rfl
                try simp only [Act.put, List.setIfInBounds_toArray, List.set_cons_zero, List.set_cons_succ]
                refine wpAnyH_take (i := 13) (oi := { dst := some 44, op := Op.extract (Operand.tmp 31) 0, type := 49, pos := "law.go:54", after := #[{ on := 12, ground := Ground.data }], guard := none }) (v := ?_) rfl (by as_aux_lemma => kernel_rfl) (by as_aux_lemma => kernel_rfl) (by as_aux_lemma => kernel_rfl) (fun _ _ _ h => h) (Or.inl ⟨by rfl, ?_⟩) (by assumption) ?_
                rotate_left
                · as_aux_lemma =>
                    intro w' hSw
                    try dsimp only at hSw
                    go_simp
                    try with_reducible rfl
                try simp only [Act.put, List.setIfInBounds_toArray, List.set_cons_zero, List.set_cons_succ]
                refine wpAnyH_take (i := 14) (oi := { dst := some 45, op := Op.extract (Operand.tmp 31) 1, type := 49, pos := "law.go:54", after := #[{ on := 12, ground := Ground.data }, { on := 18, ground := Ground.gcOnly Departure.lateStores }], guard := none }) (v := ?_) rfl (by as_aux_lemma => kernel_rfl) (by as_aux_lemma => kernel_rfl) (by as_aux_lemma => kernel_rfl) (fun _ _ _ h => h) (Or.inl ⟨by rfl, ?_⟩) (by assumption) ?_
                rotate_left
                · as_aux_lemma =>
                    intro w' hSw
                    try dsimp only at hSw
                    go_simp
                    try with_reducible rfl
                try simp only [Act.put, List.setIfInBounds_toArray, List.set_cons_zero, List.set_cons_succ]
                refine wpAnyH_take (i := 15) (oi := { dst := some 46, op := Op.extract (Operand.tmp 31) 2, type := 35, pos := "law.go:54", after := #[{ on := 12, ground := Ground.data }, { on := 19, ground := Ground.gcOnly Departure.lateStores }], guard := none }) (v := ?_) rfl (by as_aux_lemma => kernel_rfl) (by as_aux_lemma => kernel_rfl) (by as_aux_lemma => kernel_rfl) (fun _ _ _ h => h) (Or.inl ⟨by rfl, ?_⟩) (by assumption) ?_
                rotate_left
                · as_aux_lemma =>
                    intro w' hSw
                    try dsimp only at hSw
                    go_simp
                    try with_reducible rfl
                try simp only [Act.put, List.setIfInBounds_toArray, List.set_cons_zero, List.set_cons_succ]
                obtain ⟨g0, g1, g2, g3, g4⟩ := five_cells FP.out
                obtain ⟨f0, f1, f2, f3, f4, -⟩ := ten_free FP.out
                have FP2 := Lib.hid (set5 (x0 := .bool x0) (x1 := .bool x1) (x2 := .bool x2) (x3 := .bool x3) (x4 := .bool x4) FP.out)
                have FQ2 := Lib.hid (other5 FQ.out (by omega : bP ≠ bQ) 0 1 2 3 4 (.bool x0) (.bool x1) (.bool x2) (.bool x3) (.bool x4))
                have FS2 := Lib.hid (FS.out.other5 hP 0 1 2 3 4 (.bool x0) (.bool x1) (.bool x2) (.bool x3) (.bool x4))
                have FB2 := Lib.hid (below5 FB.out (by omega : w.heap.size ≤ bP) 0 1 2 3 4 (.bool x0) (.bool x1) (.bool x2) (.bool x3) (.bool x4))
                refine wpAnyH_ready (rs := [18]) (by as_aux_lemma => kernel_rfl) (by simp) ?_
                refine AllReadyH.cons (o := { dst := none, op := Op.store 49 (Operand.tmp 10) (Operand.tmp 44), type := 0, pos := "law.go:54", after := #[{ on := 16, ground := Ground.data }, { on := 13, ground := Ground.data }, { on := 11, ground := Ground.chain }, { on := 0, ground := Ground.phase }, { on := 1, ground := Ground.phase }, { on := 2, ground := Ground.phase }, { on := 3, ground := Ground.phase }, { on := 4, ground := Ground.phase }, { on := 5, ground := Ground.phase }, { on := 6, ground := Ground.phase }, { on := 7, ground := Ground.phase }, { on := 8, ground := Ground.phase }, { on := 9, ground := Ground.phase }, { on := 10, ground := Ground.phase }, { on := 11, ground := Ground.phase }, { on := 12, ground := Ground.phase }, { on := 13, ground := Ground.phase }, { on := 14, ground := Ground.textOnly Departure.lateStores }, { on := 15, ground := Ground.textOnly Departure.lateStores }, { on := 16, ground := Ground.phase }, { on := 17, ground := Ground.phase }], guard := none }) rfl (fun Kx hK => ?_) AllReadyH.nil
                go_simp
                refine hK.out _ _ ?_ (fun hHeld2 => ?_)
                · exact keepM FS2.out (M1.out _ FB2.out)
                clear hK Kx hHeld
                have hHeld := hHeld2
                clear hHeld2
                try simp only [Act.put, List.setIfInBounds_toArray, List.set_cons_zero, List.set_cons_succ]
                clear FB FS FP FQ g0 g1 g2 g3 g4 f0 f1 f2 f3 f4
                have FB := FB2
                clear FB2
                have FS := FS2
                clear FS2
                have FP := FP2
                clear FP2
                have FQ := FQ2
                clear FQ2
                obtain ⟨g0, g1, g2, g3, g4⟩ := five_cells FQ.out
                obtain ⟨f0, f1, f2, f3, f4, -⟩ := ten_free FQ.out
                have FQ2 := Lib.hid (set5 (x0 := .bool y0) (x1 := .bool y1) (x2 := .bool y2) (x3 := .bool y3) (x4 := .bool y4) FQ.out)
                have FP2 := Lib.hid (other5 FP.out (by omega : bQ ≠ bP) 0 1 2 3 4 (.bool y0) (.bool y1) (.bool y2) (.bool y3) (.bool y4))
                have FS2 := Lib.hid (FS.out.other5 hQ 0 1 2 3 4 (.bool y0) (.bool y1) (.bool y2) (.bool y3) (.bool y4))
                have FB2 := Lib.hid (below5 FB.out (by omega : w.heap.size ≤ bQ) 0 1 2 3 4 (.bool y0) (.bool y1) (.bool y2) (.bool y3) (.bool y4))
                refine wpAnyH_ready (rs := [19]) (by as_aux_lemma => kernel_rfl) (by simp) ?_
                refine AllReadyH.cons (o := { dst := none, op := Op.store 49 (Operand.tmp 11) (Operand.tmp 45), type := 0, pos := "law.go:54", after := #[{ on := 17, ground := Ground.data }, { on := 14, ground := Ground.data }, { on := 18, ground := Ground.chain }, { on := 0, ground := Ground.phase }, { on := 1, ground := Ground.phase }, { on := 2, ground := Ground.phase }, { on := 3, ground := Ground.phase }, { on := 4, ground := Ground.phase }, { on := 5, ground := Ground.phase }, { on := 6, ground := Ground.phase }, { on := 7, ground := Ground.phase }, { on := 8, ground := Ground.phase }, { on := 9, ground := Ground.phase }, { on := 10, ground := Ground.phase }, { on := 11, ground := Ground.phase }, { on := 12, ground := Ground.phase }, { on := 13, ground := Ground.phase }, { on := 14, ground := Ground.phase }, { on := 15, ground := Ground.textOnly Departure.lateStores }, { on := 16, ground := Ground.phase }, { on := 17, ground := Ground.phase }, { on := 18, ground := Ground.phase }], guard := none }) rfl (fun Kx hK => ?_) AllReadyH.nil
                go_simp
                refine hK.out _ _ ?_ (fun hHeld2 => ?_)
                · exact keepM FS2.out (M1.out _ FB2.out)
                clear hK Kx hHeld
                have hHeld := hHeld2
                clear hHeld2
                try simp only [Act.put, List.setIfInBounds_toArray, List.set_cons_zero, List.set_cons_succ]
                clear FB FS FP FQ g0 g1 g2 g3 g4 f0 f1 f2 f3 f4
                have FB := FB2
                clear FB2
                have FS := FS2
                clear FS2
                have FP := FP2
                clear FP2
                have FQ := FQ2
                clear FQ2
                as_aux_lemma =>
                  refine wpAnyH_take (i := 20) (oi := { dst := some 12, op := Op.assign (Operand.tmp 46), type := 35, pos := "law.go:54", after := #[{ on := 15, ground := Ground.data }, { on := 19, ground := Ground.chain }, { on := 0, ground := Ground.phase }, { on := 1, ground := Ground.phase }, { on := 2, ground := Ground.phase }, { on := 3, ground := Ground.phase }, { on := 4, ground := Ground.phase }, { on := 5, ground := Ground.phase }, { on := 6, ground := Ground.phase }, { on := 7, ground := Ground.phase }, { on := 8, ground := Ground.phase }, { on := 9, ground := Ground.phase }, { on := 10, ground := Ground.phase }, { on := 11, ground := Ground.phase }, { on := 12, ground := Ground.phase }, { on := 13, ground := Ground.phase }, { on := 14, ground := Ground.phase }, { on := 15, ground := Ground.phase }, { on := 16, ground := Ground.phase }, { on := 17, ground := Ground.phase }, { on := 18, ground := Ground.phase }, { on := 19, ground := Ground.phase }], guard := none }) (v := ?_) rfl (by as_aux_lemma => kernel_rfl) (by as_aux_lemma => kernel_rfl) (by as_aux_lemma => kernel_rfl) (fun _ _ _ h => h) (Or.inl ⟨by rfl, ?_⟩) (by assumption) ?_
                  rotate_left
                  · as_aux_lemma =>
                      intro w' hSw
                      try dsimp only at hSw
                      go_simp
                      try with_reducible rfl
                  try simp only [Act.put, List.setIfInBounds_toArray, List.set_cons_zero, List.set_cons_succ]
                  refine wpAnyH_done (by as_aux_lemma => kernel_rfl) ?_ _
                  go_wp2_with fail
                  go_meet
                  exact ⟨bP, bQ, rfl, rfl, rfl, FP, FQ, Lib.hid hP, Lib.hid hQ, FS, FB⟩
          · skip
            go_simp
            have bb := bl_newZ X0 (.cells #[.bool false, .bool false, .bool false, .bool false, .bool false] 49)
            have FB2 := Lib.hid (FB.out.trans (bb.mono FB.out.size))
            have FS2 := Lib.hid (FS.out.later bb)
            have FQ2 : Hid ((X0.alloc (.cells #[.bool false, .bool false, .bool false, .bool false, .bool false] 49)).heap[X0.heap.size]? = some (.cells #[.bool false, .bool false, .bool false, .bool false, .bool false] 49 (0, 0))) := Lib.hid (heap_alloc_new X0 _)
            have hQ : w.heap.size + 4 ≤ X0.heap.size := FS.out.top
            refine hK.out _ _ ?_ (fun hHeld2 => ?_)
            · exact keepM FS2.out (M1.out _ FB2.out)
            clear hK Kx hHeld
            have hHeld := hHeld2
            clear hHeld2
            try simp only [Act.put, List.setIfInBounds_toArray, List.set_cons_zero, List.set_cons_succ]
            clear FB FS bb 
            generalize X0.alloc (.cells #[.bool false, .bool false, .bool false, .bool false, .bool false] 49) = X1 at FB2 FS2 FQ2 hHeld ⊢
            generalize X0.heap.size = bQ at FQ2 hQ ⊢
            have FB := FB2
            clear FB2
            have FS := FS2
            clear FS2
            have FQ := FQ2
            clear FQ2
            refine wpAnyH_ready (rs := [11, 16]) (by as_aux_lemma => kernel_rfl) (by simp) ?_
            refine AllReadyH.cons (o := { dst := some 43, op := Op.call { callee := Callee.value (Operand.func 34), args := #[Operand.tmp 34, Operand.tmp 37, Operand.tmp 42], argTypes := #[49, 49, 3] }, type := 54, pos := "law.go:54", after := #[{ on := 2, ground := Ground.data }, { on := 5, ground := Ground.data }, { on := 10, ground := Ground.data }], guard := none }) rfl (fun Kx hK => ?_) (AllReadyH.cons (o := { dst := some 10, op := Op.alloc 49, type := 0, pos := "law.go:54", after := #[], guard := none }) rfl (fun Kx hK => ?_) AllReadyH.nil)
            · skip
              go_simp
              refine (HA.out _).mono ?_
              rintro e X2 ⟨rfl, b9⟩
              have FB2 := Lib.hid (FB.out.trans (b9.mono FB.out.size))
              have FS2 := Lib.hid (FS.out.later b9)
              have FQ2 := Lib.hid (heapUp FQ.out b9)
              go_wp2_with fail
              refine hK.out _ _ ?_ (fun hHeld2 => ?_)
              · exact keepM FS2.out (M1.out _ FB2.out)
              clear hK Kx hHeld
              have hHeld := hHeld2
              clear hHeld2
              try simp only [Act.put, List.setIfInBounds_toArray, List.set_cons_zero, List.set_cons_succ]
              clear FB FS b9 FQ
              have FB := FB2
              clear FB2
              have FS := FS2
              clear FS2
              have FQ := FQ2
              clear FQ2
              refine wpAnyH_take (i := 12) (oi := { dst := some 31, op := Op.move (Operand.tmp 43), type := 54, pos := "law.go:54", after := #[{ on := 11, ground := Ground.data }], guard := none }) (v := ?_) rfl (by as_aux_lemma => kernel_rfl) (by as_aux_lemma => kernel_rfl) (by as_aux_lemma => kernel_rfl) (fun _ _ _ h => h) (Or.inl ⟨by rfl, ?_⟩) (by assumption) ?_
              rotate_left
              · as_aux_lemma =>
                  intro w' hSw
                  try dsimp only at hSw
                  go_simp
                  try with_reducible rfl
              try simp only [Act.put, List.setIfInBounds_toArray, List.set_cons_zero, List.set_cons_succ]
              refine wpAnyH_take (i := 13) (oi := { dst := some 44, op := Op.extract (Operand.tmp 31) 0, type := 49, pos := "law.go:54", after := #[{ on := 12, ground := Ground.data }], guard := none }) (v := ?_) rfl (by as_aux_lemma => kernel_rfl) (by as_aux_lemma => kernel_rfl) (by as_aux_lemma => kernel_rfl) (fun _ _ _ h => h) (Or.inl ⟨by rfl, ?_⟩) (by assumption) ?_
              rotate_left
              · as_aux_lemma =>
                  intro w' hSw
                  try dsimp only at hSw
                  go_simp
                  try with_reducible rfl
              try simp only [Act.put, List.setIfInBounds_toArray, List.set_cons_zero, List.set_cons_succ]
              refine wpAnyH_take (i := 14) (oi := { dst := some 45, op := Op.extract (Operand.tmp 31) 1, type := 49, pos := "law.go:54", after := #[{ on := 12, ground := Ground.data }, { on := 18, ground := Ground.gcOnly Departure.lateStores }], guard := none }) (v := ?_) rfl (by as_aux_lemma => kernel_rfl) (by as_aux_lemma => kernel_rfl) (by as_aux_lemma => kernel_rfl) (fun _ _ _ h => h) (Or.inl ⟨by rfl, ?_⟩) (by assumption) ?_
              rotate_left
              · as_aux_lemma =>
                  intro w' hSw
                  try dsimp only at hSw
                  go_simp
                  try with_reducible rfl
              try simp only [Act.put, List.setIfInBounds_toArray, List.set_cons_zero, List.set_cons_succ]
              refine wpAnyH_take (i := 15) (oi := { dst := some 46, op := Op.extract (Operand.tmp 31) 2, type := 35, pos := "law.go:54", after := #[{ on := 12, ground := Ground.data }, { on := 19, ground := Ground.gcOnly Departure.lateStores }], guard := none }) (v := ?_) rfl (by as_aux_lemma => kernel_rfl) (by as_aux_lemma => kernel_rfl) (by as_aux_lemma => kernel_rfl) (fun _ _ _ h => h) (Or.inl ⟨by rfl, ?_⟩) (by assumption) ?_
              rotate_left
              · as_aux_lemma =>
                  intro w' hSw
                  try dsimp only at hSw
                  go_simp
                  try with_reducible rfl
              try simp only [Act.put, List.setIfInBounds_toArray, List.set_cons_zero, List.set_cons_succ]
              refine wpAnyH_ready (rs := [16]) (by as_aux_lemma => kernel_rfl) (by simp) ?_
              refine AllReadyH.cons (o := { dst := some 10, op := Op.alloc 49, type := 0, pos := "law.go:54", after := #[], guard := none }) rfl (fun Kx hK => ?_) AllReadyH.nil
              · skip
                go_simp
                have bb := bl_newZ X2 (.cells #[.bool false, .bool false, .bool false, .bool false, .bool false] 49)
                have FB2 := Lib.hid (FB.out.trans (bb.mono FB.out.size))
                have FS2 := Lib.hid (FS.out.later bb)
                have FQ2 := Lib.hid (heapUp FQ.out bb)
                have FP2 : Hid ((X2.alloc (.cells #[.bool false, .bool false, .bool false, .bool false, .bool false] 49)).heap[X2.heap.size]? = some (.cells #[.bool false, .bool false, .bool false, .bool false, .bool false] 49 (0, 0))) := Lib.hid (heap_alloc_new X2 _)
                have hP : w.heap.size + 4 ≤ X2.heap.size := FS.out.top
                have hPQ : bQ < X2.heap.size := (Array.getElem?_eq_some_iff.1 FQ.out).1
                refine hK.out _ _ ?_ (fun hHeld2 => ?_)
                · exact keepM FS2.out (M1.out _ FB2.out)
                clear hK Kx hHeld
                have hHeld := hHeld2
                clear hHeld2
                try simp only [Act.put, List.setIfInBounds_toArray, List.set_cons_zero, List.set_cons_succ]
                clear FB FS bb FQ
                generalize X2.alloc (.cells #[.bool false, .bool false, .bool false, .bool false, .bool false] 49) = X3 at FB2 FS2 FP2 FQ2 hHeld ⊢
                generalize X2.heap.size = bP at FP2 hP hPQ ⊢
                have FB := FB2
                clear FB2
                have FS := FS2
                clear FS2
                have FP := FP2
                clear FP2
                have FQ := FQ2
                clear FQ2
                obtain ⟨g0, g1, g2, g3, g4⟩ := five_cells FP.out
                obtain ⟨f0, f1, f2, f3, f4, -⟩ := ten_free FP.out
                have FP2 := Lib.hid (set5 (x0 := .bool x0) (x1 := .bool x1) (x2 := .bool x2) (x3 := .bool x3) (x4 := .bool x4) FP.out)
                have FQ2 := Lib.hid (other5 FQ.out (by omega : bP ≠ bQ) 0 1 2 3 4 (.bool x0) (.bool x1) (.bool x2) (.bool x3) (.bool x4))
                have FS2 := Lib.hid (FS.out.other5 hP 0 1 2 3 4 (.bool x0) (.bool x1) (.bool x2) (.bool x3) (.bool x4))
                have FB2 := Lib.hid (below5 FB.out (by omega : w.heap.size ≤ bP) 0 1 2 3 4 (.bool x0) (.bool x1) (.bool x2) (.bool x3) (.bool x4))
                refine wpAnyH_ready (rs := [18]) (by as_aux_lemma => kernel_rfl) (by simp) ?_
                refine AllReadyH.cons (o := { dst := none, op := Op.store 49 (Operand.tmp 10) (Operand.tmp 44), type := 0, pos := "law.go:54", after := #[{ on := 16, ground := Ground.data }, { on := 13, ground := Ground.data }, { on := 11, ground := Ground.chain }, { on := 0, ground := Ground.phase }, { on := 1, ground := Ground.phase }, { on := 2, ground := Ground.phase }, { on := 3, ground := Ground.phase }, { on := 4, ground := Ground.phase }, { on := 5, ground := Ground.phase }, { on := 6, ground := Ground.phase }, { on := 7, ground := Ground.phase }, { on := 8, ground := Ground.phase }, { on := 9, ground := Ground.phase }, { on := 10, ground := Ground.phase }, { on := 11, ground := Ground.phase }, { on := 12, ground := Ground.phase }, { on := 13, ground := Ground.phase }, { on := 14, ground := Ground.textOnly Departure.lateStores }, { on := 15, ground := Ground.textOnly Departure.lateStores }, { on := 16, ground := Ground.phase }, { on := 17, ground := Ground.phase }], guard := none }) rfl (fun Kx hK => ?_) AllReadyH.nil
                go_simp
                refine hK.out _ _ ?_ (fun hHeld2 => ?_)
                · exact keepM FS2.out (M1.out _ FB2.out)
                clear hK Kx hHeld
                have hHeld := hHeld2
                clear hHeld2
                try simp only [Act.put, List.setIfInBounds_toArray, List.set_cons_zero, List.set_cons_succ]
                clear FB FS FP FQ g0 g1 g2 g3 g4 f0 f1 f2 f3 f4
                have FB := FB2
                clear FB2
                have FS := FS2
                clear FS2
                have FP := FP2
                clear FP2
                have FQ := FQ2
                clear FQ2
                obtain ⟨g0, g1, g2, g3, g4⟩ := five_cells FQ.out
                obtain ⟨f0, f1, f2, f3, f4, -⟩ := ten_free FQ.out
                have FQ2 := Lib.hid (set5 (x0 := .bool y0) (x1 := .bool y1) (x2 := .bool y2) (x3 := .bool y3) (x4 := .bool y4) FQ.out)
                have FP2 := Lib.hid (other5 FP.out (by omega : bQ ≠ bP) 0 1 2 3 4 (.bool y0) (.bool y1) (.bool y2) (.bool y3) (.bool y4))
                have FS2 := Lib.hid (FS.out.other5 hQ 0 1 2 3 4 (.bool y0) (.bool y1) (.bool y2) (.bool y3) (.bool y4))
                have FB2 := Lib.hid (below5 FB.out (by omega : w.heap.size ≤ bQ) 0 1 2 3 4 (.bool y0) (.bool y1) (.bool y2) (.bool y3) (.bool y4))
                refine wpAnyH_ready (rs := [19]) (by as_aux_lemma => kernel_rfl) (by simp) ?_
                refine AllReadyH.cons (o := { dst := none, op := Op.store 49 (Operand.tmp 11) (Operand.tmp 45), type := 0, pos := "law.go:54", after := #[{ on := 17, ground := Ground.data }, { on := 14, ground := Ground.data }, { on := 18, ground := Ground.chain }, { on := 0, ground := Ground.phase }, { on := 1, ground := Ground.phase }, { on := 2, ground := Ground.phase }, { on := 3, ground := Ground.phase }, { on := 4, ground := Ground.phase }, { on := 5, ground := Ground.phase }, { on := 6, ground := Ground.phase }, { on := 7, ground := Ground.phase }, { on := 8, ground := Ground.phase }, { on := 9, ground := Ground.phase }, { on := 10, ground := Ground.phase }, { on := 11, ground := Ground.phase }, { on := 12, ground := Ground.phase }, { on := 13, ground := Ground.phase }, { on := 14, ground := Ground.phase }, { on := 15, ground := Ground.textOnly Departure.lateStores }, { on := 16, ground := Ground.phase }, { on := 17, ground := Ground.phase }, { on := 18, ground := Ground.phase }], guard := none }) rfl (fun Kx hK => ?_) AllReadyH.nil
                go_simp
                refine hK.out _ _ ?_ (fun hHeld2 => ?_)
                · exact keepM FS2.out (M1.out _ FB2.out)
                clear hK Kx hHeld
                have hHeld := hHeld2
                clear hHeld2
                try simp only [Act.put, List.setIfInBounds_toArray, List.set_cons_zero, List.set_cons_succ]
                clear FB FS FP FQ g0 g1 g2 g3 g4 f0 f1 f2 f3 f4
                have FB := FB2
                clear FB2
                have FS := FS2
                clear FS2
                have FP := FP2
                clear FP2
                have FQ := FQ2
                clear FQ2
                as_aux_lemma =>
                  refine wpAnyH_take (i := 20) (oi := { dst := some 12, op := Op.assign (Operand.tmp 46), type := 35, pos := "law.go:54", after := #[{ on := 15, ground := Ground.data }, { on := 19, ground := Ground.chain }, { on := 0, ground := Ground.phase }, { on := 1, ground := Ground.phase }, { on := 2, ground := Ground.phase }, { on := 3, ground := Ground.phase }, { on := 4, ground := Ground.phase }, { on := 5, ground := Ground.phase }, { on := 6, ground := Ground.phase }, { on := 7, ground := Ground.phase }, { on := 8, ground := Ground.phase }, { on := 9, ground := Ground.phase }, { on := 10, ground := Ground.phase }, { on := 11, ground := Ground.phase }, { on := 12, ground := Ground.phase }, { on := 13, ground := Ground.phase }, { on := 14, ground := Ground.phase }, { on := 15, ground := Ground.phase }, { on := 16, ground := Ground.phase }, { on := 17, ground := Ground.phase }, { on := 18, ground := Ground.phase }, { on := 19, ground := Ground.phase }], guard := none }) (v := ?_) rfl (by as_aux_lemma => kernel_rfl) (by as_aux_lemma => kernel_rfl) (by as_aux_lemma => kernel_rfl) (fun _ _ _ h => h) (Or.inl ⟨by rfl, ?_⟩) (by assumption) ?_
                  rotate_left
                  · as_aux_lemma =>
                      intro w' hSw
                      try dsimp only at hSw
                      go_simp
                      try with_reducible rfl
                  try simp only [Act.put, List.setIfInBounds_toArray, List.set_cons_zero, List.set_cons_succ]
                  refine wpAnyH_done (by as_aux_lemma => kernel_rfl) ?_ _
                  go_wp2_with fail
                  go_meet
                  exact ⟨bP, bQ, rfl, rfl, rfl, FP, FQ, Lib.hid hP, Lib.hid hQ, FS, FB⟩
            · skip
              go_simp
              have bb := bl_newZ X1 (.cells #[.bool false, .bool false, .bool false, .bool false, .bool false] 49)
              have FB2 := Lib.hid (FB.out.trans (bb.mono FB.out.size))
              have FS2 := Lib.hid (FS.out.later bb)
              have FQ2 := Lib.hid (heapUp FQ.out bb)
              have FP2 : Hid ((X1.alloc (.cells #[.bool false, .bool false, .bool false, .bool false, .bool false] 49)).heap[X1.heap.size]? = some (.cells #[.bool false, .bool false, .bool false, .bool false, .bool false] 49 (0, 0))) := Lib.hid (heap_alloc_new X1 _)
              have hP : w.heap.size + 4 ≤ X1.heap.size := FS.out.top
              have hPQ : bQ < X1.heap.size := (Array.getElem?_eq_some_iff.1 FQ.out).1
              refine hK.out _ _ ?_ (fun hHeld2 => ?_)
              · exact keepM FS2.out (M1.out _ FB2.out)
              clear hK Kx hHeld
              have hHeld := hHeld2
              clear hHeld2
              try simp only [Act.put, List.setIfInBounds_toArray, List.set_cons_zero, List.set_cons_succ]
              clear FB FS bb FQ
              generalize X1.alloc (.cells #[.bool false, .bool false, .bool false, .bool false, .bool false] 49) = X2 at FB2 FS2 FP2 FQ2 hHeld ⊢
              generalize X1.heap.size = bP at FP2 hP hPQ ⊢
              have FB := FB2
              clear FB2
              have FS := FS2
              clear FS2
              have FP := FP2
              clear FP2
              have FQ := FQ2
              clear FQ2
              refine wpAnyH_ready (rs := [11]) (by as_aux_lemma => kernel_rfl) (by simp) ?_
              refine AllReadyH.cons (o := { dst := some 43, op := Op.call { callee := Callee.value (Operand.func 34), args := #[Operand.tmp 34, Operand.tmp 37, Operand.tmp 42], argTypes := #[49, 49, 3] }, type := 54, pos := "law.go:54", after := #[{ on := 2, ground := Ground.data }, { on := 5, ground := Ground.data }, { on := 10, ground := Ground.data }], guard := none }) rfl (fun Kx hK => ?_) AllReadyH.nil
              · skip
                go_simp
                refine (HA.out _).mono ?_
                rintro e X3 ⟨rfl, b9⟩
                have FB2 := Lib.hid (FB.out.trans (b9.mono FB.out.size))
                have FS2 := Lib.hid (FS.out.later b9)
                have FP2 := Lib.hid (heapUp FP.out b9)
                have FQ2 := Lib.hid (heapUp FQ.out b9)
                go_wp2_with fail
                refine hK.out _ _ ?_ (fun hHeld2 => ?_)
                · exact keepM FS2.out (M1.out _ FB2.out)
                clear hK Kx hHeld
                have hHeld := hHeld2
                clear hHeld2
                try simp only [Act.put, List.setIfInBounds_toArray, List.set_cons_zero, List.set_cons_succ]
                clear FB FS b9 FP FQ
                have FB := FB2
                clear FB2
                have FS := FS2
                clear FS2
                have FP := FP2
                clear FP2
                have FQ := FQ2
                clear FQ2
                refine wpAnyH_take (i := 12) (oi := { dst := some 31, op := Op.move (Operand.tmp 43), type := 54, pos := "law.go:54", after := #[{ on := 11, ground := Ground.data }], guard := none }) (v := ?_) rfl (by as_aux_lemma => kernel_rfl) (by as_aux_lemma => kernel_rfl) (by as_aux_lemma => kernel_rfl) (fun _ _ _ h => h) (Or.inl ⟨by rfl, ?_⟩) (by assumption) ?_
                rotate_left
                · as_aux_lemma =>
                    intro w' hSw
                    try dsimp only at hSw
                    go_simp
                    try with_reducible rfl
                try simp only [Act.put, List.setIfInBounds_toArray, List.set_cons_zero, List.set_cons_succ]
                refine wpAnyH_take (i := 13) (oi := { dst := some 44, op := Op.extract (Operand.tmp 31) 0, type := 49, pos := "law.go:54", after := #[{ on := 12, ground := Ground.data }], guard := none }) (v := ?_) rfl (by as_aux_lemma => kernel_rfl) (by as_aux_lemma => kernel_rfl) (by as_aux_lemma => kernel_rfl) (fun _ _ _ h => h) (Or.inl ⟨by rfl, ?_⟩) (by assumption) ?_
                rotate_left
                · as_aux_lemma =>
                    intro w' hSw
                    try dsimp only at hSw
                    go_simp
                    try with_reducible rfl
                try simp only [Act.put, List.setIfInBounds_toArray, List.set_cons_zero, List.set_cons_succ]
                refine wpAnyH_take (i := 14) (oi := { dst := some 45, op := Op.extract (Operand.tmp 31) 1, type := 49, pos := "law.go:54", after := #[{ on := 12, ground := Ground.data }, { on := 18, ground := Ground.gcOnly Departure.lateStores }], guard := none }) (v := ?_) rfl (by as_aux_lemma => kernel_rfl) (by as_aux_lemma => kernel_rfl) (by as_aux_lemma => kernel_rfl) (fun _ _ _ h => h) (Or.inl ⟨by rfl, ?_⟩) (by assumption) ?_
                rotate_left
                · as_aux_lemma =>
                    intro w' hSw
                    try dsimp only at hSw
                    go_simp
                    try with_reducible rfl
                try simp only [Act.put, List.setIfInBounds_toArray, List.set_cons_zero, List.set_cons_succ]
                refine wpAnyH_take (i := 15) (oi := { dst := some 46, op := Op.extract (Operand.tmp 31) 2, type := 35, pos := "law.go:54", after := #[{ on := 12, ground := Ground.data }, { on := 19, ground := Ground.gcOnly Departure.lateStores }], guard := none }) (v := ?_) rfl (by as_aux_lemma => kernel_rfl) (by as_aux_lemma => kernel_rfl) (by as_aux_lemma => kernel_rfl) (fun _ _ _ h => h) (Or.inl ⟨by rfl, ?_⟩) (by assumption) ?_
                rotate_left
                · as_aux_lemma =>
                    intro w' hSw
                    try dsimp only at hSw
                    go_simp
                    try with_reducible rfl
                try simp only [Act.put, List.setIfInBounds_toArray, List.set_cons_zero, List.set_cons_succ]
                obtain ⟨g0, g1, g2, g3, g4⟩ := five_cells FP.out
                obtain ⟨f0, f1, f2, f3, f4, -⟩ := ten_free FP.out
                have FP2 := Lib.hid (set5 (x0 := .bool x0) (x1 := .bool x1) (x2 := .bool x2) (x3 := .bool x3) (x4 := .bool x4) FP.out)
                have FQ2 := Lib.hid (other5 FQ.out (by omega : bP ≠ bQ) 0 1 2 3 4 (.bool x0) (.bool x1) (.bool x2) (.bool x3) (.bool x4))
                have FS2 := Lib.hid (FS.out.other5 hP 0 1 2 3 4 (.bool x0) (.bool x1) (.bool x2) (.bool x3) (.bool x4))
                have FB2 := Lib.hid (below5 FB.out (by omega : w.heap.size ≤ bP) 0 1 2 3 4 (.bool x0) (.bool x1) (.bool x2) (.bool x3) (.bool x4))
                refine wpAnyH_ready (rs := [18]) (by as_aux_lemma => kernel_rfl) (by simp) ?_
                refine AllReadyH.cons (o := { dst := none, op := Op.store 49 (Operand.tmp 10) (Operand.tmp 44), type := 0, pos := "law.go:54", after := #[{ on := 16, ground := Ground.data }, { on := 13, ground := Ground.data }, { on := 11, ground := Ground.chain }, { on := 0, ground := Ground.phase }, { on := 1, ground := Ground.phase }, { on := 2, ground := Ground.phase }, { on := 3, ground := Ground.phase }, { on := 4, ground := Ground.phase }, { on := 5, ground := Ground.phase }, { on := 6, ground := Ground.phase }, { on := 7, ground := Ground.phase }, { on := 8, ground := Ground.phase }, { on := 9, ground := Ground.phase }, { on := 10, ground := Ground.phase }, { on := 11, ground := Ground.phase }, { on := 12, ground := Ground.phase }, { on := 13, ground := Ground.phase }, { on := 14, ground := Ground.textOnly Departure.lateStores }, { on := 15, ground := Ground.textOnly Departure.lateStores }, { on := 16, ground := Ground.phase }, { on := 17, ground := Ground.phase }], guard := none }) rfl (fun Kx hK => ?_) AllReadyH.nil
                go_simp
                refine hK.out _ _ ?_ (fun hHeld2 => ?_)
                · exact keepM FS2.out (M1.out _ FB2.out)
                clear hK Kx hHeld
                have hHeld := hHeld2
                clear hHeld2
                try simp only [Act.put, List.setIfInBounds_toArray, List.set_cons_zero, List.set_cons_succ]
                clear FB FS FP FQ g0 g1 g2 g3 g4 f0 f1 f2 f3 f4
                have FB := FB2
                clear FB2
                have FS := FS2
                clear FS2
                have FP := FP2
                clear FP2
                have FQ := FQ2
                clear FQ2
                obtain ⟨g0, g1, g2, g3, g4⟩ := five_cells FQ.out
                obtain ⟨f0, f1, f2, f3, f4, -⟩ := ten_free FQ.out
                have FQ2 := Lib.hid (set5 (x0 := .bool y0) (x1 := .bool y1) (x2 := .bool y2) (x3 := .bool y3) (x4 := .bool y4) FQ.out)
                have FP2 := Lib.hid (other5 FP.out (by omega : bQ ≠ bP) 0 1 2 3 4 (.bool y0) (.bool y1) (.bool y2) (.bool y3) (.bool y4))
                have FS2 := Lib.hid (FS.out.other5 hQ 0 1 2 3 4 (.bool y0) (.bool y1) (.bool y2) (.bool y3) (.bool y4))
                have FB2 := Lib.hid (below5 FB.out (by omega : w.heap.size ≤ bQ) 0 1 2 3 4 (.bool y0) (.bool y1) (.bool y2) (.bool y3) (.bool y4))
                refine wpAnyH_ready (rs := [19]) (by as_aux_lemma => kernel_rfl) (by simp) ?_
                refine AllReadyH.cons (o := { dst := none, op := Op.store 49 (Operand.tmp 11) (Operand.tmp 45), type := 0, pos := "law.go:54", after := #[{ on := 17, ground := Ground.data }, { on := 14, ground := Ground.data }, { on := 18, ground := Ground.chain }, { on := 0, ground := Ground.phase }, { on := 1, ground := Ground.phase }, { on := 2, ground := Ground.phase }, { on := 3, ground := Ground.phase }, { on := 4, ground := Ground.phase }, { on := 5, ground := Ground.phase }, { on := 6, ground := Ground.phase }, { on := 7, ground := Ground.phase }, { on := 8, ground := Ground.phase }, { on := 9, ground := Ground.phase }, { on := 10, ground := Ground.phase }, { on := 11, ground := Ground.phase }, { on := 12, ground := Ground.phase }, { on := 13, ground := Ground.phase }, { on := 14, ground := Ground.phase }, { on := 15, ground := Ground.textOnly Departure.lateStores }, { on := 16, ground := Ground.phase }, { on := 17, ground := Ground.phase }, { on := 18, ground := Ground.phase }], guard := none }) rfl (fun Kx hK => ?_) AllReadyH.nil
                go_simp
                refine hK.out _ _ ?_ (fun hHeld2 => ?_)
                · exact keepM FS2.out (M1.out _ FB2.out)
                clear hK Kx hHeld
                have hHeld := hHeld2
                clear hHeld2
                try simp only [Act.put, List.setIfInBounds_toArray, List.set_cons_zero, List.set_cons_succ]
                clear FB FS FP FQ g0 g1 g2 g3 g4 f0 f1 f2 f3 f4
                have FB := FB2
                clear FB2
                have FS := FS2
                clear FS2
                have FP := FP2
                clear FP2
                have FQ := FQ2
                clear FQ2
                as_aux_lemma =>
                  refine wpAnyH_take (i := 20) (oi := { dst := some 12, op := Op.assign (Operand.tmp 46), type := 35, pos := "law.go:54", after := #[{ on := 15, ground := Ground.data }, { on := 19, ground := Ground.chain }, { on := 0, ground := Ground.phase }, { on := 1, ground := Ground.phase }, { on := 2, ground := Ground.phase }, { on := 3, ground := Ground.phase }, { on := 4, ground := Ground.phase }, { on := 5, ground := Ground.phase }, { on := 6, ground := Ground.phase }, { on := 7, ground := Ground.phase }, { on := 8, ground := Ground.phase }, { on := 9, ground := Ground.phase }, { on := 10, ground := Ground.phase }, { on := 11, ground := Ground.phase }, { on := 12, ground := Ground.phase }, { on := 13, ground := Ground.phase }, { on := 14, ground := Ground.phase }, { on := 15, ground := Ground.phase }, { on := 16, ground := Ground.phase }, { on := 17, ground := Ground.phase }, { on := 18, ground := Ground.phase }, { on := 19, ground := Ground.phase }], guard := none }) (v := ?_) rfl (by as_aux_lemma => kernel_rfl) (by as_aux_lemma => kernel_rfl) (by as_aux_lemma => kernel_rfl) (fun _ _ _ h => h) (Or.inl ⟨by rfl, ?_⟩) (by assumption) ?_
                  rotate_left
                  · as_aux_lemma =>
                      intro w' hSw
                      try dsimp only at hSw
                      go_simp
                      try with_reducible rfl
                  try simp only [Act.put, List.setIfInBounds_toArray, List.set_cons_zero, List.set_cons_succ]
                  refine wpAnyH_done (by as_aux_lemma => kernel_rfl) ?_ _
                  go_wp2_with fail
                  go_meet
                  exact ⟨bP, bQ, rfl, rfl, rfl, FP, FQ, Lib.hid hP, Lib.hid hQ, FS, FB⟩
        case rest =>
          as_aux_lemma =>
            obtain ⟨P, Q, rfl, rfl, rfl, FP, FQ, HP, HQ, GS, GB⟩ := hcut
            clear FS FB m0 m1 HA
            by_cases he : er = 0
            · subst he
              obtain ⟨hmay, hk1, hk6, -⟩ := suAct_ok HX.out
              have HKE := Lib.hid (k_cases hk1 hk6)
              have GI := Lib.hid GS.out.it
              have GA := Lib.hid GS.out.ask
              have GE := Lib.hid GS.out.se
              have GL := Lib.hid GS.out.bl
              clear hk1 hk6 hmay GS
              go_upto_region 18 with fail
              go_cut [] (fun wx => Hid (wx.heap[w.heap.size]? = some (.cells #[.bool s0, .bool s1, .bool q0, .bool q1, .bool b0, .bool x0, .bool x1, .bool x2, .bool x3, .bool x4] 50 (0, 0))) ∧ Hid (wx.heap[Q]? = some (.cells #[.bool y0, .bool y1, .bool y2, .bool y3, .bool y4] 49 (0, 0))) ∧ Hid (wx.heap[w.heap.size + 1]? = some (.cells #[.bool q0, .bool q1] 51 (0, 0))) ∧ Hid (wx.heap[w.heap.size + 2]? = some (.cells #[.bool s0, .bool s1] 51 (0, 0))) ∧ Hid (wx.heap[w.heap.size + 3]? = some (.cells #[.bool b0, .bool b1] 51 (0, 0))) ∧ Hid (Below w.heap.size w wx))
              case first =>
                obtain ⟨g0, g1, g2, g3, g4⟩ := five_cells FP.out
                obtain ⟨c0, c1, c2, c3, c4, c5, c6, c7, c8, c9⟩ := ten_cells GI.out
                obtain ⟨f0, f1, f2, f3, f4, f5, f6, f7, f8, f9⟩ := ten_free GI.out
                clear c0 f0 c1 f1 c2 f2 c3 f3 c4 f4
                have hq := HQ.out
                have I2 := Lib.hid (ten_hi (x5 := .bool x0) (x6 := .bool x1) (x7 := .bool x2) (x8 := .bool x3) (x9 := .bool x4) GI.out)
                have Q2 := Lib.hid (other5 FQ.out (by omega : w.heap.size ≠ Q) 5 6 7 8 9 (.bool x0) (.bool x1) (.bool x2) (.bool x3) (.bool x4))
                have A2 := Lib.hid (other5 GA.out (by omega : w.heap.size ≠ w.heap.size + 1) 5 6 7 8 9 (.bool x0) (.bool x1) (.bool x2) (.bool x3) (.bool x4))
                have E2 := Lib.hid (other5 GE.out (by omega : w.heap.size ≠ w.heap.size + 2) 5 6 7 8 9 (.bool x0) (.bool x1) (.bool x2) (.bool x3) (.bool x4))
                have L2 := Lib.hid (other5 GL.out (by omega : w.heap.size ≠ w.heap.size + 3) 5 6 7 8 9 (.bool x0) (.bool x1) (.bool x2) (.bool x3) (.bool x4))
                have B2 := Lib.hid (below5 GB.out (Nat.le_refl _) 5 6 7 8 9 (.bool x0) (.bool x1) (.bool x2) (.bool x3) (.bool x4))
                clear hq
                go_wp2_with fail
                go_meet
                exact ⟨I2, Q2, A2, E2, L2, B2⟩
              case rest =>
                clear GI GA GE GL GB FP FQ
                obtain ⟨GI, FQ, GA, GE, GL, GB⟩ := hcut
                go_upto_region 19 with fail
                go_cut [] (fun wx => Hid (wx.heap[w.heap.size]? = some (.cells #[.bool y0, .bool y1, .bool y2, .bool y3, .bool y4, .bool x0, .bool x1, .bool x2, .bool x3, .bool x4] 50 (0, 0))) ∧ Hid (wx.heap[w.heap.size + 1]? = some (.cells #[.bool q0, .bool q1] 51 (0, 0))) ∧ Hid (wx.heap[w.heap.size + 2]? = some (.cells #[.bool s0, .bool s1] 51 (0, 0))) ∧ Hid (wx.heap[w.heap.size + 3]? = some (.cells #[.bool b0, .bool b1] 51 (0, 0))) ∧ Hid (Below w.heap.size w wx))
                case first =>
                  obtain ⟨g0, g1, g2, g3, g4⟩ := five_cells FQ.out
                  obtain ⟨c0, c1, c2, c3, c4, c5, c6, c7, c8, c9⟩ := ten_cells GI.out
                  obtain ⟨f0, f1, f2, f3, f4, f5, f6, f7, f8, f9⟩ := ten_free GI.out
                  clear c5 f5 c6 f6 c7 f7 c8 f8 c9 f9
                  have I2 := Lib.hid (ten_lo (x0 := .bool y0) (x1 := .bool y1) (x2 := .bool y2) (x3 := .bool y3) (x4 := .bool y4) GI.out)
                  have A2 := Lib.hid (other5 GA.out (by omega : w.heap.size ≠ w.heap.size + 1) 0 1 2 3 4 (.bool y0) (.bool y1) (.bool y2) (.bool y3) (.bool y4))
                  have E2 := Lib.hid (other5 GE.out (by omega : w.heap.size ≠ w.heap.size + 2) 0 1 2 3 4 (.bool y0) (.bool y1) (.bool y2) (.bool y3) (.bool y4))
                  have L2 := Lib.hid (other5 GL.out (by omega : w.heap.size ≠ w.heap.size + 3) 0 1 2 3 4 (.bool y0) (.bool y1) (.bool y2) (.bool y3) (.bool y4))
                  have B2 := Lib.hid (below5 GB.out (Nat.le_refl _) 0 1 2 3 4 (.bool y0) (.bool y1) (.bool y2) (.bool y3) (.bool y4))
                  go_wp2_with fail
                  go_meet
                  exact ⟨I2, A2, E2, L2, B2⟩
                case rest =>
                  clear GI GA GE GL GB FQ
                  obtain ⟨GI, GA, GE, GL, GB⟩ := hcut
                  have mk := M1.out _ GB.out
                  go_upto_block 2 with fail
                  clear mk
                  go_cut [] (fun wx => ∃ (s0 s1 q0 q1 b0 b1 : Bool), Hid (StB wx w.heap.size s0 s1 q0 q1 b0 b1) ∧ Hid (suMay ⟨s0, s1, q0, q1, b0⟩ ⟨s1, s0, q1, q0, b1⟩ = true) ∧ Hid (Below w.heap.size w wx))
                  case first =>
                    as_aux_lemma =>
                      rcases HKE.out with rfl | rfl | rfl | rfl | rfl | rfl
                      · as_aux_lemma =>
                          have hs := HX.out
                          have hst := st1 s1 s0 q1 q0 b1 b0 ((st_swap s0 s1 q0 q1 b0 b1).trans FM.out) (by rw [hs])
                          obtain ⟨e1, e2, e3, e4, hq, hm2⟩ := hst
                          rw [hq] at hs
                          simp only [Prod.mk.injEq, It.mk.injEq] at hs
                          obtain ⟨⟨rfl, rfl, rfl, rfl, rfl⟩, ⟨rfl, rfl, rfl, rfl, rfl⟩, -⟩ := hs
                          subst e1
                          subst e2
                          subst e3
                          subst e4
                          clear hq HX FM HKE
                          obtain ⟨a0, a1, a2, a3⟩ := two_cells GA.out
                          obtain ⟨u0, u1, u2, u3⟩ := two_cells GE.out
                          obtain ⟨z0, z1, z2, z3⟩ := two_cells GL.out
                          have mk := M1.out _ GB.out
                          have F0 := GI.out
                          have F1 := GA.out
                          have F2 := GE.out
                          have F3 := GL.out
                          have FBx := GB.out
                          replace F0 := heap_set_other F0 (by omega : w.heap.size + 1 ≠ w.heap.size) 1 (.bool true)
                          replace F1 := heap_setCell_same _ (w.heap.size + 1) 1 _ _ (.bool true) F1
                          replace F2 := heap_set_other F2 (by omega : w.heap.size + 1 ≠ w.heap.size + 2) 1 (.bool true)
                          replace F3 := heap_set_other F3 (by omega : w.heap.size + 1 ≠ w.heap.size + 3) 1 (.bool true)
                          replace FBx := FBx.setCell (by omega : w.heap.size ≤ w.heap.size + 1) (p := ⟨w.heap.size + 1, 1, none⟩) (.bool true)
                          have R1 : Hid (StB (wc.setCell ⟨w.heap.size + 1, 1, none⟩ (.bool true)) w.heap.size s0 false q0 true false false) := Lib.hid ⟨F0, F1, F2, F3⟩
                          have R2 := Lib.hid FBx
                          have R3 : Hid (suMay ⟨s0, false, q0, true, false⟩ ⟨false, s0, true, q0, false⟩ = true) := Lib.hid ((suMay_comm _ _).trans hm2)
                          clear F0 F1 F2 F3 FBx GI GA GE GL GB hm2
                          go_wp2_with fail
                          go_meet
                          exact ⟨s0, false, q0, true, false, false, R1, R3, R2⟩
                      -- kind 2
                      · as_aux_lemma =>
                          have hs := HX.out
                          have hst := st2 s1 s0 q1 q0 b1 b0 ((st_swap s0 s1 q0 q1 b0 b1).trans FM.out) (by rw [hs])
                          obtain ⟨e1, e2, e3, hq, hm2⟩ := hst
                          rw [hq] at hs
                          simp only [Prod.mk.injEq, It.mk.injEq] at hs
                          obtain ⟨⟨rfl, rfl, rfl, rfl, rfl⟩, ⟨rfl, rfl, rfl, rfl, rfl⟩, -⟩ := hs
                          subst e1
                          subst e2
                          subst e3
                          clear hq HX FM HKE
                          obtain ⟨a0, a1, a2, a3⟩ := two_cells GA.out
                          obtain ⟨u0, u1, u2, u3⟩ := two_cells GE.out
                          obtain ⟨z0, z1, z2, z3⟩ := two_cells GL.out
                          have mk := M1.out _ GB.out
                          have F0 := GI.out
                          have F1 := GA.out
                          have F2 := GE.out
                          have F3 := GL.out
                          have FBx := GB.out
                          replace F0 := heap_set_other F0 (by omega : w.heap.size + 1 ≠ w.heap.size) 0 (.bool false)
                          replace F1 := heap_setCell_same _ (w.heap.size + 1) 0 _ _ (.bool false) F1
                          replace F2 := heap_set_other F2 (by omega : w.heap.size + 1 ≠ w.heap.size + 2) 0 (.bool false)
                          replace F3 := heap_set_other F3 (by omega : w.heap.size + 1 ≠ w.heap.size + 3) 0 (.bool false)
                          replace FBx := FBx.setCell (by omega : w.heap.size ≤ w.heap.size + 1) (p := ⟨w.heap.size + 1, 0, none⟩) (.bool false)
                          replace F0 := heap_set_other F0 (by omega : w.heap.size + 2 ≠ w.heap.size) 0 (.bool true)
                          replace F1 := heap_set_other F1 (by omega : w.heap.size + 2 ≠ w.heap.size + 1) 0 (.bool true)
                          replace F2 := heap_setCell_same _ (w.heap.size + 2) 0 _ _ (.bool true) F2
                          replace F3 := heap_set_other F3 (by omega : w.heap.size + 2 ≠ w.heap.size + 3) 0 (.bool true)
                          replace FBx := FBx.setCell (by omega : w.heap.size ≤ w.heap.size + 2) (p := ⟨w.heap.size + 2, 0, none⟩) (.bool true)
                          have R1 : Hid (StB ((wc.setCell ⟨w.heap.size + 1, 0, none⟩ (.bool false)).setCell ⟨w.heap.size + 2, 0, none⟩ (.bool true)) w.heap.size true s1 false q1 false false) := Lib.hid ⟨F0, F1, F2, F3⟩
                          have R2 := Lib.hid FBx
                          have R3 : Hid (suMay ⟨true, s1, false, q1, false⟩ ⟨s1, true, q1, false, false⟩ = true) := Lib.hid ((suMay_comm _ _).trans hm2)
                          clear F0 F1 F2 F3 FBx GI GA GE GL GB hm2
                          go_wp2_with fail
                          go_meet
                          exact ⟨true, s1, false, q1, false, false, R1, R3, R2⟩
                      -- kind 3
                      · as_aux_lemma =>
                          have hs := HX.out
                          have hst := st3 s1 s0 q1 q0 b1 b0 ((st_swap s0 s1 q0 q1 b0 b1).trans FM.out) (by rw [hs])
                          obtain ⟨hq, hm2⟩ := hst
                          rw [hq] at hs
                          simp only [Prod.mk.injEq, It.mk.injEq] at hs
                          obtain ⟨⟨rfl, rfl, rfl, rfl, rfl⟩, ⟨rfl, rfl, rfl, rfl, rfl⟩, -⟩ := hs
                          clear hq HX FM HKE
                          obtain ⟨a0, a1, a2, a3⟩ := two_cells GA.out
                          obtain ⟨u0, u1, u2, u3⟩ := two_cells GE.out
                          obtain ⟨z0, z1, z2, z3⟩ := two_cells GL.out
                          have mk := M1.out _ GB.out
                          have F0 := GI.out
                          have F1 := GA.out
                          have F2 := GE.out
                          have F3 := GL.out
                          have FBx := GB.out
                          replace F0 := heap_set_other F0 (by omega : w.heap.size + 1 ≠ w.heap.size) 1 (.bool false)
                          replace F1 := heap_setCell_same _ (w.heap.size + 1) 1 _ _ (.bool false) F1
                          replace F2 := heap_set_other F2 (by omega : w.heap.size + 1 ≠ w.heap.size + 2) 1 (.bool false)
                          replace F3 := heap_set_other F3 (by omega : w.heap.size + 1 ≠ w.heap.size + 3) 1 (.bool false)
                          replace FBx := FBx.setCell (by omega : w.heap.size ≤ w.heap.size + 1) (p := ⟨w.heap.size + 1, 1, none⟩) (.bool false)
                          replace F0 := heap_set_other F0 (by omega : w.heap.size + 2 ≠ w.heap.size) 1 (.bool false)
                          replace F1 := heap_set_other F1 (by omega : w.heap.size + 2 ≠ w.heap.size + 1) 1 (.bool false)
                          replace F2 := heap_setCell_same _ (w.heap.size + 2) 1 _ _ (.bool false) F2
                          replace F3 := heap_set_other F3 (by omega : w.heap.size + 2 ≠ w.heap.size + 3) 1 (.bool false)
                          replace FBx := FBx.setCell (by omega : w.heap.size ≤ w.heap.size + 2) (p := ⟨w.heap.size + 2, 1, none⟩) (.bool false)
                          have R1 : Hid (StB ((wc.setCell ⟨w.heap.size + 1, 1, none⟩ (.bool false)).setCell ⟨w.heap.size + 2, 1, none⟩ (.bool false)) w.heap.size s0 false q0 false b0 b1) := Lib.hid ⟨F0, F1, F2, F3⟩
                          have R2 := Lib.hid FBx
                          have R3 : Hid (suMay ⟨s0, false, q0, false, b0⟩ ⟨false, s0, false, q0, b1⟩ = true) := Lib.hid ((suMay_comm _ _).trans hm2)
                          clear F0 F1 F2 F3 FBx GI GA GE GL GB hm2
                          go_wp2_with fail
                          go_meet
                          exact ⟨s0, false, q0, false, b0, b1, R1, R3, R2⟩
                      -- kind 4
                      · as_aux_lemma =>
                          have hs := HX.out
                          have hst := st4 s1 s0 q1 q0 b1 b0 ((st_swap s0 s1 q0 q1 b0 b1).trans FM.out) (by rw [hs])
                          obtain ⟨hq, hm2⟩ := hst
                          rw [hq] at hs
                          simp only [Prod.mk.injEq, It.mk.injEq] at hs
                          obtain ⟨⟨rfl, rfl, rfl, rfl, rfl⟩, ⟨rfl, rfl, rfl, rfl, rfl⟩, -⟩ := hs
                          clear hq HX FM HKE
                          obtain ⟨a0, a1, a2, a3⟩ := two_cells GA.out
                          obtain ⟨u0, u1, u2, u3⟩ := two_cells GE.out
                          obtain ⟨z0, z1, z2, z3⟩ := two_cells GL.out
                          have mk := M1.out _ GB.out
                          have F0 := GI.out
                          have F1 := GA.out
                          have F2 := GE.out
                          have F3 := GL.out
                          have FBx := GB.out
                          replace F0 := heap_set_other F0 (by omega : w.heap.size + 1 ≠ w.heap.size) 0 (.bool false)
                          replace F1 := heap_setCell_same _ (w.heap.size + 1) 0 _ _ (.bool false) F1
                          replace F2 := heap_set_other F2 (by omega : w.heap.size + 1 ≠ w.heap.size + 2) 0 (.bool false)
                          replace F3 := heap_set_other F3 (by omega : w.heap.size + 1 ≠ w.heap.size + 3) 0 (.bool false)
                          replace FBx := FBx.setCell (by omega : w.heap.size ≤ w.heap.size + 1) (p := ⟨w.heap.size + 1, 0, none⟩) (.bool false)
                          replace F0 := heap_set_other F0 (by omega : w.heap.size + 2 ≠ w.heap.size) 0 (.bool false)
                          replace F1 := heap_set_other F1 (by omega : w.heap.size + 2 ≠ w.heap.size + 1) 0 (.bool false)
                          replace F2 := heap_setCell_same _ (w.heap.size + 2) 0 _ _ (.bool false) F2
                          replace F3 := heap_set_other F3 (by omega : w.heap.size + 2 ≠ w.heap.size + 3) 0 (.bool false)
                          replace FBx := FBx.setCell (by omega : w.heap.size ≤ w.heap.size + 2) (p := ⟨w.heap.size + 2, 0, none⟩) (.bool false)
                          have R1 : Hid (StB ((wc.setCell ⟨w.heap.size + 1, 0, none⟩ (.bool false)).setCell ⟨w.heap.size + 2, 0, none⟩ (.bool false)) w.heap.size false s1 false q1 b0 b1) := Lib.hid ⟨F0, F1, F2, F3⟩
                          have R2 := Lib.hid FBx
                          have R3 : Hid (suMay ⟨false, s1, false, q1, b0⟩ ⟨s1, false, q1, false, b1⟩ = true) := Lib.hid ((suMay_comm _ _).trans hm2)
                          clear F0 F1 F2 F3 FBx GI GA GE GL GB hm2
                          go_wp2_with fail
                          go_meet
                          exact ⟨false, s1, false, q1, b0, b1, R1, R3, R2⟩
                      -- kind 5
                      · as_aux_lemma =>
                          have hs := HX.out
                          have hst := st5 s1 s0 q1 q0 b1 b0 ((st_swap s0 s1 q0 q1 b0 b1).trans FM.out) (by rw [hs])
                          obtain ⟨hq, hm2⟩ := hst
                          rw [hq] at hs
                          simp only [Prod.mk.injEq, It.mk.injEq] at hs
                          obtain ⟨⟨rfl, rfl, rfl, rfl, rfl⟩, ⟨rfl, rfl, rfl, rfl, rfl⟩, -⟩ := hs
                          clear hq HX FM HKE
                          obtain ⟨a0, a1, a2, a3⟩ := two_cells GA.out
                          obtain ⟨u0, u1, u2, u3⟩ := two_cells GE.out
                          obtain ⟨z0, z1, z2, z3⟩ := two_cells GL.out
                          have mk := M1.out _ GB.out
                          have F0 := GI.out
                          have F1 := GA.out
                          have F2 := GE.out
                          have F3 := GL.out
                          have FBx := GB.out
                          replace F0 := heap_set_other F0 (by omega : w.heap.size + 3 ≠ w.heap.size) 1 (.bool true)
                          replace F1 := heap_set_other F1 (by omega : w.heap.size + 3 ≠ w.heap.size + 1) 1 (.bool true)
                          replace F2 := heap_set_other F2 (by omega : w.heap.size + 3 ≠ w.heap.size + 2) 1 (.bool true)
                          replace F3 := heap_setCell_same _ (w.heap.size + 3) 1 _ _ (.bool true) F3
                          replace FBx := FBx.setCell (by omega : w.heap.size ≤ w.heap.size + 3) (p := ⟨w.heap.size + 3, 1, none⟩) (.bool true)
                          have R1 : Hid (StB (wc.setCell ⟨w.heap.size + 3, 1, none⟩ (.bool true)) w.heap.size s0 s1 q0 q1 b0 true) := Lib.hid ⟨F0, F1, F2, F3⟩
                          have R2 := Lib.hid FBx
                          have R3 : Hid (suMay ⟨s0, s1, q0, q1, b0⟩ ⟨s1, s0, q1, q0, true⟩ = true) := Lib.hid ((suMay_comm _ _).trans hm2)
                          clear F0 F1 F2 F3 FBx GI GA GE GL GB hm2
                          go_wp2_with fail
                          go_meet
                          exact ⟨s0, s1, q0, q1, b0, true, R1, R3, R2⟩
                      -- kind 6
                      · as_aux_lemma =>
                          have hs := HX.out
                          have hst := st6 s1 s0 q1 q0 b1 b0 ((st_swap s0 s1 q0 q1 b0 b1).trans FM.out) (by rw [hs])
                          obtain ⟨hq, hm2⟩ := hst
                          rw [hq] at hs
                          simp only [Prod.mk.injEq, It.mk.injEq] at hs
                          obtain ⟨⟨rfl, rfl, rfl, rfl, rfl⟩, ⟨rfl, rfl, rfl, rfl, rfl⟩, -⟩ := hs
                          clear hq HX FM HKE
                          obtain ⟨a0, a1, a2, a3⟩ := two_cells GA.out
                          obtain ⟨u0, u1, u2, u3⟩ := two_cells GE.out
                          obtain ⟨z0, z1, z2, z3⟩ := two_cells GL.out
                          have mk := M1.out _ GB.out
                          have F0 := GI.out
                          have F1 := GA.out
                          have F2 := GE.out
                          have F3 := GL.out
                          have FBx := GB.out
                          replace F0 := heap_set_other F0 (by omega : w.heap.size + 3 ≠ w.heap.size) 1 (.bool false)
                          replace F1 := heap_set_other F1 (by omega : w.heap.size + 3 ≠ w.heap.size + 1) 1 (.bool false)
                          replace F2 := heap_set_other F2 (by omega : w.heap.size + 3 ≠ w.heap.size + 2) 1 (.bool false)
                          replace F3 := heap_setCell_same _ (w.heap.size + 3) 1 _ _ (.bool false) F3
                          replace FBx := FBx.setCell (by omega : w.heap.size ≤ w.heap.size + 3) (p := ⟨w.heap.size + 3, 1, none⟩) (.bool false)
                          have R1 : Hid (StB (wc.setCell ⟨w.heap.size + 3, 1, none⟩ (.bool false)) w.heap.size s0 s1 q0 q1 b0 false) := Lib.hid ⟨F0, F1, F2, F3⟩
                          have R2 := Lib.hid FBx
                          have R3 : Hid (suMay ⟨s0, s1, q0, q1, b0⟩ ⟨s1, s0, q1, q0, false⟩ = true) := Lib.hid ((suMay_comm _ _).trans hm2)
                          clear F0 F1 F2 F3 FBx GI GA GE GL GB hm2
                          go_wp2_with fail
                          go_meet
                          exact ⟨s0, s1, q0, q1, b0, false, R1, R3, R2⟩
                  case rest =>
                    as_aux_lemma =>
                      clear GI GA GE GL GB FM HX
                      obtain ⟨n0, n1, p0, p1, e0, e1, GS, FM, GB⟩ := hcut
                      have hm1 : suMay ⟨n1, n0, p1, p0, e1⟩ ⟨n0, n1, p0, p1, e0⟩ = true := (suMay_comm _ _).trans FM.out
                      obtain ⟨c0, c1, c2, c3, c4, c5, c6, c7, c8, c9⟩ := ten_cells GS.out.it
                      go_wp2_with fail
                      refine (smay_bl n0 n1 p0 p1 e0 n1 n0 p1 p0 e1 FM.out _).mono ?_
                      rintro e w30 ⟨rfl, b30⟩
                      have GS2 := Lib.hid (GS.out.later b30)
                      have GB2 := Lib.hid (GB.out.trans (b30.mono GB.out.size))
                      clear b30 GS GB c0 c1 c2 c3 c4 c5 c6 c7 c8 c9
                      obtain ⟨c0, c1, c2, c3, c4, c5, c6, c7, c8, c9⟩ := ten_cells GS2.out.it
                      go_wp2_with fail
                      refine (smay_bl n1 n0 p1 p0 e1 n0 n1 p0 p1 e0 hm1 _).mono ?_
                      rintro e w31 ⟨rfl, b31⟩
                      have GS := Lib.hid (GS2.out.later b31)
                      have GB := Lib.hid (GB2.out.trans (b31.mono GB2.out.size))
                      clear b31 GS2 GB2 c0 c1 c2 c3 c4 c5 c6 c7 c8 c9 hm1
                      go_wp2_with fail
                      go_loopw [13] (fun i wi => ∃ j : Nat, j ≤ 2 ∧ i = .int .i64 j ∧ Hid (StB wi w.heap.size n0 n1 p0 p1 e0 e1) ∧ Hid (Below w.heap.size w wi)) (fun i _ => 2 - (intOf i).toNat)
                      case atStart => exact ⟨0, by omega, rfl, GS, GB⟩
                      case round =>
                        clear GS GB
                        obtain ⟨j, hj, rfl, GS, GB⟩ := hrel
                        have h3 : j = 0 ∨ j = 1 ∨ j = 2 := by omega
                        rcases h3 with rfl | rfl | rfl
                        · obtain ⟨c0, c1, c2, c3, c4, c5, c6, c7, c8, c9⟩ := ten_cells GS.out.it
                          obtain ⟨a0, a1, -, -⟩ := two_cells GS.out.ask
                          obtain ⟨u0, u1, -, -⟩ := two_cells GS.out.se
                          obtain ⟨z0, z1, -, -⟩ := two_cells GS.out.bl
                          replace c0 := cell_regrown c0
                          replace c1 := cell_regrown c1
                          replace c2 := cell_regrown c2
                          replace c3 := cell_regrown c3
                          replace c4 := cell_regrown c4
                          replace c5 := cell_regrown c5
                          replace c6 := cell_regrown c6
                          replace c7 := cell_regrown c7
                          replace c8 := cell_regrown c8
                          replace c9 := cell_regrown c9
                          replace a0 := cell_regrown a0
                          replace a1 := cell_regrown a1
                          replace u0 := cell_regrown u0
                          replace u1 := cell_regrown u1
                          replace z0 := cell_regrown z0
                          replace z1 := cell_regrown z1
                          have HSE : ∀ r, suSees ⟨n0, n1, p0, p1, e0⟩ ⟨n1, n0, p1, p0, e1⟩ = r → Hid (∀ w, Calls Try.prog 36 #[.agg #[.bool n0, .bool n1, .bool p0, .bool p1, .bool e0], .agg #[.bool n1, .bool n0, .bool p1, .bool p0, .bool e1]] w fun e w' => e = .returned (.bool r) ∧ Below w.heap.size w w') := fun r h => Lib.hid (ssees_eq n0 n1 p0 p1 e0 n1 n0 p1 p0 e1 h)
                          cases n0 with
                          | false =>
                            as_aux_lemma =>
                              have HS2 := HSE false rfl
                              clear HSE
                              go_wp2_with fail
                              refine wp_region_quiet_below (by kernel_rfl) (by kernel_rfl) ?_
                              repeat (go_big_quiet_step (with_reducible exact rgB HS2.out _ _ _))
                              refine wpQuiet_nil ?_
                              intro w40 hw40
                              have b40 := regrownZ hw40
                              have G1 := Lib.hid (GS.out.later b40)
                              have G2 := Lib.hid (GB.out.trans (b40.mono GB.out.size))
                              clear hw40 b40 GS GB c0 c1 c2 c3 c4 c5 c6 c7 c8 c9 a0 a1 u0 u1 z0 z1
                              go_wp2_with fail
                              go_roundw
                              case rel => exact ⟨1, by omega, by go_num, G1, G2⟩
                              case measure => simp [intOf]
                          | true =>
                            cases e0 with
                            | true =>
                              as_aux_lemma =>
                                have HS2 := HSE false (by rfl)
                                clear HSE
                                go_wp2_with fail
                                refine wp_region_quiet_below (by kernel_rfl) (by kernel_rfl) ?_
                                repeat (go_big_quiet_step (with_reducible exact rgB HS2.out _ _ _))
                                refine wpQuiet_nil ?_
                                intro w40 hw40
                                have b40 := regrownZ hw40
                                have G1 := Lib.hid (GS.out.later b40)
                                have G2 := Lib.hid (GB.out.trans (b40.mono GB.out.size))
                                clear hw40 b40 GS GB c0 c1 c2 c3 c4 c5 c6 c7 c8 c9 a0 a1 u0 u1 z0 z1
                                go_wp2_with fail
                                go_roundw
                                case rel => exact ⟨1, by omega, by go_num, G1, G2⟩
                                case measure => simp [intOf]
                            | false =>
                              cases e1 with
                              | true =>
                                as_aux_lemma =>
                                  have HS2 := HSE false rfl
                                  clear HSE
                                  go_wp2_with fail
                                  refine wp_region_quiet_below (by kernel_rfl) (by kernel_rfl) ?_
                                  repeat (go_big_quiet_step (with_reducible exact rgB HS2.out _ _ _))
                                  refine wpQuiet_nil ?_
                                  intro w40 hw40
                                  have b40 := regrownZ hw40
                                  have G1 := Lib.hid (GS.out.later b40)
                                  have G2 := Lib.hid (GB.out.trans (b40.mono GB.out.size))
                                  clear hw40 b40 GS GB c0 c1 c2 c3 c4 c5 c6 c7 c8 c9 a0 a1 u0 u1 z0 z1
                                  go_wp2_with fail
                                  go_roundw
                                  case rel => exact ⟨1, by omega, by go_num, G1, G2⟩
                                  case measure => simp [intOf]
                              | false =>
                                as_aux_lemma =>
                                  have HS2 := HSE true rfl
                                  clear HSE
                                  go_wp2_with fail
                                  refine wp_region_quiet_below (by kernel_rfl) (by kernel_rfl) ?_
                                  repeat (go_big_quiet_step (with_reducible exact rgB HS2.out _ _ _))
                                  refine wpQuiet_nil ?_
                                  intro w40 hw40
                                  have b40 := regrownZ hw40
                                  have G1 := Lib.hid (GS.out.later b40)
                                  have G2 := Lib.hid (GB.out.trans (b40.mono GB.out.size))
                                  clear hw40 b40 GS GB c0 c1 c2 c3 c4 c5 c6 c7 c8 c9 a0 a1 u0 u1 z0 z1
                                  go_wp2_with fail
                                  go_roundw
                                  case rel => exact ⟨1, by omega, by go_num, G1, G2⟩
                                  case measure => simp [intOf]
                        · obtain ⟨c0, c1, c2, c3, c4, c5, c6, c7, c8, c9⟩ := ten_cells GS.out.it
                          obtain ⟨a0, a1, -, -⟩ := two_cells GS.out.ask
                          obtain ⟨u0, u1, -, -⟩ := two_cells GS.out.se
                          obtain ⟨z0, z1, -, -⟩ := two_cells GS.out.bl
                          replace c0 := cell_regrown c0
                          replace c1 := cell_regrown c1
                          replace c2 := cell_regrown c2
                          replace c3 := cell_regrown c3
                          replace c4 := cell_regrown c4
                          replace c5 := cell_regrown c5
                          replace c6 := cell_regrown c6
                          replace c7 := cell_regrown c7
                          replace c8 := cell_regrown c8
                          replace c9 := cell_regrown c9
                          replace a0 := cell_regrown a0
                          replace a1 := cell_regrown a1
                          replace u0 := cell_regrown u0
                          replace u1 := cell_regrown u1
                          replace z0 := cell_regrown z0
                          replace z1 := cell_regrown z1
                          have HSE : ∀ r, suSees ⟨n1, n0, p1, p0, e1⟩ ⟨n0, n1, p0, p1, e0⟩ = r → Hid (∀ w, Calls Try.prog 36 #[.agg #[.bool n1, .bool n0, .bool p1, .bool p0, .bool e1], .agg #[.bool n0, .bool n1, .bool p0, .bool p1, .bool e0]] w fun e w' => e = .returned (.bool r) ∧ Below w.heap.size w w') := fun r h => Lib.hid (ssees_eq n1 n0 p1 p0 e1 n0 n1 p0 p1 e0 h)
                          cases n1 with
                          | false =>
                            as_aux_lemma =>
                              have HS2 := HSE false rfl
                              clear HSE
                              go_wp2_with fail
                              refine wp_region_quiet_below (by kernel_rfl) (by kernel_rfl) ?_
                              repeat (go_big_quiet_step (with_reducible exact rgB HS2.out _ _ _))
                              refine wpQuiet_nil ?_
                              intro w40 hw40
                              have b40 := regrownZ hw40
                              have G1 := Lib.hid (GS.out.later b40)
                              have G2 := Lib.hid (GB.out.trans (b40.mono GB.out.size))
                              clear hw40 b40 GS GB c0 c1 c2 c3 c4 c5 c6 c7 c8 c9 a0 a1 u0 u1 z0 z1
                              go_wp2_with fail
                              go_roundw
                              case rel => exact ⟨2, by omega, by go_num, G1, G2⟩
                              case measure => simp [intOf]
                          | true =>
                            cases e0 with
                            | true =>
                              as_aux_lemma =>
                                have HS2 := HSE false (by cases e1 <;> rfl)
                                clear HSE
                                go_wp2_with fail
                                refine wp_region_quiet_below (by kernel_rfl) (by kernel_rfl) ?_
                                repeat (go_big_quiet_step (with_reducible exact rgB HS2.out _ _ _))
                                refine wpQuiet_nil ?_
                                intro w40 hw40
                                have b40 := regrownZ hw40
                                have G1 := Lib.hid (GS.out.later b40)
                                have G2 := Lib.hid (GB.out.trans (b40.mono GB.out.size))
                                clear hw40 b40 GS GB c0 c1 c2 c3 c4 c5 c6 c7 c8 c9 a0 a1 u0 u1 z0 z1
                                go_wp2_with fail
                                go_roundw
                                case rel => exact ⟨2, by omega, by go_num, G1, G2⟩
                                case measure => simp [intOf]
                            | false =>
                              cases e1 with
                              | true =>
                                as_aux_lemma =>
                                  have HS2 := HSE false rfl
                                  clear HSE
                                  go_wp2_with fail
                                  refine wp_region_quiet_below (by kernel_rfl) (by kernel_rfl) ?_
                                  repeat (go_big_quiet_step (with_reducible exact rgB HS2.out _ _ _))
                                  refine wpQuiet_nil ?_
                                  intro w40 hw40
                                  have b40 := regrownZ hw40
                                  have G1 := Lib.hid (GS.out.later b40)
                                  have G2 := Lib.hid (GB.out.trans (b40.mono GB.out.size))
                                  clear hw40 b40 GS GB c0 c1 c2 c3 c4 c5 c6 c7 c8 c9 a0 a1 u0 u1 z0 z1
                                  go_wp2_with fail
                                  go_roundw
                                  case rel => exact ⟨2, by omega, by go_num, G1, G2⟩
                                  case measure => simp [intOf]
                              | false =>
                                as_aux_lemma =>
                                  have HS2 := HSE true rfl
                                  clear HSE
                                  go_wp2_with fail
                                  refine wp_region_quiet_below (by kernel_rfl) (by kernel_rfl) ?_
                                  repeat (go_big_quiet_step (with_reducible exact rgB HS2.out _ _ _))
                                  refine wpQuiet_nil ?_
                                  intro w40 hw40
                                  have b40 := regrownZ hw40
                                  have G1 := Lib.hid (GS.out.later b40)
                                  have G2 := Lib.hid (GB.out.trans (b40.mono GB.out.size))
                                  clear hw40 b40 GS GB c0 c1 c2 c3 c4 c5 c6 c7 c8 c9 a0 a1 u0 u1 z0 z1
                                  go_wp2_with fail
                                  go_roundw
                                  case rel => exact ⟨2, by omega, by go_num, G1, G2⟩
                                  case measure => simp [intOf]
                        · go_wp2_with fail
                          go_roundw
                          case rel => exact ⟨k + 1, n0, n1, p0, p1, e0, e1, by omega, by go_num, GS, FM, GB⟩
                          case measure => simp [intOf]; omega
            · as_aux_lemma =>
                obtain ⟨hx1, hx2⟩ := suAct_err HX.out he
                replace hx1 := hx1.symm
                replace hx2 := hx2.symm
                simp only [It.mk.injEq] at hx1 hx2
                obtain ⟨rfl, rfl, rfl, rfl, rfl⟩ := hx1
                obtain ⟨rfl, rfl, rfl, rfl, rfl⟩ := hx2
                have te : ((er : Int) != 0) = true := by rw [bne_iff_ne]; omega
                obtain ⟨g0, g1, g2, g3, g4⟩ := five_cells FP.out
                obtain ⟨d0, d1, d2, d3, d4⟩ := five_cells FQ.out
                obtain ⟨c0, c1, c2, c3, c4, c5, c6, c7, c8, c9⟩ := ten_cells GS.out.it
                replace g0 := cell_regrown g0
                replace g1 := cell_regrown g1
                replace g2 := cell_regrown g2
                replace g3 := cell_regrown g3
                replace g4 := cell_regrown g4
                replace d0 := cell_regrown d0
                replace d1 := cell_regrown d1
                replace d2 := cell_regrown d2
                replace d3 := cell_regrown d3
                replace d4 := cell_regrown d4
                replace c0 := cell_regrown c0
                replace c1 := cell_regrown c1
                replace c2 := cell_regrown c2
                replace c3 := cell_regrown c3
                replace c4 := cell_regrown c4
                replace c5 := cell_regrown c5
                replace c6 := cell_regrown c6
                replace c7 := cell_regrown c7
                replace c8 := cell_regrown c8
                replace c9 := cell_regrown c9
                have h1 : ∀ w, (binOp .neq 49 (.agg #[.bool s1, .bool s0, .bool q1, .bool q0, .bool b1]) (.agg #[.bool s1, .bool s0, .bool q1, .bool q0, .bool b1])).run Try.prog w = .ok (.bool false) w := fun w => by rw [item_neq]; exact congrArg (fun b => Result.ok (Value.bool (!b)) w) (itSame_self ⟨s1, s0, q1, q0, b1⟩)
                have h2 : ∀ w, (binOp .neq 49 (.agg #[.bool s0, .bool s1, .bool q0, .bool q1, .bool b0]) (.agg #[.bool s0, .bool s1, .bool q0, .bool q1, .bool b0])).run Try.prog w = .ok (.bool false) w := fun w => by rw [item_neq]; exact congrArg (fun b => Result.ok (Value.bool (!b)) w) (itSame_self ⟨s0, s1, q0, q1, b0⟩)
                clear HX he
                go_wp2_with fail
                refine wp_region_quiet_below (by kernel_rfl) (by kernel_rfl) ?_
                repeat (go_big_quiet_step (fail))
                refine wpQuiet_nil ?_
                intro w40 hw40
                have b40 := regrownZ hw40
                have G1 := Lib.hid (GS.out.later b40)
                have G2 := Lib.hid (GB.out.trans (b40.mono GB.out.size))
                clear hw40 b40 GS GB g0 g1 g2 g3 g4 d0 d1 d2 d3 d4 c0 c1 c2 c3 c4 c5 c6 c7 c8 c9
                go_wp2_with fail
                go_roundw
                case rel => exact ⟨k + 1, s0, s1, q0, q1, b0, b1, by omega, by go_num, G1, FM, G2⟩
                case measure => simp [intOf]; omega
    · obtain rfl : k = l.length := by omega
      go_wp2_with fail
      refine (live7 _).mono ?_
      rintro e w1 ⟨rfl, b1⟩
      have HB := Lib.hid (FB.out.trans (b1.mono FB.out.size))
      clear b1
      go_wp2_with fail
      go_ret
      exact ⟨rfl, HB.out⟩

theorem walkSubsMay {w : World} {v : Value} {l : List Mov} (hv : MovsAt w v l) :
    Calls Try.prog 9 #[v] w fun e w' => e = .returned (.bool true) ∧ Below w.heap.size w w' := by
  by_cases h : l.length ≤ 60
  · exact submay_2 hv h
  · exact submay_1 hv h

end Go.Proofs.Ytkmbnpjnjlcjmaa
