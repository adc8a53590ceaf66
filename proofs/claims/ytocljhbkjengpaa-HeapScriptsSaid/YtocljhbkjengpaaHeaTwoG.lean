/-
  LAYER 10: a call of both that only reads.
-/
import Derived.Test.YtocljhbkjengpaaHeaTwo
namespace Go.Proofs.Ytocljhbkjengpaa
open Go.RowKit

set_option maxHeartbeats 3200000 in
set_option maxRecDepth 100000 in
theorem does_get_yes {w : World} {base B : Nat} {v : Value} {M : Nat} {L : List Sl} (h : HpAt w base B v M L) {K : Nat} {u : Value} (k : KAt w base K u L) (id r0 r1 r2 : Int) (hid : (Lit.int .i64 id).wf = true) {q : Nat} (hq : spot L id = some q) {i a0 a1 a2 : Int} (ht : at0 L q = ⟨i, a0, a1, a2⟩) :
    Calls Try.prog 20 #[.pointer (some ⟨B, 0, none⟩), .pointer (some ⟨K, 0, none⟩), .agg #[.int .i64 2, .int .i64 id, .int .i64 r0, .int .i64 r1, .int .i64 r2]] w fun e w' => e = .returned (.bool true) ∧ Below w.heap.size w w' := by
  have hb1 := bl_newZ w (.cells #[.int .i64 2, .int .i64 id, .int .i64 r0, .int .i64 r1, .int .i64 r2] 43)
  have hx := cellsAt_made (w := w) (cs := #[.int .i64 2, .int .i64 id, .int .i64 r0, .int .i64 r1, .int .i64 r2]) (vs := opVals ⟨2, id, r0, r1, r2⟩) rfl 43 rfl
  obtain ⟨W, hW⟩ : ∃ W, W = w.alloc (.cells #[.int .i64 2, .int .i64 id, .int .i64 r0, .int .i64 r1, .int .i64 r2] 43) := ⟨_, rfl⟩
  rw [← hW] at hb1 hx
  have HB := Lib.hid hb1
  have HX := Lib.hid hx
  obtain ⟨c0, c1, c2, c3, c4⟩ := cells5o hx
  simp only [Nat.zero_add] at c0 c1 c2 c3 c4
  have hid' := Lib.hid hid
  have HP := Lib.hid (h.later hb1)
  have KP := Lib.hid (k.later hb1)
  have HO := Lib.hid h.once
  have he : ∀ w, (binOp .eql 30 (.agg #[.int .i64 a0, .int .i64 a1, .int .i64 a2]) (.agg #[.int .i64 a0, .int .i64 a1, .int .i64 a2])).run Try.prog w = .ok (.bool true) w := fun w => by rw [rank3_eql]; simp [rkSame]
  clear h k hb1 hx
  go_enter Try.func20, Try.ntmps20
  go_wp2_with fail
  rw [← hW]
  clear hW
  go_wp2_with fail
  refine (hp_get HP.out id hid hq ht).mono ?_
  rintro e w2 ⟨rfl, b2⟩
  have B2 := Lib.hid (below2Z HB.out b2)
  have hc1 : w2.cell? ⟨w.heap.size, 1, none⟩ = some (.int .i64 id) := (b2.cell (p := ⟨w.heap.size, 1, none⟩) (World.block_lt_of_cell? _ _ c1)).trans c1
  have hl2 : w.heap.size < w2.heap.size := World.block_lt_of_cell? _ _ hc1
  have K2 := Lib.hid (KP.out.later b2)
  clear b2 c0 c1 c2 c3 c4
  go_wp2_with fail
  refine (rget_yes (K2.out.later (bl_newZ _ _)) HO.out.1 HO.out.2.2 id hq ht).mono ?_
  rintro e w3 ⟨rfl, b3⟩
  have hy := (cellsAt_made (w := w2) (cs := #[.int .i64 a0, .int .i64 a1, .int .i64 a2]) (vs := [.int .i64 a0, .int .i64 a1, .int .i64 a2]) rfl 31 rfl).later b3
  have hz := hy.later (bl_newZ w3 (.cells #[.int .i64 a0, .int .i64 a1, .int .i64 a2] 30))
  have y0 : (w3.alloc (.cells #[.int .i64 a0, .int .i64 a1, .int .i64 a2] 30)).cell? ⟨w2.heap.size, 0, none⟩ = some (.int .i64 a0) := hz 0 _ rfl
  have y1 : (w3.alloc (.cells #[.int .i64 a0, .int .i64 a1, .int .i64 a2] 30)).cell? ⟨w2.heap.size, 1, none⟩ = some (.int .i64 a1) := hz 1 _ rfl
  have y2 : (w3.alloc (.cells #[.int .i64 a0, .int .i64 a1, .int .i64 a2] 30)).cell? ⟨w2.heap.size, 2, none⟩ = some (.int .i64 a2) := hz 2 _ rfl
  have B3 := Lib.hid (below2Z B2.out (below2Z (bl_newZ w2 _) b3))
  clear b3 hy hz hc1
  go_wp2_with fail
  go_ret
  exact ⟨rfl, below2Z B3.out (bl_newZ _ _)⟩

set_option maxHeartbeats 3200000 in
set_option maxRecDepth 100000 in
theorem does_get_no {w : World} {base B : Nat} {v : Value} {M : Nat} {L : List Sl} (h : HpAt w base B v M L) {K : Nat} {u : Value} (k : KAt w base K u L) (id r0 r1 r2 : Int) (hid : (Lit.int .i64 id).wf = true) (hq : spot L id = none) :
    Calls Try.prog 20 #[.pointer (some ⟨B, 0, none⟩), .pointer (some ⟨K, 0, none⟩), .agg #[.int .i64 2, .int .i64 id, .int .i64 r0, .int .i64 r1, .int .i64 r2]] w fun e w' => e = .returned (.bool true) ∧ Below w.heap.size w w' := by
  have hb1 := bl_newZ w (.cells #[.int .i64 2, .int .i64 id, .int .i64 r0, .int .i64 r1, .int .i64 r2] 43)
  have hx := cellsAt_made (w := w) (cs := #[.int .i64 2, .int .i64 id, .int .i64 r0, .int .i64 r1, .int .i64 r2]) (vs := opVals ⟨2, id, r0, r1, r2⟩) rfl 43 rfl
  obtain ⟨W, hW⟩ : ∃ W, W = w.alloc (.cells #[.int .i64 2, .int .i64 id, .int .i64 r0, .int .i64 r1, .int .i64 r2] 43) := ⟨_, rfl⟩
  rw [← hW] at hb1 hx
  have HB := Lib.hid hb1
  have HX := Lib.hid hx
  obtain ⟨c0, c1, c2, c3, c4⟩ := cells5o hx
  simp only [Nat.zero_add] at c0 c1 c2 c3 c4
  have hid' := Lib.hid hid
  have HP := Lib.hid (h.later hb1)
  have KP := Lib.hid (k.later hb1)
  have HO := Lib.hid h.once
  have he : ∀ w, (binOp .eql 30 (.agg #[.int .i64 0, .int .i64 0, .int .i64 0]) (.agg #[.int .i64 0, .int .i64 0, .int .i64 0])).run Try.prog w = .ok (.bool true) w := fun w => by rw [rank3_eql]; simp [rkSame]
  clear h k hb1 hx
  go_enter Try.func20, Try.ntmps20
  go_wp2_with fail
  rw [← hW]
  clear hW
  go_wp2_with fail
  refine (hp_get_none HP.out id hid hq).mono ?_
  rintro e w2 ⟨rfl, b2⟩
  have B2 := Lib.hid (below2Z HB.out b2)
  have hc1 : w2.cell? ⟨w.heap.size, 1, none⟩ = some (.int .i64 id) := (b2.cell (p := ⟨w.heap.size, 1, none⟩) (World.block_lt_of_cell? _ _ c1)).trans c1
  have hl2 : w.heap.size < w2.heap.size := World.block_lt_of_cell? _ _ hc1
  have K2 := Lib.hid (KP.out.later b2)
  clear b2 c0 c1 c2 c3 c4
  go_wp2_with fail
  refine (rget_no (K2.out.later (bl_newZ _ _)) HO.out.1 HO.out.2.2 id hq).mono ?_
  rintro e w3 ⟨rfl, b3⟩
  have hy := (cellsAt_made (w := w2) (cs := #[.int .i64 0, .int .i64 0, .int .i64 0]) (vs := [.int .i64 0, .int .i64 0, .int .i64 0]) rfl 31 rfl).later b3
  have hz := hy.later (bl_newZ w3 (.cells #[.int .i64 0, .int .i64 0, .int .i64 0] 30))
  have y0 : (w3.alloc (.cells #[.int .i64 0, .int .i64 0, .int .i64 0] 30)).cell? ⟨w2.heap.size, 0, none⟩ = some (.int .i64 0) := hz 0 _ rfl
  have y1 : (w3.alloc (.cells #[.int .i64 0, .int .i64 0, .int .i64 0] 30)).cell? ⟨w2.heap.size, 1, none⟩ = some (.int .i64 0) := hz 1 _ rfl
  have y2 : (w3.alloc (.cells #[.int .i64 0, .int .i64 0, .int .i64 0] 30)).cell? ⟨w2.heap.size, 2, none⟩ = some (.int .i64 0) := hz 2 _ rfl
  have B3 := Lib.hid (below2Z B2.out (below2Z (bl_newZ w2 _) b3))
  clear b3 hy hz hc1
  go_wp2_with fail
  go_ret
  exact ⟨rfl, below2Z B3.out (bl_newZ _ _)⟩

set_option maxHeartbeats 3200000 in
set_option maxRecDepth 100000 in
theorem does_top_yes {w : World} {base B : Nat} {v : Value} {M : Nat} {L : List Sl} (h : HpAt w base B v M L) {K : Nat} {u : Value} (k : KAt w base K u L) (id r0 r1 r2 : Int) (h0 : 0 < L.length) {i a0 a1 a2 : Int} (ht : slBst L (L.length - 1) = ⟨i, a0, a1, a2⟩) :
    Calls Try.prog 20 #[.pointer (some ⟨B, 0, none⟩), .pointer (some ⟨K, 0, none⟩), .agg #[.int .i64 3, .int .i64 id, .int .i64 r0, .int .i64 r1, .int .i64 r2]] w fun e w' => e = .returned (.bool true) ∧ Below w.heap.size w w' := by
  have hb1 := bl_newZ w (.cells #[.int .i64 3, .int .i64 id, .int .i64 r0, .int .i64 r1, .int .i64 r2] 43)
  have hx := cellsAt_made (w := w) (cs := #[.int .i64 3, .int .i64 id, .int .i64 r0, .int .i64 r1, .int .i64 r2]) (vs := opVals ⟨3, id, r0, r1, r2⟩) rfl 43 rfl
  obtain ⟨W, hW⟩ : ∃ W, W = w.alloc (.cells #[.int .i64 3, .int .i64 id, .int .i64 r0, .int .i64 r1, .int .i64 r2] 43) := ⟨_, rfl⟩
  rw [← hW] at hb1 hx
  have HB := Lib.hid hb1
  have HX := Lib.hid hx
  obtain ⟨c0, c1, c2, c3, c4⟩ := cells5o hx
  simp only [Nat.zero_add] at c0 c1 c2 c3 c4
  have HP := Lib.hid (h.later hb1)
  have KP := Lib.hid (k.later hb1)
  have HO := Lib.hid h.once
  clear h k hb1 hx
  go_enter Try.func20, Try.ntmps20
  go_wp2_with fail
  rw [← hW]
  clear hW
  go_wp2_with fail
  refine (hp_top HP.out (bst_isTop h0 ht)).mono ?_
  rintro e w2 ⟨rfl, b2⟩
  have B2 := Lib.hid (below2Z HB.out b2)
  have K2 := Lib.hid (KP.out.later b2)
  clear b2 c0 c1 c2 c3 c4
  go_wp2_with fail
  refine (rtop_yes (K2.out.later (bl_newZ _ _)) h0 HO.out.2.2 ht).mono ?_
  rintro e w3 ⟨rfl, b3⟩
  have hy := (cellsAt_made (w := w2) (cs := #[.int .i64 i, .int .i64 a0, .int .i64 a1, .int .i64 a2]) (vs := [.int .i64 i, .int .i64 a0, .int .i64 a1, .int .i64 a2]) rfl 33 rfl).later b3
  have hz := hy.later (bl_newZ w3 (.cells #[.int .i64 i, .int .i64 a0, .int .i64 a1, .int .i64 a2] 37))
  have y0 : (w3.alloc (.cells #[.int .i64 i, .int .i64 a0, .int .i64 a1, .int .i64 a2] 37)).cell? ⟨w2.heap.size, 0, none⟩ = some (.int .i64 i) := hz 0 _ rfl
  have y1 : (w3.alloc (.cells #[.int .i64 i, .int .i64 a0, .int .i64 a1, .int .i64 a2] 37)).cell? ⟨w2.heap.size, 1, none⟩ = some (.int .i64 a0) := hz 1 _ rfl
  have y2 : (w3.alloc (.cells #[.int .i64 i, .int .i64 a0, .int .i64 a1, .int .i64 a2] 37)).cell? ⟨w2.heap.size, 2, none⟩ = some (.int .i64 a1) := hz 2 _ rfl
  have y3 : (w3.alloc (.cells #[.int .i64 i, .int .i64 a0, .int .i64 a1, .int .i64 a2] 37)).cell? ⟨w2.heap.size, 3, none⟩ = some (.int .i64 a2) := hz 3 _ rfl
  have B3 := Lib.hid (below2Z B2.out (below2Z (below2Z (bl_newZ w2 _) b3) (bl_newZ w3 (.cells #[.int .i64 i, .int .i64 a0, .int .i64 a1, .int .i64 a2] 37))))
  clear b3 hy hz
  go_wp2_with fail
  refine (rsame_yes _ _ _ _ _).mono ?_
  rintro e w4 ⟨rfl, b4⟩
  have B4 := Lib.hid (below2Z B3.out b4)
  clear b4
  go_wp2_with fail
  go_ret
  exact ⟨rfl, B4.out⟩

set_option maxHeartbeats 3200000 in
set_option maxRecDepth 100000 in
theorem does_top_no {w : World} {base B : Nat} {v : Value} {M : Nat} {L : List Sl} (h : HpAt w base B v M L) {K : Nat} {u : Value} (k : KAt w base K u L) (id r0 r1 r2 : Int) (h0 : L = []) :
    Calls Try.prog 20 #[.pointer (some ⟨B, 0, none⟩), .pointer (some ⟨K, 0, none⟩), .agg #[.int .i64 3, .int .i64 id, .int .i64 r0, .int .i64 r1, .int .i64 r2]] w fun e w' => e = .returned (.bool true) ∧ Below w.heap.size w w' := by
  have hb1 := bl_newZ w (.cells #[.int .i64 3, .int .i64 id, .int .i64 r0, .int .i64 r1, .int .i64 r2] 43)
  have hx := cellsAt_made (w := w) (cs := #[.int .i64 3, .int .i64 id, .int .i64 r0, .int .i64 r1, .int .i64 r2]) (vs := opVals ⟨3, id, r0, r1, r2⟩) rfl 43 rfl
  obtain ⟨W, hW⟩ : ∃ W, W = w.alloc (.cells #[.int .i64 3, .int .i64 id, .int .i64 r0, .int .i64 r1, .int .i64 r2] 43) := ⟨_, rfl⟩
  rw [← hW] at hb1 hx
  have HB := Lib.hid hb1
  have HX := Lib.hid hx
  obtain ⟨c0, c1, c2, c3, c4⟩ := cells5o hx
  simp only [Nat.zero_add] at c0 c1 c2 c3 c4
  have HP := Lib.hid (h.later hb1)
  have KP := Lib.hid (k.later hb1)
  have HO := Lib.hid h.once
  clear h k hb1 hx
  go_enter Try.func20, Try.ntmps20
  go_wp2_with fail
  rw [← hW]
  clear hW
  go_wp2_with fail
  refine (hp_top_none (h0 ▸ HP.out)).mono ?_
  rintro e w2 ⟨rfl, b2⟩
  have B2 := Lib.hid (below2Z HB.out b2)
  have K2 := Lib.hid (KP.out.later b2)
  clear b2 c0 c1 c2 c3 c4
  go_wp2_with fail
  refine (rtop_no (h0 ▸ K2.out.later (bl_newZ _ _))).mono ?_
  rintro e w3 ⟨rfl, b3⟩
  have hy := (cellsAt_made (w := w2) (cs := #[.int .i64 0, .int .i64 0, .int .i64 0, .int .i64 0]) (vs := [.int .i64 0, .int .i64 0, .int .i64 0, .int .i64 0]) rfl 33 rfl).later b3
  have hz := hy.later (bl_newZ w3 (.cells #[.int .i64 0, .int .i64 0, .int .i64 0, .int .i64 0] 37))
  have y0 : (w3.alloc (.cells #[.int .i64 0, .int .i64 0, .int .i64 0, .int .i64 0] 37)).cell? ⟨w2.heap.size, 0, none⟩ = some (.int .i64 0) := hz 0 _ rfl
  have y1 : (w3.alloc (.cells #[.int .i64 0, .int .i64 0, .int .i64 0, .int .i64 0] 37)).cell? ⟨w2.heap.size, 1, none⟩ = some (.int .i64 0) := hz 1 _ rfl
  have y2 : (w3.alloc (.cells #[.int .i64 0, .int .i64 0, .int .i64 0, .int .i64 0] 37)).cell? ⟨w2.heap.size, 2, none⟩ = some (.int .i64 0) := hz 2 _ rfl
  have y3 : (w3.alloc (.cells #[.int .i64 0, .int .i64 0, .int .i64 0, .int .i64 0] 37)).cell? ⟨w2.heap.size, 3, none⟩ = some (.int .i64 0) := hz 3 _ rfl
  have B3 := Lib.hid (below2Z B2.out (below2Z (below2Z (bl_newZ w2 _) b3) (bl_newZ w3 (.cells #[.int .i64 0, .int .i64 0, .int .i64 0, .int .i64 0] 37))))
  clear b3 hy hz
  go_wp2_with fail
  refine (rsame_yes _ _ _ _ _).mono ?_
  rintro e w4 ⟨rfl, b4⟩
  have B4 := Lib.hid (below2Z B3.out b4)
  clear b4
  go_wp2_with fail
  go_ret
  exact ⟨rfl, B4.out⟩

set_option maxHeartbeats 3200000 in
set_option maxRecDepth 100000 in
theorem does_else (w : World) (x y : Value) (act id r0 r1 r2 : Int) (h0 : act ≠ 0) (h1 : act ≠ 1) (h2 : act ≠ 2) (h3 : act ≠ 3) :
    Calls Try.prog 20 #[x, y, .agg #[.int .i64 act, .int .i64 id, .int .i64 r0, .int .i64 r1, .int .i64 r2]] w fun e w' => e = .returned (.bool true) ∧ Below w.heap.size w w' := by
  have t0 : (act == 0) = false := by rw [beq_eq_false_iff_ne]; exact h0
  have t1 : (act == 1) = false := by rw [beq_eq_false_iff_ne]; exact h1
  have t2 : (act == 2) = false := by rw [beq_eq_false_iff_ne]; exact h2
  have t3 : (act == 3) = false := by rw [beq_eq_false_iff_ne]; exact h3
  clear h0 h1 h2 h3
  go_enter Try.func20, Try.ntmps20
  go_wp2_with fail
  go_ret
  exact ⟨rfl, bl_newZ w _⟩

/-- A call of both: they tell the same, and hold the same. -/
theorem does_any {w : World} {base B : Nat} {v : Value} {M : Nat} {L : List Sl} (h : HpAt w base B v M L) {K : Nat} {u : Value} (k : KAt w base K u L) (hl : L.length < 1000) (act id r0 r1 r2 : Int) (hid : (Lit.int .i64 id).wf = true) :
    Calls Try.prog 20 #[.pointer (some ⟨B, 0, none⟩), .pointer (some ⟨K, 0, none⟩), .agg #[.int .i64 act, .int .i64 id, .int .i64 r0, .int .i64 r1, .int .i64 r2]] w fun e w' =>
      ∃ v' u', e = .returned (.bool true) ∧ HpAt w' base B v' M (scStep L ⟨act, id, r0, r1, r2⟩) ∧ KAt w' base K u' (scStep L ⟨act, id, r0, r1, r2⟩) ∧ Below base w w'  ∧ ∀ X, X < w.heap.size → ¬ Foot B M v X → ¬ FootK K u X → w'.heap[X]? = w.heap[X]? := by
  have hread : ∀ {e : Ending} {w' : World}, e = .returned (.bool true) ∧ Below w.heap.size w w' → act ≠ 0 → act ≠ 1 → ∃ v' u', e = .returned (.bool true) ∧ HpAt w' base B v' M (scStep L ⟨act, id, r0, r1, r2⟩) ∧ KAt w' base K u' (scStep L ⟨act, id, r0, r1, r2⟩) ∧ Below base w w'  ∧ ∀ X, X < w.heap.size → ¬ Foot B M v X → ¬ FootK K u X → w'.heap[X]? = w.heap[X]? := by
    rintro e w' ⟨he, hb⟩ g0 g1
    have hs : scStep L ⟨act, id, r0, r1, r2⟩ = L := by unfold scStep; rw [if_neg g0, if_neg g1]
    rw [hs]
    exact ⟨v, u, he, h.later hb, k.later hb, hb.mono h.base, fun X hX _ _ => hb.block X hX⟩
  by_cases h0 : act = 0
  · subst h0
    exact does_put h k hl id r0 r1 r2 hid
  · by_cases h1 : act = 1
    · subst h1
      exact does_drop h k id r0 r1 r2 hid
    · by_cases h2 : act = 2
      · subst h2
        cases hq : spot L id with
        | none => exact (does_get_no h k id r0 r1 r2 hid hq).mono fun e w' hh => hread hh h0 h1
        | some q =>
          obtain ⟨⟨i, a0, a1, a2⟩, ht⟩ : ∃ s, at0 L q = s := ⟨_, rfl⟩
          exact (does_get_yes h k id r0 r1 r2 hid hq ht).mono fun e w' hh => hread hh h0 h1
      · by_cases h3 : act = 3
        · subst h3
          by_cases hL : L = []
          · exact (does_top_no h k id r0 r1 r2 hL).mono fun e w' hh => hread hh h0 h1
          · obtain ⟨⟨i, a0, a1, a2⟩, ht⟩ : ∃ s, slBst L (L.length - 1) = s := ⟨_, rfl⟩
            exact (does_top_yes h k id r0 r1 r2 (List.length_pos_iff.2 hL) ht).mono fun e w' hh => hread hh h0 h1
        · exact (does_else w _ _ act id r0 r1 r2 h0 h1 h2 h3).mono fun e w' hh => hread hh h0 h1

end Go.Proofs.Ytocljhbkjengpaa
