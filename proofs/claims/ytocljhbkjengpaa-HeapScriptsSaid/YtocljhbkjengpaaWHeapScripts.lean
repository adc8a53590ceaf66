/-
  THE WALK OF HeapScripts.
-/
import Derived.Test.YtocljhbkjengpaaHeaTwoG
import Derived.Test.YtocljhbkjengpaaHeaLive
import Derived.Test.YtocljhbkjengpaaHeaBet
namespace Go.Proofs.Ytocljhbkjengpaa
open Go.RowKit

/-- The slots behind calls of both. -/
def scRun (l : List HOp) : List Sl := l.foldl scStep []

theorem scRun_next {l : List HOp} {k : Nat} (h : k < l.length) : scRun (l.take (k + 1)) = scStep (scRun (l.take k)) (l.getD k HOp.zero) := by
  unfold scRun
  rw [List.take_add_one, List.foldl_append, List.getD_eq_getElem?_getD, List.getElem?_eq_getElem h]
  rfl

theorem slDel_len (L : List Sl) (id : Int) : (slDel L id).length ≤ L.length := List.length_filter_le _ _

theorem scStep_len (L : List Sl) (o : HOp) : (scStep L o).length ≤ L.length + 1 := by
  unfold scStep
  split
  · unfold slPut
    split <;> simp
  · split
    · have := slDel_len L o.id; omega
    · omega

theorem CellsAt.block {w w' : World} {b o : Nat} {vs : List Value} (h : CellsAt w b o vs) (hb : w'.heap[b]? = w.heap[b]?) : CellsAt w' b o vs := fun j u hu => (World.cell?_of_block hb).trans (h j u hu)

theorem top_both (L : List Sl) (hl : L.length ≤ 1000) : ∃ i a0 a1 a2 x,
    (∀ (w' : World) (base B : Nat) (v : Value) (M : Nat), HpAt w' base B v M L → Calls Try.prog 17 #[.pointer (some ⟨B, 0, none⟩)] w' fun e w'' => e = .returned (.tuple #[.agg #[.int .i64 i, .int .i64 a0, .int .i64 a1, .int .i64 a2], .bool x]) ∧ Below w'.heap.size w' w'') ∧
    (∀ (w' : World) (base K : Nat) (u : Value), KAt w' base K u L → Calls Try.prog 18 #[.pointer (some ⟨K, 0, none⟩)] w' fun e w'' => e = .returned (.tuple #[.agg #[.int .i64 i, .int .i64 a0, .int .i64 a1, .int .i64 a2], .bool x]) ∧ Below w'.heap.size w' w'') := by
  by_cases hL : L = []
  · subst hL
    exact ⟨0, 0, 0, 0, false, fun w' base B v M h => hp_top_none h, fun w' base K u h => rtop_no h⟩
  · obtain ⟨⟨i, a0, a1, a2⟩, ht⟩ : ∃ s, slBst L (L.length - 1) = s := ⟨_, rfl⟩
    have h0 := List.length_pos_iff.2 hL
    exact ⟨i, a0, a1, a2, true, fun w' base B v M h => hp_top h (bst_isTop h0 ht), fun w' base K u h => rtop_yes h h0 hl ht⟩

set_option maxHeartbeats 6400000 in
set_option maxRecDepth 100000 in
theorem walkHeapScripts {w : World} {v : Value} {l : List HOp} (hv : OpsAt w v l) :
    Calls Try.prog 3 #[v] w fun e w' => e = .returned (.bool true) ∧ Below w.heap.size w w' := by
  have HV := Lib.hid hv
  obtain ⟨a, cap, rfl, hm⟩ := hv.1.open'
  clear hv
  by_cases hl : l.length ≤ 100
  · have t0 : decide (100 < (l.length : Int)) = false := by simp; omega
    go_enter Try.func3, Try.ntmps3
    go_wp2_with fail
    refine (hp_new _).mono ?_
    rintro e w1 ⟨B, v1, M, rfl, h1, b1⟩
    have b2 := bl_newZ w1 (.cells #[.slice none 0 0] 28)
    have H2 := Lib.hid (h1.later b2)
    have B2 := Lib.hid (below2Z b1 b2)
    have K2 : Hid (KAt (w1.alloc (.cells #[.slice none 0 0] 28)) w.heap.size w1.heap.size (.slice none 0 0) []) := ⟨b1.size, heap_alloc_new _ _, ownS_nil _ _⟩
    clear h1 b1 b2
    go_wp2_with fail
    generalize w1.alloc (.cells #[.slice none 0 0] 28) = w2 at H2 B2 K2 ⊢
    generalize w1.heap.size = K at K2 ⊢
    go_loopw [5] (fun i wr => ∃ (k : Nat) (v u : Value), k ≤ l.length ∧ i = .int .i64 k ∧ Hid ((scRun (l.take k)).length ≤ k) ∧ Hid (HpAt wr w.heap.size B v M (scRun (l.take k))) ∧ Hid (KAt wr w.heap.size K u (scRun (l.take k))) ∧ Hid (Below w.heap.size w wr)) (fun i _ => l.length - (intOf i).toNat)
    case atStart => exact ⟨0, v1, .slice none 0 0, by omega, rfl, by show _ ≤ _; simp [scRun], by simpa [scRun] using H2, by simpa [scRun] using K2, B2⟩
    case round =>
      clear H2 K2 B2
      obtain ⟨k, v, u, hk, rfl, HL, HH, HK, HB⟩ := hrel
      by_cases hlt : k < l.length
      · obtain ⟨b, off, rfl, hc⟩ := HV.out.1.row HB.out k hlt
        have hbw : b < w.heap.size := by
          obtain ⟨b', off', e', hc'⟩ := HV.out.1.row (Below.refl _ _) k hlt
          injection e' with e'
          injection e' with e1 e2 _
          subst e1 e2
          exact World.block_lt_of_cell? w _ (hc' 0 _ rfl)
        obtain ⟨⟨t, id, r0, r1, r2⟩, hr⟩ : ∃ r, l.getD k HOp.zero = r := ⟨_, rfl⟩
        have hid : (Lit.int .i64 id).wf = true := by
          have hmem : l.getD k HOp.zero ∈ l := by rw [List.getD_eq_getElem?_getD, List.getElem?_eq_getElem hlt]; exact List.getElem_mem hlt
          have := HV.out.2 _ hmem
          rwa [hr] at this
        have hnx := scRun_next hlt
        rw [hr] at hc hnx
        have hsl := scStep_len (scRun (l.take k)) ⟨t, id, r0, r1, r2⟩
        have HL2 : Hid ((scRun (l.take (k + 1))).length ≤ k + 1) := by show _ ≤ _; rw [hnx]; have := HL.out; omega
        have HNX := Lib.hid hnx
        have HL3 : Hid ((scRun (l.take k)).length < 1000) := by show _ < _; have := HL.out; omega
        obtain ⟨n, hn⟩ : ∃ n, (scStep (scRun (l.take k)) ⟨t, id, r0, r1, r2⟩).length = n := ⟨_, rfl⟩
        have HN := Lib.hid hn
        obtain ⟨i, a0, a1, a2, x, ht1, ht2⟩ := top_both (scRun (l.take k)) (Nat.le_of_lt HL3.out)
        have HT1 := Lib.hid (ht1 wr _ _ _ _ HH.out)
        have HT2 := Lib.hid ht2
        have HC := Lib.hid hc
        clear hr hc hnx hsl hn ht1 ht2
        go_wp2_with fail
        refine HT1.out.mono ?_
        rintro e w3 ⟨rfl, b3⟩
        have b3' := bl_allocZ b3 (.cells #[.int .i64 i, .int .i64 a0, .int .i64 a1, .int .i64 a2] 33)
        have X6 := cellsAt_made (w := w3) (cs := #[.int .i64 i, .int .i64 a0, .int .i64 a1, .int .i64 a2]) (vs := slVals ⟨i, a0, a1, a2⟩) rfl 33 rfl
        have Y6 := (HH.out.later b3).far (Nat.le_refl _)
        have Z6 := (HK.out.later b3).far (Nat.le_refl _)
        have hX6 : w3.heap.size < (w3.alloc (.cells #[.int .i64 i, .int .i64 a0, .int .i64 a1, .int .i64 a2] 33)).heap.size := by simp
        go_wp2_with fail
        refine (HT2.out _ _ _ _ (HK.out.later b3')).mono ?_
        rintro e w4 ⟨rfl, b4⟩
        have b5 := bl_allocZ b4 (.cells #[.int .i64 i, .int .i64 a0, .int .i64 a1, .int .i64 a2] 37)
        have X8 := cellsAt_made (w := w4) (cs := #[.int .i64 i, .int .i64 a0, .int .i64 a1, .int .i64 a2]) (vs := slVals ⟨i, a0, a1, a2⟩) rfl 37 rfl
        have Y8 := Lib.hid (((HH.out.later b3').later b4).far (Nat.le_refl _))
        have Z8 := Lib.hid (((HK.out.later b3').later b4).far (Nat.le_refl _))
        have b5' := below2Z b3' b5
        obtain ⟨W, hW⟩ : ∃ W, W = w4.alloc (.cells #[.int .i64 i, .int .i64 a0, .int .i64 a1, .int .i64 a2] 37) := ⟨_, rfl⟩
        have X6' := X6.later b5
        rw [← hW] at X8 b5' b5 X6'
        have hs8 : w4.heap.size < W.drew.heap.size := by show _ < W.heap.size; rw [hW]; simp
        have hs6 : w3.heap.size < W.drew.heap.size := Nat.lt_of_lt_of_le hX6 b5.size
        have Y6' := Lib.hid Y6
        have Z6' := Lib.hid Z6
        have CX := Lib.hid (show CellsAt W.drew w3.heap.size 0 (slVals ⟨i, a0, a1, a2⟩) from X6')
        have CY := Lib.hid (show CellsAt W.drew w4.heap.size 0 (slVals ⟨i, a0, a1, a2⟩) from X8)
        have CO := Lib.hid (show CellsAt W.drew b (off + k * 5) (opVals ⟨t, id, r0, r1, r2⟩) from HC.out.later b5'.drew)
        have H5 := Lib.hid (show HpAt W.drew w.heap.size B v M (scRun (l.take k)) from HpAt.spared (HH.out.later b5') ⟨rfl, rfl, fun _ _ _ _ => rfl⟩)
        have K5 := Lib.hid (show KAt W.drew w.heap.size K u (scRun (l.take k)) from (HK.out.later b5').blocks rfl fun _ _ _ _ => rfl)
        have B5 := Lib.hid (show Below w.heap.size w W.drew from (below2Z HB.out b5').drew)
        clear b3 b3' b4 b5 b5' X6 X6' X8 Y6 Z6 hX6
        go_wp2_with fail
        rw [← hW]
        clear hW
        generalize w3.heap.size = P6 at *
        generalize w4.heap.size = P8 at *
        go_wp2_with fail
        obtain ⟨o0, o1, o2, o3⟩ := cells4 CX.out
        obtain ⟨o4, o5, o6, o7⟩ := cells4 CY.out
        obtain ⟨o8, o9, o10, o11, o12⟩ := cells5o CO.out
        simp only [Nat.zero_add] at o0 o1 o2 o3 o4 o5 o6 o7
        have t1 : (0 : Int) ≤ (k : Int) := by omega
        have t2 : (k : Int) < (l.length : Int) := by omega
        refine wp_region_held_drew (S := (fun X => X.cell? ⟨P6, 0, none⟩ = some (.int .i64 i) ∧ X.cell? ⟨P6, 1, none⟩ = some (.int .i64 a0) ∧ X.cell? ⟨P6, 2, none⟩ = some (.int .i64 a1) ∧ X.cell? ⟨P6, 3, none⟩ = some (.int .i64 a2) ∧ X.cell? ⟨P8, 0, none⟩ = some (.int .i64 i) ∧ X.cell? ⟨P8, 1, none⟩ = some (.int .i64 a0) ∧ X.cell? ⟨P8, 2, none⟩ = some (.int .i64 a1) ∧ X.cell? ⟨P8, 3, none⟩ = some (.int .i64 a2) ∧ X.cell? ⟨b, off + k * 5, none⟩ = some (.int .i64 t) ∧ X.cell? ⟨b, off + k * 5 + 1, none⟩ = some (.int .i64 id) ∧ X.cell? ⟨b, off + k * 5 + 2, none⟩ = some (.int .i64 r0) ∧ X.cell? ⟨b, off + k * 5 + 3, none⟩ = some (.int .i64 r1) ∧ X.cell? ⟨b, off + k * 5 + 4, none⟩ = some (.int .i64 r2))) (by kernel_rfl) ?_ (fun hHeld => ?_)
        · exact ⟨o0, o1, o2, o3, o4, o5, o6, o7, o8, o9, o10, o11, o12⟩
        refine wpAnyH_take (i := 0) (oi := { dst := some 35, op := Op.load 33 (Operand.tmp 6), type := 33, pos := "law.go:69", after := #[], guard := none }) (v := ?_) rfl (by as_aux_lemma => kernel_rfl) (by as_aux_lemma => kernel_rfl) (by as_aux_lemma => kernel_rfl) (fun _ _ _ h => h) (Or.inl ⟨by rfl, ?_⟩) (by assumption) ?_
        rotate_left
        · intro w' hSw
          try dsimp only at hSw
          go_simp
          try with_reducible rfl
        try simp only [Act.put, List.setIfInBounds_toArray, List.set_cons_zero, List.set_cons_succ]
        refine wpAnyH_take (i := 1) (oi := { dst := some 36, op := Op.load 37 (Operand.tmp 8), type := 37, pos := "law.go:69", after := #[], guard := none }) (v := ?_) rfl (by as_aux_lemma => kernel_rfl) (by as_aux_lemma => kernel_rfl) (by as_aux_lemma => kernel_rfl) (fun _ _ _ h => h) (Or.inl ⟨by rfl, ?_⟩) (by assumption) ?_
        rotate_left
        · intro w' hSw
          try dsimp only at hSw
          go_simp
          try with_reducible rfl
        try simp only [Act.put, List.setIfInBounds_toArray, List.set_cons_zero, List.set_cons_succ]
        refine wpAnyH_ready (rs := [2]) (by as_aux_lemma => kernel_rfl) (by simp) ?_
        refine AllReadyH.cons (o := { dst := some 37, op := Op.call { callee := Callee.value (Operand.func 19), args := #[Operand.tmp 35, Operand.tmp 36], argTypes := #[33, 37] }, type := 4, pos := "law.go:69", after := #[{ on := 0, ground := Ground.data }, { on := 1, ground := Ground.data }], guard := none }) rfl (fun Kx hK => ?_) AllReadyH.nil
        go_simp
        refine (rsame_yes _ _ _ _ _).mono ?_
        rintro e w6 ⟨rfl, b6⟩
        have D6 : Hid (CellsAt w6 P6 0 (slVals ⟨i, a0, a1, a2⟩)) := Lib.hid (CX.out.later b6)
        have D8 : Hid (CellsAt w6 P8 0 (slVals ⟨i, a0, a1, a2⟩)) := Lib.hid (CY.out.later b6)
        have DO : Hid (CellsAt w6 b (off + k * 5) (opVals ⟨t, id, r0, r1, r2⟩)) := Lib.hid (CO.out.later b6)
        have H6 : Hid (HpAt w6 w.heap.size B v M (scRun (l.take k))) := Lib.hid (H5.out.later b6)
        have K6 : Hid (KAt w6 w.heap.size K u (scRun (l.take k))) := Lib.hid (K5.out.later b6)
        have B6 : Hid (Below w.heap.size w w6) := Lib.hid (below2Z B5.out b6)
        have q6 := Nat.lt_of_lt_of_le hs6 b6.size
        have q8 := Nat.lt_of_lt_of_le hs8 b6.size
        clear b6 o0 o1 o2 o3 o4 o5 o6 o7 o8 o9 o10 o11 o12
        obtain ⟨p0, p1, p2, p3⟩ := cells4 (D6.out)
        obtain ⟨p4, p5, p6, p7⟩ := cells4 (D8.out)
        obtain ⟨p8, p9, p10, p11, p12⟩ := cells5o (DO.out)
        simp only [Nat.zero_add] at p0 p1 p2 p3 p4 p5 p6 p7
        go_wp2_with fail
        refine hK.out _ _ ?_ (fun hHeld2 => ?_)
        · exact ⟨p0, p1, p2, p3, p4, p5, p6, p7, p8, p9, p10, p11, p12⟩
        clear hK Kx hHeld
        have hHeld := hHeld2
        clear hHeld2
        try simp only [Act.put, List.setIfInBounds_toArray, List.set_cons_zero, List.set_cons_succ]
        refine wpAnyH_take (i := 3) (oi := { dst := some 38, op := Op.unOp UnOp.not 4 (Operand.tmp 37), type := 4, pos := "law.go:69", after := #[{ on := 2, ground := Ground.data }], guard := none }) (v := ?_) rfl (by as_aux_lemma => kernel_rfl) (by as_aux_lemma => kernel_rfl) (by as_aux_lemma => kernel_rfl) (fun _ _ _ h => h) (Or.inl ⟨by rfl, ?_⟩) (by assumption) ?_
        rotate_left
        · intro w' hSw
          try dsimp only at hSw
          go_simp
          try with_reducible rfl
        try simp only [Act.put, List.setIfInBounds_toArray, List.set_cons_zero, List.set_cons_succ]
        refine wpAnyH_take (i := 4) (oi := { dst := some 39, op := Op.move (Operand.tmp 38), type := 4, pos := "law.go:69", after := #[{ on := 3, ground := Ground.data }, { on := 2, ground := Ground.chain }], guard := none }) (v := ?_) rfl (by as_aux_lemma => kernel_rfl) (by as_aux_lemma => kernel_rfl) (by as_aux_lemma => kernel_rfl) (fun _ _ _ h => h) (Or.inl ⟨by rfl, ?_⟩) (by assumption) ?_
        rotate_left
        · intro w' hSw
          try dsimp only at hSw
          go_simp
          try with_reducible rfl
        try simp only [Act.put, List.setIfInBounds_toArray, List.set_cons_zero, List.set_cons_succ]
        refine wpAnyH_take (i := 5) (oi := { dst := some 40, op := Op.move (Operand.tmp 7), type := 4, pos := "law.go:69", after := #[{ on := 4, ground := Ground.guard }], guard := some (4, false) }) (v := ?_) rfl (by as_aux_lemma => kernel_rfl) (by as_aux_lemma => kernel_rfl) (by as_aux_lemma => kernel_rfl) (fun _ _ _ h => h) (Or.inl ⟨by rfl, ?_⟩) (by assumption) ?_
        rotate_left
        · intro w' hSw
          try dsimp only at hSw
          go_simp
          try with_reducible rfl
        try simp only [Act.put, List.setIfInBounds_toArray, List.set_cons_zero, List.set_cons_succ]
        refine wpAnyH_take (i := 6) (oi := { dst := some 41, op := Op.move (Operand.tmp 9), type := 4, pos := "law.go:69", after := #[{ on := 4, ground := Ground.guard }], guard := some (4, false) }) (v := ?_) rfl (by as_aux_lemma => kernel_rfl) (by as_aux_lemma => kernel_rfl) (by as_aux_lemma => kernel_rfl) (fun _ _ _ h => h) (Or.inl ⟨by rfl, ?_⟩) (by assumption) ?_
        rotate_left
        · intro w' hSw
          try dsimp only at hSw
          go_simp
          try with_reducible rfl
        try simp only [Act.put, List.setIfInBounds_toArray, List.set_cons_zero, List.set_cons_succ]
        refine wpAnyH_take (i := 7) (oi := { dst := some 42, op := Op.binOp BinOp.neq 4 (Operand.tmp 40) (Operand.tmp 41) 4, type := 4, pos := "law.go:69", after := #[{ on := 5, ground := Ground.data }, { on := 6, ground := Ground.data }, { on := 4, ground := Ground.guard }], guard := some (4, false) }) (v := ?_) rfl (by as_aux_lemma => kernel_rfl) (by as_aux_lemma => kernel_rfl) (by as_aux_lemma => kernel_rfl) (fun _ _ _ h => h) (Or.inl ⟨by rfl, ?_⟩) (by assumption) ?_
        rotate_left
        · intro w' hSw
          try dsimp only at hSw
          go_simp
          try with_reducible rfl
        try simp only [Act.put, List.setIfInBounds_toArray, List.set_cons_zero, List.set_cons_succ]
        refine wpAnyH_take (i := 8) (oi := { dst := some 43, op := Op.pick (Operand.tmp 39) (Operand.const (Value.bool true)) (Operand.tmp 42), type := 4, pos := "law.go:69", after := #[{ on := 4, ground := Ground.data }, { on := 7, ground := Ground.data }], guard := none }) (v := ?_) rfl (by as_aux_lemma => kernel_rfl) (by as_aux_lemma => kernel_rfl) (by as_aux_lemma => kernel_rfl) (fun _ _ _ h => h) (Or.inl ⟨by rfl, ?_⟩) (by assumption) ?_
        rotate_left
        · intro w' hSw
          try dsimp only at hSw
          go_simp
          try with_reducible rfl
        try simp only [Act.put, List.setIfInBounds_toArray, List.set_cons_zero, List.set_cons_succ]
        refine wpAnyH_take (i := 9) (oi := { dst := some 44, op := Op.move (Operand.tmp 43), type := 4, pos := "law.go:69", after := #[{ on := 8, ground := Ground.data }, { on := 4, ground := Ground.chain }], guard := none }) (v := ?_) rfl (by as_aux_lemma => kernel_rfl) (by as_aux_lemma => kernel_rfl) (by as_aux_lemma => kernel_rfl) (fun _ _ _ h => h) (Or.inl ⟨by rfl, ?_⟩) (by assumption) ?_
        rotate_left
        · intro w' hSw
          try dsimp only at hSw
          go_simp
          try with_reducible rfl
        try simp only [Act.put, List.setIfInBounds_toArray, List.set_cons_zero, List.set_cons_succ]
        refine wpAnyH_take (i := 10) (oi := { dst := some 45, op := Op.move (Operand.tmp 3), type := 23, pos := "law.go:69", after := #[{ on := 9, ground := Ground.guard }], guard := some (9, false) }) (v := ?_) rfl (by as_aux_lemma => kernel_rfl) (by as_aux_lemma => kernel_rfl) (by as_aux_lemma => kernel_rfl) (fun _ _ _ h => h) (Or.inl ⟨by rfl, ?_⟩) (by assumption) ?_
        rotate_left
        · intro w' hSw
          try dsimp only at hSw
          go_simp
          try with_reducible rfl
        try simp only [Act.put, List.setIfInBounds_toArray, List.set_cons_zero, List.set_cons_succ]
        refine wpAnyH_take (i := 11) (oi := { dst := some 46, op := Op.move (Operand.tmp 4), type := 25, pos := "law.go:69", after := #[{ on := 9, ground := Ground.guard }], guard := some (9, false) }) (v := ?_) rfl (by as_aux_lemma => kernel_rfl) (by as_aux_lemma => kernel_rfl) (by as_aux_lemma => kernel_rfl) (fun _ _ _ h => h) (Or.inl ⟨by rfl, ?_⟩) (by assumption) ?_
        rotate_left
        · intro w' hSw
          try dsimp only at hSw
          go_simp
          try with_reducible rfl
        try simp only [Act.put, List.setIfInBounds_toArray, List.set_cons_zero, List.set_cons_succ]
        refine wpAnyH_take (i := 12) (oi := { dst := some 47, op := Op.move (Operand.tmp 0), type := 22, pos := "law.go:69", after := #[{ on := 9, ground := Ground.guard }], guard := some (9, false) }) (v := ?_) rfl (by as_aux_lemma => kernel_rfl) (by as_aux_lemma => kernel_rfl) (by as_aux_lemma => kernel_rfl) (fun _ _ _ h => h) (Or.inl ⟨by rfl, ?_⟩) (by assumption) ?_
        rotate_left
        · intro w' hSw
          try dsimp only at hSw
          go_simp
          try with_reducible rfl
        try simp only [Act.put, List.setIfInBounds_toArray, List.set_cons_zero, List.set_cons_succ]
        refine wpAnyH_take (i := 13) (oi := { dst := some 48, op := Op.move (Operand.tmp 5), type := 3, pos := "law.go:69", after := #[{ on := 9, ground := Ground.guard }], guard := some (9, false) }) (v := ?_) rfl (by as_aux_lemma => kernel_rfl) (by as_aux_lemma => kernel_rfl) (by as_aux_lemma => kernel_rfl) (fun _ _ _ h => h) (Or.inl ⟨by rfl, ?_⟩) (by assumption) ?_
        rotate_left
        · intro w' hSw
          try dsimp only at hSw
          go_simp
          try with_reducible rfl
        try simp only [Act.put, List.setIfInBounds_toArray, List.set_cons_zero, List.set_cons_succ]
        refine wpAnyH_take (i := 14) (oi := { dst := some 49, op := Op.indexAddr 22 (Operand.tmp 47) (Operand.tmp 48), type := 0, pos := "law.go:69", after := #[{ on := 12, ground := Ground.data }, { on := 13, ground := Ground.data }, { on := 9, ground := Ground.guard }], guard := some (9, false) }) (v := ?_) rfl (by as_aux_lemma => kernel_rfl) (by as_aux_lemma => kernel_rfl) (by as_aux_lemma => kernel_rfl) (fun _ _ _ h => h) (Or.inl ⟨by rfl, ?_⟩) (by assumption) ?_
        rotate_left
        · intro w' hSw
          try dsimp only at hSw
          go_simp
          try with_reducible rfl
        try simp only [Act.put, List.setIfInBounds_toArray, List.set_cons_zero, List.set_cons_succ]
        refine wpAnyH_take (i := 15) (oi := { dst := some 50, op := Op.load 43 (Operand.tmp 49), type := 43, pos := "law.go:69", after := #[{ on := 14, ground := Ground.data }, { on := 9, ground := Ground.guard }], guard := some (9, false) }) (v := ?_) rfl (by as_aux_lemma => kernel_rfl) (by as_aux_lemma => kernel_rfl) (by as_aux_lemma => kernel_rfl) (fun _ _ _ h => h) (Or.inl ⟨by rfl, ?_⟩) (by assumption) ?_
        rotate_left
        · intro w' hSw
          try dsimp only at hSw
          go_simp
          try with_reducible rfl
        try simp only [Act.put, List.setIfInBounds_toArray, List.set_cons_zero, List.set_cons_succ]
        refine wpAnyH_ready (rs := [16]) (by as_aux_lemma => kernel_rfl) (by simp) ?_
        refine AllReadyH.cons (o := { dst := some 51, op := Op.call { callee := Callee.value (Operand.func 20), args := #[Operand.tmp 45, Operand.tmp 46, Operand.tmp 50], argTypes := #[23, 25, 43] }, type := 4, pos := "law.go:69", after := #[{ on := 10, ground := Ground.data }, { on := 11, ground := Ground.data }, { on := 15, ground := Ground.data }, { on := 9, ground := Ground.chain }, { on := 9, ground := Ground.guard }], guard := some (9, false) }) rfl (fun Kx hK => ?_) AllReadyH.nil
        go_simp
        refine (does_any H6.out K6.out HL3.out t id r0 r1 r2 hid).mono ?_
        rintro e w7 ⟨v7, u7, rfl, h7, k7, b7, f7⟩
        obtain ⟨a7, c7, eu⟩ := own_len k7.own
        rw [HN.out] at eu
        subst eu
        have H7 : Hid (HpAt w7 w.heap.size B v7 M (scStep (scRun (l.take k)) ⟨t, id, r0, r1, r2⟩)) := Lib.hid h7
        have K7 : Hid (KAt w7 w.heap.size K (.slice a7 n c7) (scStep (scRun (l.take k)) ⟨t, id, r0, r1, r2⟩)) := Lib.hid k7
        have B7 : Hid (Below w.heap.size w w7) := Lib.hid (B6.out.trans b7)
        have kc : w7.cell? ⟨K, 0, none⟩ = some (.slice a7 n c7) := k7.cell.1
        have E6 : Hid (CellsAt w7 P6 0 (slVals ⟨i, a0, a1, a2⟩)) := Lib.hid (D6.out.block (f7 P6 q6 Y6'.out Z6'.out))
        have E8 : Hid (CellsAt w7 P8 0 (slVals ⟨i, a0, a1, a2⟩)) := Lib.hid (D8.out.block (f7 P8 q8 Y8.out Z8.out))
        have EO : Hid (CellsAt w7 b (off + k * 5) (opVals ⟨t, id, r0, r1, r2⟩)) := Lib.hid (DO.out.block (b7.block b hbw))
        clear h7 k7 b7 f7 p0 p1 p2 p3 p4 p5 p6 p7 p8 p9 p10 p11 p12
        obtain ⟨j0, j1, j2, j3⟩ := cells4 (E6.out)
        obtain ⟨j4, j5, j6, j7⟩ := cells4 (E8.out)
        obtain ⟨j8, j9, j10, j11, j12⟩ := cells5o (EO.out)
        simp only [Nat.zero_add] at j0 j1 j2 j3 j4 j5 j6 j7
        go_wp2_with fail
        refine hK.out _ _ ?_ (fun hHeld2 => ?_)
        · exact ⟨j0, j1, j2, j3, j4, j5, j6, j7, j8, j9, j10, j11, j12⟩
        clear hK Kx hHeld
        have hHeld := hHeld2
        clear hHeld2
        try simp only [Act.put, List.setIfInBounds_toArray, List.set_cons_zero, List.set_cons_succ]
        refine wpAnyH_take (i := 17) (oi := { dst := some 52, op := Op.unOp UnOp.not 4 (Operand.tmp 51), type := 4, pos := "law.go:69", after := #[{ on := 16, ground := Ground.data }, { on := 9, ground := Ground.guard }], guard := some (9, false) }) (v := ?_) rfl (by as_aux_lemma => kernel_rfl) (by as_aux_lemma => kernel_rfl) (by as_aux_lemma => kernel_rfl) (fun _ _ _ h => h) (Or.inl ⟨by rfl, ?_⟩) (by assumption) ?_
        rotate_left
        · intro w' hSw
          try dsimp only at hSw
          go_simp
          try with_reducible rfl
        try simp only [Act.put, List.setIfInBounds_toArray, List.set_cons_zero, List.set_cons_succ]
        refine wpAnyH_take (i := 18) (oi := { dst := some 53, op := Op.pick (Operand.tmp 44) (Operand.const (Value.bool true)) (Operand.tmp 52), type := 4, pos := "law.go:69", after := #[{ on := 9, ground := Ground.data }, { on := 17, ground := Ground.data }], guard := none }) (v := ?_) rfl (by as_aux_lemma => kernel_rfl) (by as_aux_lemma => kernel_rfl) (by as_aux_lemma => kernel_rfl) (fun _ _ _ h => h) (Or.inl ⟨by rfl, ?_⟩) (by assumption) ?_
        rotate_left
        · intro w' hSw
          try dsimp only at hSw
          go_simp
          try with_reducible rfl
        try simp only [Act.put, List.setIfInBounds_toArray, List.set_cons_zero, List.set_cons_succ]
        refine wpAnyH_take (i := 19) (oi := { dst := some 54, op := Op.move (Operand.tmp 53), type := 4, pos := "law.go:69", after := #[{ on := 18, ground := Ground.data }, { on := 16, ground := Ground.chain }], guard := none }) (v := ?_) rfl (by as_aux_lemma => kernel_rfl) (by as_aux_lemma => kernel_rfl) (by as_aux_lemma => kernel_rfl) (fun _ _ _ h => h) (Or.inl ⟨by rfl, ?_⟩) (by assumption) ?_
        rotate_left
        · intro w' hSw
          try dsimp only at hSw
          go_simp
          try with_reducible rfl
        try simp only [Act.put, List.setIfInBounds_toArray, List.set_cons_zero, List.set_cons_succ]
        refine wpAnyH_take (i := 20) (oi := { dst := some 55, op := Op.move (Operand.tmp 3), type := 23, pos := "law.go:69", after := #[{ on := 19, ground := Ground.guard }], guard := some (19, false) }) (v := ?_) rfl (by as_aux_lemma => kernel_rfl) (by as_aux_lemma => kernel_rfl) (by as_aux_lemma => kernel_rfl) (fun _ _ _ h => h) (Or.inl ⟨by rfl, ?_⟩) (by assumption) ?_
        rotate_left
        · intro w' hSw
          try dsimp only at hSw
          go_simp
          try with_reducible rfl
        try simp only [Act.put, List.setIfInBounds_toArray, List.set_cons_zero, List.set_cons_succ]
        refine wpAnyH_take (i := 22) (oi := { dst := some 57, op := Op.move (Operand.tmp 4), type := 25, pos := "law.go:69", after := #[{ on := 19, ground := Ground.guard }], guard := some (19, false) }) (v := ?_) rfl (by as_aux_lemma => kernel_rfl) (by as_aux_lemma => kernel_rfl) (by as_aux_lemma => kernel_rfl) (fun _ _ _ h => h) (Or.inl ⟨by rfl, ?_⟩) (by assumption) ?_
        rotate_left
        · intro w' hSw
          try dsimp only at hSw
          go_simp
          try with_reducible rfl
        try simp only [Act.put, List.setIfInBounds_toArray, List.set_cons_zero, List.set_cons_succ]
        refine wpAnyH_take (i := 23) (oi := { dst := some 58, op := Op.nilCheck (Operand.tmp 57), type := 0, pos := "law.go:69", after := #[{ on := 22, ground := Ground.data }, { on := 19, ground := Ground.guard }], guard := some (19, false) }) (v := ?_) rfl (by as_aux_lemma => kernel_rfl) (by as_aux_lemma => kernel_rfl) (by as_aux_lemma => kernel_rfl) (fun _ _ _ h => h) (Or.inl ⟨by rfl, ?_⟩) (by assumption) ?_
        rotate_left
        · intro w' hSw
          try dsimp only at hSw
          go_simp
          try with_reducible rfl
        try simp only [Act.put, List.setIfInBounds_toArray, List.set_cons_zero, List.set_cons_succ]
        refine wpAnyH_take (i := 24) (oi := { dst := some 59, op := Op.fieldAddr 28 (Operand.tmp 58) 0, type := 0, pos := "law.go:69", after := #[{ on := 23, ground := Ground.data }, { on := 19, ground := Ground.guard }], guard := some (19, false) }) (v := ?_) rfl (by as_aux_lemma => kernel_rfl) (by as_aux_lemma => kernel_rfl) (by as_aux_lemma => kernel_rfl) (fun _ _ _ h => h) (Or.inl ⟨by rfl, ?_⟩) (by assumption) ?_
        rotate_left
        · intro w' hSw
          try dsimp only at hSw
          go_simp
          try with_reducible rfl
        try simp only [Act.put, List.setIfInBounds_toArray, List.set_cons_zero, List.set_cons_succ]
        refine wpAnyH_ready (rs := [21, 25]) (by as_aux_lemma => kernel_rfl) (by simp) ?_
        refine AllReadyH.cons (o := { dst := some 56, op := Op.call { callee := Callee.value (Operand.func 21), args := #[Operand.tmp 55], argTypes := #[23] }, type := 3, pos := "law.go:69", after := #[{ on := 20, ground := Ground.data }, { on := 19, ground := Ground.chain }, { on := 19, ground := Ground.guard }], guard := some (19, false) }) rfl (fun Kx hK => ?_) (AllReadyH.cons (o := { dst := some 60, op := Op.load 26 (Operand.tmp 59), type := 26, pos := "law.go:69", after := #[{ on := 24, ground := Ground.data }, { on := 19, ground := Ground.guard }], guard := some (19, false) }) rfl (fun Kx hK => ?_) AllReadyH.nil)
        rotate_left
        go_simp
        refine hK.out _ _ ?_ (fun hHeld2 => ?_)
        · exact ⟨j0, j1, j2, j3, j4, j5, j6, j7, j8, j9, j10, j11, j12⟩
        clear hK Kx hHeld
        have hHeld := hHeld2
        clear hHeld2
        try simp only [Act.put, List.setIfInBounds_toArray, List.set_cons_zero, List.set_cons_succ]
        refine wpAnyH_take (i := 26) (oi := { dst := some 61, op := Op.call { callee := Callee.builtin Builtin.len, args := #[Operand.tmp 60], argTypes := #[26] }, type := 3, pos := "law.go:69", after := #[{ on := 25, ground := Ground.data }, { on := 19, ground := Ground.guard }], guard := some (19, false) }) (v := ?_) rfl (by as_aux_lemma => kernel_rfl) (by as_aux_lemma => kernel_rfl) (by as_aux_lemma => kernel_rfl) (fun _ _ _ h => h) (Or.inl ⟨by rfl, ?_⟩) (by assumption) ?_
        rotate_left
        · intro w' hSw
          try dsimp only at hSw
          go_simp
          try with_reducible rfl
        try simp only [Act.put, List.setIfInBounds_toArray, List.set_cons_zero, List.set_cons_succ]
        refine wpAnyH_ready (rs := [21]) (by as_aux_lemma => kernel_rfl) (by simp) ?_
        refine AllReadyH.cons (o := { dst := some 56, op := Op.call { callee := Callee.value (Operand.func 21), args := #[Operand.tmp 55], argTypes := #[23] }, type := 3, pos := "law.go:69", after := #[{ on := 20, ground := Ground.data }, { on := 19, ground := Ground.chain }, { on := 19, ground := Ground.guard }], guard := some (19, false) }) rfl (fun Kx hK => ?_) AllReadyH.nil
        go_simp
        refine (hp_len H7.out HN.out).mono ?_
        rintro e w8 ⟨rfl, rfl⟩
        go_wp2_with fail
        refine hK.out _ _ ?_ (fun hHeld2 => ?_)
        · exact ⟨j0, j1, j2, j3, j4, j5, j6, j7, j8, j9, j10, j11, j12⟩
        clear hK Kx hHeld
        have hHeld := hHeld2
        clear hHeld2
        try simp only [Act.put, List.setIfInBounds_toArray, List.set_cons_zero, List.set_cons_succ]
        refine wpAnyH_take (i := 27) (oi := { dst := some 62, op := Op.binOp BinOp.neq 3 (Operand.tmp 56) (Operand.tmp 61) 3, type := 4, pos := "law.go:69", after := #[{ on := 21, ground := Ground.data }, { on := 26, ground := Ground.data }, { on := 19, ground := Ground.guard }], guard := some (19, false) }) (v := ?_) rfl (by as_aux_lemma => kernel_rfl) (by as_aux_lemma => kernel_rfl) (by as_aux_lemma => kernel_rfl) (fun _ _ _ h => h) (Or.inl ⟨by rfl, ?_⟩) (by assumption) ?_
        rotate_left
        · intro w' hSw
          try dsimp only at hSw
          go_simp
          try with_reducible rfl
        try simp only [Act.put, List.setIfInBounds_toArray, List.set_cons_zero, List.set_cons_succ]
        refine wpAnyH_take (i := 28) (oi := { dst := some 63, op := Op.pick (Operand.tmp 54) (Operand.const (Value.bool true)) (Operand.tmp 62), type := 4, pos := "law.go:69", after := #[{ on := 19, ground := Ground.data }, { on := 27, ground := Ground.data }], guard := none }) (v := ?_) rfl (by as_aux_lemma => kernel_rfl) (by as_aux_lemma => kernel_rfl) (by as_aux_lemma => kernel_rfl) (fun _ _ _ h => h) (Or.inl ⟨by rfl, ?_⟩) (by assumption) ?_
        rotate_left
        · intro w' hSw
          try dsimp only at hSw
          go_simp
          try with_reducible rfl
        try simp only [Act.put, List.setIfInBounds_toArray, List.set_cons_zero, List.set_cons_succ]
        refine wpAnyH_done (by kernel_rfl) ?_ _
        rotate_left
        go_simp
        refine (hp_len H7.out HN.out).mono ?_
        rintro e w8 ⟨rfl, rfl⟩
        go_wp2_with fail
        refine hK.out _ _ ?_ (fun hHeld2 => ?_)
        · exact ⟨j0, j1, j2, j3, j4, j5, j6, j7, j8, j9, j10, j11, j12⟩
        clear hK Kx hHeld
        have hHeld := hHeld2
        clear hHeld2
        try simp only [Act.put, List.setIfInBounds_toArray, List.set_cons_zero, List.set_cons_succ]
        refine wpAnyH_ready (rs := [25]) (by as_aux_lemma => kernel_rfl) (by simp) ?_
        refine AllReadyH.cons (o := { dst := some 60, op := Op.load 26 (Operand.tmp 59), type := 26, pos := "law.go:69", after := #[{ on := 24, ground := Ground.data }, { on := 19, ground := Ground.guard }], guard := some (19, false) }) rfl (fun Kx hK => ?_) AllReadyH.nil
        go_simp
        refine hK.out _ _ ?_ (fun hHeld2 => ?_)
        · exact ⟨j0, j1, j2, j3, j4, j5, j6, j7, j8, j9, j10, j11, j12⟩
        clear hK Kx hHeld
        have hHeld := hHeld2
        clear hHeld2
        try simp only [Act.put, List.setIfInBounds_toArray, List.set_cons_zero, List.set_cons_succ]
        refine wpAnyH_take (i := 26) (oi := { dst := some 61, op := Op.call { callee := Callee.builtin Builtin.len, args := #[Operand.tmp 60], argTypes := #[26] }, type := 3, pos := "law.go:69", after := #[{ on := 25, ground := Ground.data }, { on := 19, ground := Ground.guard }], guard := some (19, false) }) (v := ?_) rfl (by as_aux_lemma => kernel_rfl) (by as_aux_lemma => kernel_rfl) (by as_aux_lemma => kernel_rfl) (fun _ _ _ h => h) (Or.inl ⟨by rfl, ?_⟩) (by assumption) ?_
        rotate_left
        · intro w' hSw
          try dsimp only at hSw
          go_simp
          try with_reducible rfl
        try simp only [Act.put, List.setIfInBounds_toArray, List.set_cons_zero, List.set_cons_succ]
        refine wpAnyH_take (i := 27) (oi := { dst := some 62, op := Op.binOp BinOp.neq 3 (Operand.tmp 56) (Operand.tmp 61) 3, type := 4, pos := "law.go:69", after := #[{ on := 21, ground := Ground.data }, { on := 26, ground := Ground.data }, { on := 19, ground := Ground.guard }], guard := some (19, false) }) (v := ?_) rfl (by as_aux_lemma => kernel_rfl) (by as_aux_lemma => kernel_rfl) (by as_aux_lemma => kernel_rfl) (fun _ _ _ h => h) (Or.inl ⟨by rfl, ?_⟩) (by assumption) ?_
        rotate_left
        · intro w' hSw
          try dsimp only at hSw
          go_simp
          try with_reducible rfl
        try simp only [Act.put, List.setIfInBounds_toArray, List.set_cons_zero, List.set_cons_succ]
        refine wpAnyH_take (i := 28) (oi := { dst := some 63, op := Op.pick (Operand.tmp 54) (Operand.const (Value.bool true)) (Operand.tmp 62), type := 4, pos := "law.go:69", after := #[{ on := 19, ground := Ground.data }, { on := 27, ground := Ground.data }], guard := none }) (v := ?_) rfl (by as_aux_lemma => kernel_rfl) (by as_aux_lemma => kernel_rfl) (by as_aux_lemma => kernel_rfl) (fun _ _ _ h => h) (Or.inl ⟨by rfl, ?_⟩) (by assumption) ?_
        rotate_left
        · intro w' hSw
          try dsimp only at hSw
          go_simp
          try with_reducible rfl
        try simp only [Act.put, List.setIfInBounds_toArray, List.set_cons_zero, List.set_cons_succ]
        refine wpAnyH_done (by kernel_rfl) ?_ _
        all_goals
          have H8 := Lib.hid (show HpAt w7 w.heap.size B v7 M (scRun (l.take (k + 1))) by rw [HNX.out]; exact H7.out)
          have K8 := Lib.hid (show KAt w7 w.heap.size K (.slice a7 n c7) (scRun (l.take (k + 1))) by rw [HNX.out]; exact K7.out)
          clear H7 K7 E6 E8 D6 D8 H6 K6 B6 H5 K5 B5 CX CY Y6' Z6' Y8 Z8 hHeld kc j0 j1 j2 j3 j4 j5 j6 j7 HN q6 q8
          by_cases h0 : 0 < k
          · obtain ⟨m, hkm⟩ : ∃ m : Nat, k = m + 1 := ⟨k - 1, by omega⟩
            have t3 : decide ((0 : Int) < (k : Int)) = true := by simp; omega
            have t8 : decide (0 < k) = true := by simpa using h0
            have em : (k : Int) - 1 = (m : Int) := by omega
            have t6 : (0 : Int) ≤ (m : Int) := by omega
            have t7 : (m : Int) < (l.length : Int) := by omega
            obtain ⟨b', off', e', hc'⟩ := HV.out.1.row B7.out m (by omega)
            rw [Option.some.injEq, Addr.mk.injEq] at e'
            obtain ⟨rfl, rfl, -⟩ := e'
            obtain ⟨⟨pt, pid, p0, p1, p2⟩, hp⟩ : ∃ r, l.getD m HOp.zero = r := ⟨_, rfl⟩
            rw [hp] at hc'
            obtain ⟨x0, x1, x2, x3, x4⟩ := cells5o hc'
            try simp only at x0 x1 x2 x3 x4
            obtain ⟨y0, y1, y2, y3, y4⟩ := cells5o EO.out
            try simp only at y0 y1 y2 y3 y4
            replace x1 := cell_regrown x1
            replace x2 := cell_regrown x2
            replace x3 := cell_regrown x3
            replace x4 := cell_regrown x4
            replace y1 := cell_regrown y1
            replace y2 := cell_regrown y2
            replace y3 := cell_regrown y3
            replace y4 := cell_regrown y4
            obtain ⟨q, hq⟩ : ∃ q, slBet ⟨id, r0, r1, r2⟩ ⟨pid, p0, p1, p2⟩ = q := ⟨_, rfl⟩
            have G1 : Hid (∀ w, Calls Try.prog 22 #[.agg #[.int .i64 id, .int .i64 r0, .int .i64 r1, .int .i64 r2], .agg #[.int .i64 pid, .int .i64 p0, .int .i64 p1, .int .i64 p2]] w fun e w' => e = .returned (.bool q) ∧ Below w.heap.size w w') := by
              have := better_any id r0 r1 r2 pid p0 p1 p2
              rw [hq] at this
              exact Lib.hid this
            have G2 := Lib.hid (rbetter_eq id r0 r1 r2 pid p0 p1 p2 hq)
            clear hkm hp hc' hq x0 y0 j8 j9 j10 j11 j12 h0 EO DO
            go_wp2_with fail
            refine wp_region_quiet_below (by kernel_rfl) (by kernel_rfl) ?_
            repeat (go_big_quiet_step (first | with_reducible exact rgB G1.out _ _ _ | with_reducible exact rgB G2.out _ _ _))
            refine wpQuiet_nil ?_
            intro w9 hw
            have b9 := regrownZ hw
            have H9 := Lib.hid (H8.out.later b9)
            have K9 := Lib.hid (K8.out.later b9)
            have B9 := Lib.hid (below2Z B7.out b9)
            clear hw b9 x1 x2 x3 x4 y1 y2 y3 y4
            go_wp2_with fail
            go_roundw
            case rel => exact ⟨k + 1, v7, .slice a7 n c7, by omega, by go_num, HL2, H9, K9, B9⟩
            case measure => simp [intOf]; omega
          · have t3 : decide ((0 : Int) < (k : Int)) = false := by simp; omega
            have t8 : decide (0 < k) = false := by simpa using h0
            clear h0 j8 j9 j10 j11 j12 EO DO
            go_wp2_with fail
            refine wp_region_quiet_below (by kernel_rfl) (by kernel_rfl) ?_
            go_big_quiet_step (fail)
            go_big_quiet_step (fail)
            go_big_quiet_step (fail)
            repeat (go_big_quiet_step (fail))
            refine wpQuiet_nil ?_
            intro w9 hw
            have b9 := regrownZ hw
            have H9 := Lib.hid (H8.out.later b9)
            have K9 := Lib.hid (K8.out.later b9)
            have B9 := Lib.hid (below2Z B7.out b9)
            clear hw b9
            go_wp2_with fail
            go_roundw
            case rel => exact ⟨k + 1, v7, .slice a7 n c7, by omega, by go_num, HL2, H9, K9, B9⟩
            case measure => simp [intOf]; omega
        -- behind the region
      · obtain rfl : k = l.length := by omega
        go_wp2_with fail
        refine (live10 _).mono ?_
        rintro e w3 ⟨rfl, b3⟩
        have B3 := Lib.hid (below2Z HB.out b3)
        clear b3
        go_wp2_with fail
        go_ret
        exact ⟨rfl, B3.out⟩
  · have t0 : decide (100 < (l.length : Int)) = true := by simp; omega
    go_enter Try.func3, Try.ntmps3
    go_wp2_with fail
    refine (hp_new _).mono ?_
    rintro e w1 ⟨B, v1, M, rfl, h1, b1⟩
    have B2 := Lib.hid (below2Z b1 (bl_newZ w1 (.cells #[.slice none 0 0] 28)))
    clear h1 b1
    go_wp2_with fail
    refine (live10 _).mono ?_
    rintro e w3 ⟨rfl, b3⟩
    have B3 := Lib.hid (below2Z B2.out b3)
    clear b3
    go_wp2_with fail
    go_ret
    exact ⟨rfl, B3.out⟩

end Go.Proofs.Ytocljhbkjengpaa
