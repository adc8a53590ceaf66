/-
  LAYER 22: the document's Send, Take, Drop, Twice.
-/
import Derived.Test.YtlebgpgcklfhaaaNetTake
namespace Go.Proofs.Ytlebgpgcklfhaaa
open Go.RowKit

set_option maxHeartbeats 1600000 in
set_option maxRecDepth 100000 in
theorem nrsend_any {w : World} {v u : Value} {ls ms : List (List UInt8)} (hv : Texts w v ls) (hu : Texts w u ms) (hl : ls.length + ms.length ≤ 1000) :
    Calls Try.prog 22 #[v, u] w fun e w' => ∃ x, e = .returned x ∧ Texts w' x (ls ++ ms) ∧ Below w.heap.size w w' := by
  have h1 : ls.length ≤ 1000 := by omega
  have h2 : ms.length ≤ 1000 := by omega
  obtain ⟨i0, hi, hz0, hz1, hz2⟩ := info_parts Try.infoStr
  have HV := Lib.hid (hv.later (bl_newZ w (.cells #[] 9)))
  have HU := Lib.hid hu
  obtain ⟨a, cap, rfl, _, _, _, _⟩ := hv
  obtain ⟨a2, cap2, rfl, _, _, _, _⟩ := hu
  have S1 := Lib.hid (texts_src HV.out)
  have O1 := Lib.hid (ownT_made w 9)
  go_enter Try.func22, Try.ntmps22
  go_wp2_with (at_builtin; go_must (refine wpList_append_texts rfl _ _ 22 rfl w.heap.size 9 i0 _ 16 Try.underlying22 hi hz0 hz1 hz2 rfl _ _ rfl (by exact O1.out) a ls.length cap ls rfl rfl S1.out.2.1 S1.out.2.2 (by first | omega | (simp; omega)) (by decide) (by simp) ?_))
  intro v2 w2 ho2 hb2
  have HB2 : Hid (Below w.heap.size w w2) := Lib.hid (((Below.refl w.heap.size w).alloc (Nat.le_refl _) _).trans hb2)
  have S2 := Lib.hid (texts_src (HU.out.later HB2.out))
  have hsz2 := HB2.out.size
  have O2 := Lib.hid ho2
  clear ho2 hb2
  go_wp2_with (at_builtin; go_must (refine wpList_append_texts rfl _ _ 22 rfl w.heap.size 9 i0 _ 16 Try.underlying22 hi hz0 hz1 hz2 rfl _ _ rfl (by exact O2.out) a2 ms.length cap2 ms rfl rfl S2.out.2.1 S2.out.2.2 (by first | omega | (simp; omega)) (by decide) hsz2 ?_))
  intro v3 w3 ho3 hb3
  have HB3 : Hid (Below w.heap.size w w3) := Lib.hid (HB2.out.trans hb3)
  have O3 := Lib.hid ho3.texts
  clear ho3 hb3
  go_wp2_with fail
  go_ret
  exact ⟨_, rfl, by have := O3.out; simpa using this, HB3.out⟩

theorem texts_one (w : World) (x : List UInt8) : Texts (w.alloc (.cells #[.string ⟨x.toArray⟩] 9)) (.slice (some ⟨w.heap.size, 0, none⟩) 1 1) [x] := by
  refine ⟨_, _, rfl, by simp, by decide, (fun e => by cases e), .inr ⟨w.heap.size, 0, rfl, by simp, fun i hi => ?_⟩⟩
  obtain rfl : i = 0 := by simpa using hi
  rw [World.cell?_alloc_at _ _ _ _ rfl]
  rfl

theorem ownT_fresh {X : World} {base n : Nat} (h : X.heap[n]? = some (.cells #[] 9 (0, 0))) (hb : base ≤ n) : OwnS txtVals 1 9 X base (.slice (some ⟨n, 0, none⟩) 0 0) [] := by
  unfold OwnS World.ownsRow
  exact ⟨by simp [cellsS], .inr ⟨n, 0, #[], rfl, hb, h, by simp, Nat.zero_le _, by simp, by simp [cellsS]⟩⟩

theorem texts_some {w : World} {b off l h m : Nat} {ls : List (List UInt8)} (ht : Texts w (sliced (some ⟨b, off, none⟩) l h m 1) ls) : ∃ x n c, sliced (some ⟨b, off, none⟩) l h m 1 = .slice (some x) n c ∧ n = ls.length := by
  obtain ⟨a', cap', e, _⟩ := ht
  unfold sliced at e ⊢
  simp only [Value.slice.injEq] at e
  by_cases hm : m = l
  · rw [if_pos hm] at e ⊢
    exact ⟨_, _, _, rfl, e.2.1⟩
  · rw [if_neg hm] at e ⊢
    exact ⟨_, _, _, rfl, e.2.1⟩

set_option maxHeartbeats 1600000 in
set_option maxRecDepth 100000 in
/-- P22.1, the document's. -/
theorem nrtake_yes {w : World} {v : Value} {ls : List (List UInt8)} (h : Texts w v ls) (hl : ls.length ≤ 1000) (k : Nat) (hk : k < ls.length) {x : List UInt8} (hx : ls.getD k [] = x) :
    Calls Try.prog 16 #[v, .int .i64 k] w fun e w' => ∃ u, e = .returned (.tuple #[.string ⟨x.toArray⟩, u, .int .i64 0]) ∧ Texts w' u (ls.take k ++ ls.drop (k + 1)) ∧ Below w.heap.size w w' := by
  have HV := Lib.hid h
  obtain ⟨a, cap, rfl, h1, h2, _, _⟩ := h
  obtain ⟨b, off, rfl, hcell⟩ := texts_at HV.out hk
  unfold encS at hcell
  rw [hx] at hcell
  have hw1 := wrap_succ (k := k) (by omega)
  have e1 := fun X => run_cut_h X (some ⟨b, off, none⟩) ls.length cap k (k : Int) rfl (by omega)
  have e2 := fun X => run_cut_l X (some ⟨b, off, none⟩) ls.length cap (k + 1) ((k : Int) + 1) (by omega) (by omega)
  have VA := texts_cut HV.out 0 k (by omega) (by omega)
  have VB := texts_cut HV.out (k + 1) ls.length (by omega) (by omega)
  have hd : (ls.drop (k + 1)).take (ls.length - (k + 1)) = ls.drop (k + 1) := List.take_of_length_le (by rw [List.length_drop]; omega)
  rw [hd] at VB
  rw [List.drop_zero, Nat.sub_zero] at VA
  have hl1 : (ls.take k).length ≤ 1000 := by rw [List.length_take]; omega
  have hl2 : (ls.drop (k + 1)).length ≤ 1000 := by rw [List.length_drop]; omega
  obtain ⟨xa, na, ca, ha, hna⟩ := texts_some VA
  obtain ⟨xb, nb, cb, hb, hnb⟩ := texts_some VB
  rw [ha] at e1 VA
  rw [hb] at e2 VB
  replace VA := Lib.hid VA
  replace VB := Lib.hid VB
  have t1 : decide ((k : Int) < 0) = false := by simp
  have t2 : decide ((ls.length : Int) ≤ (k : Int)) = false := by simp; omega
  replace hna := Lib.hid hna
  replace hnb := Lib.hid hnb
  clear hd hx ha hb
  go_enter Try.func16, Try.ntmps16
  go_wp2_with fail
  obtain ⟨BS, hBS⟩ : ∃ BS : List (Nat × List Value), BS = [] := ⟨_, rfl⟩
  have D0 := Lib.hid (show heldD w BS b (off + k) (.string ⟨x.toArray⟩) from ⟨by rw [hBS]; exact heldB_nil _, hcell⟩)
  have hqt : ∀ X, heldD X BS b (off + k) (.string ⟨x.toArray⟩) → X.cell? ⟨b, off + k, none⟩ = some (.string ⟨x.toArray⟩) := fun X hx => hx.2
  clear hBS
  have K0 : Hid (Below w.heap.size w w.drew) := Lib.hid (Below.refl _ _).drew
  refine wp_region_held_drew (S := (fun X => heldD X BS b (off + k) (.string ⟨x.toArray⟩))) (by kernel_rfl) ?_ (fun hHeld => ?_)
  · exact heldD_up K0.out D0.out
  generalize w.drew = z0 at K0 hHeld ⊢
  refine wpAnyH_take (i := 0) (oi := { dst := some 16, op := Op.move (Operand.tmp 0), type := 22, pos := "ref.go:14", after := #[], guard := none }) (v := ?_) rfl (by as_aux_lemma => kernel_rfl) (by as_aux_lemma => kernel_rfl) (by as_aux_lemma => kernel_rfl) (fun _ _ _ h => h) (Or.inl ⟨by rfl, ?_⟩) (by assumption) ?_
  rotate_left
  · intro w' hSw
    try dsimp only at hSw
    go_simp
    try with_reducible rfl
  try simp only [Act.put, List.setIfInBounds_toArray, List.set_cons_zero, List.set_cons_succ]
  refine wpAnyH_take (i := 1) (oi := { dst := some 17, op := Op.move (Operand.tmp 1), type := 3, pos := "ref.go:14", after := #[], guard := none }) (v := ?_) rfl (by as_aux_lemma => kernel_rfl) (by as_aux_lemma => kernel_rfl) (by as_aux_lemma => kernel_rfl) (fun _ _ _ h => h) (Or.inl ⟨by rfl, ?_⟩) (by assumption) ?_
  rotate_left
  · intro w' hSw
    try dsimp only at hSw
    go_simp
    try with_reducible rfl
  try simp only [Act.put, List.setIfInBounds_toArray, List.set_cons_zero, List.set_cons_succ]
  refine wpAnyH_take (i := 2) (oi := { dst := some 18, op := Op.indexAddr 22 (Operand.tmp 16) (Operand.tmp 17), type := 0, pos := "ref.go:14", after := #[{ on := 0, ground := Ground.data }, { on := 1, ground := Ground.data }], guard := none }) (v := ?_) rfl (by as_aux_lemma => kernel_rfl) (by as_aux_lemma => kernel_rfl) (by as_aux_lemma => kernel_rfl) (fun _ _ _ h => h) (Or.inl ⟨by rfl, ?_⟩) (by assumption) ?_
  rotate_left
  · intro w' hSw
    try dsimp only at hSw
    go_simp
    try with_reducible rfl
  try simp only [Act.put, List.setIfInBounds_toArray, List.set_cons_zero, List.set_cons_succ]
  refine wpAnyH_take (i := 3) (oi := { dst := some 19, op := Op.load 9 (Operand.tmp 18), type := 9, pos := "ref.go:14", after := #[{ on := 2, ground := Ground.data }], guard := none }) (v := ?_) rfl (by as_aux_lemma => kernel_rfl) (by as_aux_lemma => kernel_rfl) (by as_aux_lemma => kernel_rfl) (fun _ _ _ h => h) (Or.inl ⟨by rfl, ?_⟩) (by assumption) ?_
  rotate_left
  · intro w' hSw
    try dsimp only at hSw
    go_simp
    try with_reducible rfl
  try simp only [Act.put, List.setIfInBounds_toArray, List.set_cons_zero, List.set_cons_succ]
  refine wpAnyH_take (i := 5) (oi := { dst := some 21, op := Op.move (Operand.tmp 0), type := 22, pos := "ref.go:14", after := #[], guard := none }) (v := ?_) rfl (by as_aux_lemma => kernel_rfl) (by as_aux_lemma => kernel_rfl) (by as_aux_lemma => kernel_rfl) (fun _ _ _ h => h) (Or.inl ⟨by rfl, ?_⟩) (by assumption) ?_
  rotate_left
  · intro w' hSw
    try dsimp only at hSw
    go_simp
    try with_reducible rfl
  try simp only [Act.put, List.setIfInBounds_toArray, List.set_cons_zero, List.set_cons_succ]
  refine wpAnyH_take (i := 6) (oi := { dst := some 22, op := Op.move (Operand.tmp 1), type := 3, pos := "ref.go:14", after := #[], guard := none }) (v := ?_) rfl (by as_aux_lemma => kernel_rfl) (by as_aux_lemma => kernel_rfl) (by as_aux_lemma => kernel_rfl) (fun _ _ _ h => h) (Or.inl ⟨by rfl, ?_⟩) (by assumption) ?_
  rotate_left
  · intro w' hSw
    try dsimp only at hSw
    go_simp
    try with_reducible rfl
  try simp only [Act.put, List.setIfInBounds_toArray, List.set_cons_zero, List.set_cons_succ]
  refine wpAnyH_take (i := 7) (oi := { dst := some 23, op := Op.slice 22 (Operand.tmp 21) none (some (Operand.tmp 22)) none, type := 22, pos := "ref.go:14", after := #[{ on := 5, ground := Ground.data }, { on := 6, ground := Ground.data }], guard := none }) (v := ?_) rfl (by as_aux_lemma => kernel_rfl) (by as_aux_lemma => kernel_rfl) (by as_aux_lemma => kernel_rfl) (fun _ _ _ h => h) (Or.inl ⟨by rfl, ?_⟩) (by assumption) ?_
  rotate_left
  · intro w' hSw
    try dsimp only at hSw
    go_simp
    try with_reducible rfl
  try simp only [Act.put, List.setIfInBounds_toArray, List.set_cons_zero, List.set_cons_succ]
  refine wpAnyH_take (i := 9) (oi := { dst := some 25, op := Op.move (Operand.tmp 0), type := 22, pos := "ref.go:14", after := #[], guard := none }) (v := ?_) rfl (by as_aux_lemma => kernel_rfl) (by as_aux_lemma => kernel_rfl) (by as_aux_lemma => kernel_rfl) (fun _ _ _ h => h) (Or.inl ⟨by rfl, ?_⟩) (by assumption) ?_
  rotate_left
  · intro w' hSw
    try dsimp only at hSw
    go_simp
    try with_reducible rfl
  try simp only [Act.put, List.setIfInBounds_toArray, List.set_cons_zero, List.set_cons_succ]
  refine wpAnyH_take (i := 10) (oi := { dst := some 26, op := Op.move (Operand.tmp 1), type := 3, pos := "ref.go:14", after := #[], guard := none }) (v := ?_) rfl (by as_aux_lemma => kernel_rfl) (by as_aux_lemma => kernel_rfl) (by as_aux_lemma => kernel_rfl) (fun _ _ _ h => h) (Or.inl ⟨by rfl, ?_⟩) (by assumption) ?_
  rotate_left
  · intro w' hSw
    try dsimp only at hSw
    go_simp
    try with_reducible rfl
  try simp only [Act.put, List.setIfInBounds_toArray, List.set_cons_zero, List.set_cons_succ]
  refine wpAnyH_take (i := 11) (oi := { dst := some 27, op := Op.binOp BinOp.add 3 (Operand.tmp 26) (Operand.const (Value.int IntKind.i64 1)) 3, type := 3, pos := "ref.go:14", after := #[{ on := 10, ground := Ground.data }], guard := none }) (v := ?_) rfl (by as_aux_lemma => kernel_rfl) (by as_aux_lemma => kernel_rfl) (by as_aux_lemma => kernel_rfl) (fun _ _ _ h => h) (Or.inl ⟨by rfl, ?_⟩) (by assumption) ?_
  rotate_left
  · intro w' hSw
    try dsimp only at hSw
    go_simp
    try with_reducible rfl
  try simp only [Act.put, List.setIfInBounds_toArray, List.set_cons_zero, List.set_cons_succ]
  refine wpAnyH_take (i := 12) (oi := { dst := some 28, op := Op.slice 22 (Operand.tmp 25) (some (Operand.tmp 27)) none none, type := 22, pos := "ref.go:14", after := #[{ on := 9, ground := Ground.data }, { on := 11, ground := Ground.data }], guard := none }) (v := ?_) rfl (by as_aux_lemma => kernel_rfl) (by as_aux_lemma => kernel_rfl) (by as_aux_lemma => kernel_rfl) (fun _ _ _ h => h) (Or.inl ⟨by rfl, ?_⟩) (by assumption) ?_
  rotate_left
  · intro w' hSw
    try dsimp only at hSw
    go_simp
    try with_reducible rfl
  try simp only [Act.put, List.setIfInBounds_toArray, List.set_cons_zero, List.set_cons_succ]
  refine wpAnyH_ready (rs := [4]) (by as_aux_lemma => kernel_rfl) (by simp) ?_
  refine AllReadyH.cons (o := { dst := some 20, op := Op.buildSlice 22 0 #[], type := 22, pos := "ref.go:14", after := #[], guard := none }) rfl (fun Kx hK => ?_) AllReadyH.nil
  go_simp
  refine hK.out _ _ ?_ (fun hHeld2 => ?_)
  · exact heldD_up (below2Z K0.out (bl_newZ _ _)) D0.out
  clear hK Kx hHeld
  have hHeld := hHeld2
  clear hHeld2
  try simp only [Act.put, List.setIfInBounds_toArray, List.set_cons_zero, List.set_cons_succ]
  have bz1 := bl_newZ z0 (.cells #[] 9)
  have K1 := Lib.hid (below2Z K0.out bz1)
  have D1 := Lib.hid (heldD_up K1.out D0.out)
  have nz1 := Lib.hid ((MapKept.heap_alloc z0 (.cells #[] 9)).1)
  have hB1 : w.heap.size ≤ z0.heap.size := (K0.out).size
  clear bz1
  generalize z0.alloc (.cells #[] 9) = z1 at K1 D1 nz1 hHeld ⊢
  generalize z0.heap.size = B1 at nz1 hB1  ⊢
  refine wpAnyH_ready (rs := [8]) (by as_aux_lemma => kernel_rfl) (by simp) ?_
  refine AllReadyH.cons (o := { dst := some 24, op := Op.call { callee := Callee.builtin Builtin.append, args := #[Operand.tmp 20, Operand.tmp 23], argTypes := #[22, 22] }, type := 22, pos := "ref.go:14", after := #[{ on := 4, ground := Ground.data }, { on := 7, ground := Ground.data }], guard := none }) rfl (fun Kx hK => ?_) AllReadyH.nil
  have OE : Hid (OwnS txtVals 1 9 z1 w.heap.size (.slice (some ⟨B1, 0, none⟩) 0 0) []) := Lib.hid (ownT_fresh nz1.out hB1)
  have SA := Lib.hid ((VA.out.later K1.out).rd.src txtOK)
  have hbs := (K1.out).size
  refine step_append_T rfl (.tmp 20) (.tmp 23) rfl w.heap.size _ [] (by simp [Act.eval]; done) OE.out xa na ca (ls.take k) (by simp [Act.eval]; done) hna.out SA.out (by simp only [List.length_nil]; omega) hbs ?_
  intro v1 z2 ho1 hbl1
  have O1 := Lib.hid ho1
  have Q1 : Hid (Below w.heap.size w z2) := Lib.hid ((K1.out).trans hbl1)
  clear ho1 hbl1 OE SA hbs
  have D2 := Lib.hid (heldD_up Q1.out D0.out)
  go_simp
  refine hK.out _ _ ?_ (fun hHeld2 => ?_)
  · exact D2.out
  clear hK Kx hHeld
  have hHeld := hHeld2
  clear hHeld2
  try simp only [Act.put, List.setIfInBounds_toArray, List.set_cons_zero, List.set_cons_succ]
  refine wpAnyH_ready (rs := [13]) (by as_aux_lemma => kernel_rfl) (by simp) ?_
  refine AllReadyH.cons (o := { dst := some 29, op := Op.call { callee := Callee.builtin Builtin.append, args := #[Operand.tmp 24, Operand.tmp 28], argTypes := #[22, 22] }, type := 22, pos := "ref.go:14", after := #[{ on := 8, ground := Ground.data }, { on := 12, ground := Ground.data }, { on := 8, ground := Ground.chain }], guard := none }) rfl (fun Kx hK => ?_) AllReadyH.nil
  have SB := Lib.hid ((VB.out.later Q1.out).rd.src txtOK)
  have hbs := Q1.out.size
  refine step_append_T rfl (.tmp 24) (.tmp 28) rfl w.heap.size _ ([] ++ ls.take k) (by simp [Act.eval]; done) O1.out xb nb cb (ls.drop (k + 1)) (by simp [Act.eval]; done) hnb.out SB.out (by simp only [List.nil_append]; omega) hbs ?_
  intro v2 z3 ho2 hbl2
  have O2 := Lib.hid (ownT_of ho2).texts
  have Q2 : Hid (Below w.heap.size w z3) := Lib.hid (Q1.out.trans hbl2)
  clear ho2 hbl2 O1 SB hbs
  have D3 := Lib.hid (heldD_up Q2.out D0.out)
  go_simp
  refine hK.out _ _ ?_ (fun hHeld2 => ?_)
  · exact D3.out
  clear hK Kx hHeld
  have hHeld := hHeld2
  clear hHeld2
  try simp only [Act.put, List.setIfInBounds_toArray, List.set_cons_zero, List.set_cons_succ]
  refine wpAnyH_take (i := 14) (oi := { dst := some 4, op := Op.assign (Operand.tmp 19), type := 9, pos := "ref.go:14", after := #[{ on := 3, ground := Ground.data }, { on := 13, ground := Ground.chain }, { on := 0, ground := Ground.phase }, { on := 1, ground := Ground.phase }, { on := 2, ground := Ground.phase }, { on := 3, ground := Ground.phase }, { on := 4, ground := Ground.textOnly Departure.lateStores }, { on := 5, ground := Ground.textOnly Departure.lateStores }, { on := 6, ground := Ground.textOnly Departure.lateStores }, { on := 7, ground := Ground.textOnly Departure.lateStoresUnsure }, { on := 8, ground := Ground.textOnly Departure.lateStoresUnsure }, { on := 9, ground := Ground.textOnly Departure.lateStores }, { on := 10, ground := Ground.textOnly Departure.lateStores }, { on := 11, ground := Ground.textOnly Departure.lateStores }, { on := 12, ground := Ground.textOnly Departure.lateStoresUnsure }, { on := 13, ground := Ground.textOnly Departure.lateStoresUnsure }], guard := none }) (v := ?_) rfl (by as_aux_lemma => kernel_rfl) (by as_aux_lemma => kernel_rfl) (by as_aux_lemma => kernel_rfl) (fun _ _ _ h => h) (Or.inl ⟨by rfl, ?_⟩) (by assumption) ?_
  rotate_left
  · intro w' hSw
    try dsimp only at hSw
    go_simp
    try with_reducible rfl
  try simp only [Act.put, List.setIfInBounds_toArray, List.set_cons_zero, List.set_cons_succ]
  refine wpAnyH_take (i := 15) (oi := { dst := some 5, op := Op.assign (Operand.tmp 29), type := 22, pos := "ref.go:14", after := #[{ on := 13, ground := Ground.data }, { on := 14, ground := Ground.chain }, { on := 0, ground := Ground.phase }, { on := 1, ground := Ground.phase }, { on := 2, ground := Ground.phase }, { on := 3, ground := Ground.phase }, { on := 4, ground := Ground.phase }, { on := 5, ground := Ground.phase }, { on := 6, ground := Ground.phase }, { on := 7, ground := Ground.phase }, { on := 8, ground := Ground.phase }, { on := 9, ground := Ground.phase }, { on := 10, ground := Ground.phase }, { on := 11, ground := Ground.phase }, { on := 12, ground := Ground.phase }, { on := 13, ground := Ground.phase }, { on := 14, ground := Ground.phase }], guard := none }) (v := ?_) rfl (by as_aux_lemma => kernel_rfl) (by as_aux_lemma => kernel_rfl) (by as_aux_lemma => kernel_rfl) (fun _ _ _ h => h) (Or.inl ⟨by rfl, ?_⟩) (by assumption) ?_
  rotate_left
  · intro w' hSw
    try dsimp only at hSw
    go_simp
    try with_reducible rfl
  try simp only [Act.put, List.setIfInBounds_toArray, List.set_cons_zero, List.set_cons_succ]
  refine wpAnyH_take (i := 16) (oi := { dst := some 6, op := Op.assign (Operand.const (Value.int IntKind.i64 0)), type := 31, pos := "ref.go:14", after := #[{ on := 15, ground := Ground.chain }, { on := 0, ground := Ground.phase }, { on := 1, ground := Ground.phase }, { on := 2, ground := Ground.phase }, { on := 3, ground := Ground.phase }, { on := 4, ground := Ground.phase }, { on := 5, ground := Ground.phase }, { on := 6, ground := Ground.phase }, { on := 7, ground := Ground.phase }, { on := 8, ground := Ground.phase }, { on := 9, ground := Ground.phase }, { on := 10, ground := Ground.phase }, { on := 11, ground := Ground.phase }, { on := 12, ground := Ground.phase }, { on := 13, ground := Ground.phase }, { on := 14, ground := Ground.phase }, { on := 15, ground := Ground.phase }], guard := none }) (v := ?_) rfl (by as_aux_lemma => kernel_rfl) (by as_aux_lemma => kernel_rfl) (by as_aux_lemma => kernel_rfl) (fun _ _ _ h => h) (Or.inl ⟨by rfl, ?_⟩) (by assumption) ?_
  rotate_left
  · intro w' hSw
    try dsimp only at hSw
    go_simp
    try with_reducible rfl
  try simp only [Act.put, List.setIfInBounds_toArray, List.set_cons_zero, List.set_cons_succ]
  refine wpAnyH_done (by kernel_rfl) ?_ _
  go_wp2_with fail
  go_ret3
  exact ⟨_, rfl, by have := O2.out; rwa [List.nil_append] at this, Q2.out⟩

set_option maxHeartbeats 1600000 in
set_option maxRecDepth 100000 in
theorem nrtake_no {w : World} {v : Value} {ls : List (List UInt8)} (h : Texts w v ls) (i : Int) (hi : ¬ ntIn ls.length i) :
    Calls Try.prog 16 #[v, .int .i64 i] w fun e w' => e = .returned (.tuple #[.string ⟨#[]⟩, v, .int .i64 6]) ∧ w = w' := by
  obtain ⟨a, cap, rfl, _, _, _, _⟩ := h
  unfold ntIn at hi
  by_cases h0 : i < 0
  · have t1 : decide (i < 0) = true := by simp; omega
    clear hi
    go_enter Try.func16, Try.ntmps16
    go_wp2_with fail
    go_ret3
    exact ⟨rfl, rfl⟩
  · have t1 : decide (i < 0) = false := by simp; omega
    have t2 : decide ((ls.length : Int) ≤ i) = true := by simp; omega
    clear hi
    go_enter Try.func16, Try.ntmps16
    go_wp2_with fail
    go_ret3
    exact ⟨rfl, rfl⟩

theorem nrtake_any {w : World} {v : Value} {ls : List (List UInt8)} (h : Texts w v ls) (hl : ls.length ≤ 1000) (i : Int) {x : List UInt8} {r : List (List UInt8)} {e : Nat} (hr : Hid (ntTake ls i = (x, r, e))) :
    Calls Try.prog 16 #[v, .int .i64 i] w fun e' w' => ∃ u, e' = .returned (.tuple #[.string ⟨x.toArray⟩, u, .int .i64 e]) ∧ Texts w' u r ∧ Below w.heap.size w w' := by
  have hr' := hr.out
  by_cases hi : ntIn ls.length i
  · obtain ⟨k, rfl, hk⟩ := in_nat hi
    rw [ntTake_yes hk] at hr'
    simp only [Prod.mk.injEq] at hr'
    obtain ⟨hx, rfl, rfl⟩ := hr'
    exact nrtake_yes h hl k hk hx
  · rw [ntTake_no hi] at hr'
    simp only [Prod.mk.injEq] at hr'
    obtain ⟨rfl, rfl, rfl⟩ := hr'
    exact (nrtake_no h i hi).mono fun _ _ ⟨he, hw⟩ => ⟨v, he, hw ▸ h, hw ▸ Below.refl _ _⟩

theorem nrdrop_any {w : World} {v : Value} {ls : List (List UInt8)} (h : Texts w v ls) (hl : ls.length ≤ 1000) (i : Int) {x : List UInt8} {r : List (List UInt8)} {e : Nat} (hr : Hid (ntTake ls i = (x, r, e))) :
    Calls Try.prog 18 #[v, .int .i64 i] w fun e' w' => ∃ u, e' = .returned (.tuple #[u, .int .i64 e]) ∧ Texts w' u r ∧ Below w.heap.size w w' := by
  have HT := Lib.hid (nrtake_any h hl i hr)
  obtain ⟨a, cap, rfl, _, _, _, _⟩ := h
  go_enter Try.func18, Try.ntmps18
  go_wp2_with fail
  refine HT.out.mono ?_
  rintro e1 w1 ⟨u, rfl, ht, hb⟩
  have H1 := Lib.hid ht
  have H2 := Lib.hid hb
  clear ht hb
  go_wp2_with fail
  go_ret2
  exact ⟨_, rfl, H1.out, H2.out⟩

set_option maxHeartbeats 1600000 in
set_option maxRecDepth 100000 in
theorem nrtwice_any {w : World} {v : Value} {ls : List (List UInt8)} (h : Texts w v ls) (i : Int) {r : List (List UInt8)} {e : Nat} (hr : Hid (ntTwice ls i = (r, e))) :
    Calls Try.prog 20 #[v, .int .i64 i] w fun e' w' => ∃ u, e' = .returned (.tuple #[u, .int .i64 e]) ∧ Texts w' u r ∧ Below w.heap.size w w' := by
  have HV := Lib.hid h
  have hr' := hr.out
  clear hr
  obtain ⟨a, cap, rfl, h1, h2, _, _⟩ := h
  unfold maxLen at h2
  by_cases hi : ntIn ls.length i
  · obtain ⟨k, rfl, hk⟩ := in_nat hi
    have t1 : decide ((k : Int) < 0) = false := by simp
    have t2 : decide ((ls.length : Int) ≤ (k : Int)) = false := by simp; omega
    by_cases hf : 500 ≤ ls.length
    · rw [ntTwice_full hi hf] at hr'
      simp only [Prod.mk.injEq] at hr'
      obtain ⟨rfl, rfl⟩ := hr'
      clear hi
      go_enter Try.func20, Try.ntmps20
      go_wp2_with fail
      go_ret2
      exact ⟨_, rfl, HV.out, Below.refl _ _⟩
    · rw [ntTwice_yes hk hf] at hr'
      simp only [Prod.mk.injEq] at hr'
      obtain ⟨rfl, rfl⟩ := hr'
      obtain ⟨b, off, rfl, hcell⟩ := texts_at HV.out hk
      unfold encS at hcell
      obtain ⟨x, hx⟩ : ∃ x, ls.getD k [] = x := ⟨_, rfl⟩
      rw [hx] at hcell ⊢
      have VA : Hid (Texts (w.alloc (.cells #[.string ⟨x.toArray⟩] 9)) (.slice (some ⟨w.heap.size, 0, none⟩) 1 1) [x]) := Lib.hid (texts_one w x)
      have hlen1 : ls.length + [x].length ≤ 1000 := by simp; omega
      have HS := Lib.hid (nrsend_any (HV.out.later (bl_newZ w (.cells #[.string ⟨x.toArray⟩] 9))) VA.out hlen1)
      clear hi hlen1 hx
      go_enter Try.func20, Try.ntmps20
      go_wp2_with fail
      refine HS.out.mono ?_
      rintro e w2 ⟨u, rfl, ht, hb⟩
      have H1 := Lib.hid ht
      have H2 := Lib.hid (below2Z (bl_newZ w _) hb)
      clear ht hb
      go_wp2_with fail
      go_ret2
      exact ⟨_, rfl, H1.out, H2.out⟩
  · rw [ntTwice_no hi] at hr'
    simp only [Prod.mk.injEq] at hr'
    obtain ⟨rfl, rfl⟩ := hr'
    unfold ntIn at hi
    by_cases h0 : i < 0
    · have t1 : decide (i < 0) = true := by simp; omega
      clear hi
      go_enter Try.func20, Try.ntmps20
      go_wp2_with fail
      go_ret2
      exact ⟨_, rfl, HV.out, Below.refl _ _⟩
    · have t1 : decide (i < 0) = false := by simp; omega
      have t2 : decide ((ls.length : Int) ≤ i) = true := by simp; omega
      clear hi
      go_enter Try.func20, Try.ntmps20
      go_wp2_with fail
      go_ret2
      exact ⟨_, rfl, HV.out, Below.refl _ _⟩

end Go.Proofs.Ytlebgpgcklfhaaa
