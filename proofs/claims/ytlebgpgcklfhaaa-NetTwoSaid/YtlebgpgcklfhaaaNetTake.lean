/-
  LAYER 22: Take, Drop, Twice, Send of the code and of the document.
-/
import Derived.Test.YtlebgpgcklfhaaaNetC
import Derived.Test.YtlebgpgcklfhaaaHeld
import Derived.Deep.RegionHeld
import Derived.Deep.RegionLaw
namespace Go.Proofs.Ytlebgpgcklfhaaa
open Go.RowKit

/-- 'append(out, src...)' of texts as one step of a region that draws its order. -/
theorem step_append_T {ops : Array Oper} {o : Oper} {a : Act} {w : World} {K : Act → World → Prop} {Q : Exit → Act → World → Prop} {E : Prop}
    (hg : o.guard = none) (s x : Operand) (ho : o.op = .call { callee := .builtin .append, args := #[s, x], argTypes := #[22, 22] })
    (base : Nat) (v : Value) (t : List (List UInt8)) (hs : a.eval s = v) (hown : OwnS txtVals 1 9 w base v t) (ad : Addr) (m c : Nat) (ms : List (List UInt8)) (hx : a.eval x = .slice (some ad) m c) (hm : m = ms.length)
    (hsome : SrcS txtVals w ad ms) (hlen : t.length + ms.length < 4294967) (hbase : base ≤ w.heap.size)
    (hK : ∀ v' w', OwnS txtVals 1 9 w' base v' (t ++ ms) → Below base w w' → K (a.put o.dst v') w') :
    if Region.wanted o (yielded ops a.tmps) = true then Oper.wp Try.prog o a w K Q else E := by
  have hw : Region.wanted o (yielded ops a.tmps) = true := by simp [Region.wanted, hg]
  rw [if_pos hw]
  subst hm
  obtain ⟨i, hi, hz, hsize, hby⟩ := info_parts txtOK.info
  refine wp_append_own w s x 22 ho base 9 i _ 1 16 txtOK.under hi hz hsize hby rfl (by decide) v t.length (cellsS txtVals t) hs hown ad ms.length c (cellsS txtVals ms) hx (by rw [cellsS_len txtOK.len]) hsome (cellsS_single txtOK.one ms)
    (by unfold maxLen; omega) (by omega) hbase ?_
  intro v' w' hown' hgrow _
  refine hK v' w' ?_ ((Below.refl base w).grown hgrow hbase (fun k hk => (World.ownsRow.lt hown k hk).1))
  unfold OwnS
  rw [cellsS_append, List.length_append]
  exact hown'

theorem ntTake_no {ls : List (List UInt8)} {i : Int} (h : ¬ ntIn ls.length i) : ntTake ls i = ([], ls, 6) := by unfold ntTake; rw [if_neg h]

theorem ntTake_yes {ls : List (List UInt8)} {k : Nat} (h : k < ls.length) : ntTake ls (k : Int) = (ls.getD k [], ls.take k ++ ls.drop (k + 1), 0) := by
  unfold ntTake
  rw [if_pos (by unfold ntIn; omega), Int.toNat_natCast]

theorem texts_at {w : World} {a : Option Addr} {n cap : Nat} {ls : List (List UInt8)} (h : Texts w (.slice a n cap) ls) {k : Nat} (hk : k < ls.length) : ∃ b off, a = some ⟨b, off, none⟩ ∧ w.cell? ⟨b, off + k, none⟩ = some (encS (ls.getD k [])) := by
  obtain ⟨a', cap', e, _, _, _, h⟩ := h
  simp only [Value.slice.injEq] at e
  rcases h with h | ⟨b, off, e', _, hc⟩
  · rw [h] at hk; simp at hk
  · exact ⟨b, off, e.1.trans e', hc k hk⟩

theorem sliced_shape (a : Option Addr) (l h m : Nat) : ∃ x n c, sliced a l h m 1 = .slice x n c := ⟨_, _, _, rfl⟩

theorem wrap_succ {k : Nat} (h : k < 4294967296) : IntKind.i64.wrap ((k : Int) + 1) = (k : Int) + 1 := IntWalk.i64_in _ (by omega)

set_option maxHeartbeats 1600000 in
set_option maxRecDepth 100000 in
/-- P22.1, the code's. -/
theorem ntake_yes {w : World} {v : Value} {ls : List (List UInt8)} (h : Texts w v ls) (hl : ls.length ≤ 1000) (k : Nat) (hk : k < ls.length) {x : List UInt8} (hx : ls.getD k [] = x) :
    Calls Try.prog 15 #[v, .int .i64 k] w fun e w' => ∃ u, e = .returned (.tuple #[.string ⟨x.toArray⟩, u, .int .i64 0]) ∧ Texts w' u (ls.take k ++ ls.drop (k + 1)) ∧ Below w.heap.size w w' := by
  have HV := Lib.hid h
  obtain ⟨a, cap, rfl, h1, h2, _, _⟩ := h
  obtain ⟨b, off, rfl, hcell⟩ := texts_at HV.out hk
  unfold encS at hcell
  rw [hx] at hcell
  have hw1 := wrap_succ (k := k) (by omega)
  have e1 := fun X => run_cut_h X (some ⟨b, off, none⟩) ls.length cap k (k : Int) rfl (by omega)
  have e2 := fun X => run_cut_l X (some ⟨b, off, none⟩) ls.length cap (k + 1) ((k : Int) + 1) (by omega) (by omega)
  have VA := texts_cut HV.out 0 k (by omega) (by omega)
  have VB := texts_cut HV.out (k + 1) ls.length (by omega) (by omega)
  have hd : (ls.drop (k + 1)).take (ls.length - (k + 1)) = ls.drop (k + 1) := List.take_of_length_le (by rw [List.length_drop]; omega)
  rw [hd] at VB
  rw [List.drop_zero, Nat.sub_zero] at VA
  have hsum : (ls.take k).length + (ls.drop (k + 1)).length ≤ 1000 := by rw [List.length_take, List.length_drop]; omega
  replace VA := Lib.hid VA
  replace VB := Lib.hid VB
  obtain ⟨xa, na, ca, ha⟩ := sliced_shape (some ⟨b, off, none⟩) 0 k cap
  obtain ⟨xb, nb, cb, hb⟩ := sliced_shape (some ⟨b, off, none⟩) (k + 1) ls.length cap
  rw [ha] at e1 VA
  rw [hb] at e2 VB
  clear ha hb
  clear hd hx
  go_enter Try.func15, Try.ntmps15
  go_wp2_with fail
  refine (nhas_yes _ _ _ k hk _).mono ?_
  rintro e w1 ⟨rfl, rfl⟩
  go_wp2_with fail
  obtain ⟨BS, hBS⟩ : ∃ BS : List (Nat × List Value), BS = [] := ⟨_, rfl⟩
  have D0 := Lib.hid (show heldD w BS b (off + k) (.string ⟨x.toArray⟩) from ⟨by rw [hBS]; exact heldB_nil _, hcell⟩)
  have hqt : ∀ X, heldD X BS b (off + k) (.string ⟨x.toArray⟩) → X.cell? ⟨b, off + k, none⟩ = some (.string ⟨x.toArray⟩) := fun X hx => hx.2
  clear hBS
  have K0 : Hid (Below w.heap.size w w.drew) := Lib.hid (Below.refl _ _).drew
  refine wp_region_held_drew (S := (fun X => heldD X BS b (off + k) (.string ⟨x.toArray⟩))) (by kernel_rfl) ?_ (fun hHeld => ?_)
  · exact heldD_up K0.out D0.out
  generalize w.drew = z0 at K0 hHeld ⊢
  refine wpAnyH_take (i := 0) (oi := { dst := some 12, op := Op.move (Operand.tmp 0), type := 22, pos := "net.go:29", after := #[], guard := none }) (v := ?_) rfl (by as_aux_lemma => kernel_rfl) (by as_aux_lemma => kernel_rfl) (by as_aux_lemma => kernel_rfl) (fun _ _ _ h => h) (Or.inl ⟨by rfl, ?_⟩) (by assumption) ?_
  rotate_left
  · intro w' hSw
    try dsimp only at hSw
    go_simp
    try with_reducible rfl
  try simp only [Act.put, List.setIfInBounds_toArray, List.set_cons_zero, List.set_cons_succ]
  refine wpAnyH_take (i := 1) (oi := { dst := some 13, op := Op.move (Operand.tmp 1), type := 3, pos := "net.go:29", after := #[], guard := none }) (v := ?_) rfl (by as_aux_lemma => kernel_rfl) (by as_aux_lemma => kernel_rfl) (by as_aux_lemma => kernel_rfl) (fun _ _ _ h => h) (Or.inl ⟨by rfl, ?_⟩) (by assumption) ?_
  rotate_left
  · intro w' hSw
    try dsimp only at hSw
    go_simp
    try with_reducible rfl
  try simp only [Act.put, List.setIfInBounds_toArray, List.set_cons_zero, List.set_cons_succ]
  refine wpAnyH_take (i := 2) (oi := { dst := some 14, op := Op.indexAddr 22 (Operand.tmp 12) (Operand.tmp 13), type := 0, pos := "net.go:29", after := #[{ on := 0, ground := Ground.data }, { on := 1, ground := Ground.data }], guard := none }) (v := ?_) rfl (by as_aux_lemma => kernel_rfl) (by as_aux_lemma => kernel_rfl) (by as_aux_lemma => kernel_rfl) (fun _ _ _ h => h) (Or.inl ⟨by rfl, ?_⟩) (by assumption) ?_
  rotate_left
  · intro w' hSw
    try dsimp only at hSw
    go_simp
    try with_reducible rfl
  try simp only [Act.put, List.setIfInBounds_toArray, List.set_cons_zero, List.set_cons_succ]
  refine wpAnyH_take (i := 3) (oi := { dst := some 15, op := Op.load 9 (Operand.tmp 14), type := 9, pos := "net.go:29", after := #[{ on := 2, ground := Ground.data }], guard := none }) (v := ?_) rfl (by as_aux_lemma => kernel_rfl) (by as_aux_lemma => kernel_rfl) (by as_aux_lemma => kernel_rfl) (fun _ _ _ h => h) (Or.inl ⟨by rfl, ?_⟩) (by assumption) ?_
  rotate_left
  · intro w' hSw
    try dsimp only at hSw
    go_simp
    try with_reducible rfl
  try simp only [Act.put, List.setIfInBounds_toArray, List.set_cons_zero, List.set_cons_succ]
  refine wpAnyH_take (i := 4) (oi := { dst := some 16, op := Op.move (Operand.tmp 0), type := 22, pos := "net.go:29", after := #[], guard := none }) (v := ?_) rfl (by as_aux_lemma => kernel_rfl) (by as_aux_lemma => kernel_rfl) (by as_aux_lemma => kernel_rfl) (fun _ _ _ h => h) (Or.inl ⟨by rfl, ?_⟩) (by assumption) ?_
  rotate_left
  · intro w' hSw
    try dsimp only at hSw
    go_simp
    try with_reducible rfl
  try simp only [Act.put, List.setIfInBounds_toArray, List.set_cons_zero, List.set_cons_succ]
  refine wpAnyH_take (i := 5) (oi := { dst := some 17, op := Op.move (Operand.tmp 1), type := 3, pos := "net.go:29", after := #[], guard := none }) (v := ?_) rfl (by as_aux_lemma => kernel_rfl) (by as_aux_lemma => kernel_rfl) (by as_aux_lemma => kernel_rfl) (fun _ _ _ h => h) (Or.inl ⟨by rfl, ?_⟩) (by assumption) ?_
  rotate_left
  · intro w' hSw
    try dsimp only at hSw
    go_simp
    try with_reducible rfl
  try simp only [Act.put, List.setIfInBounds_toArray, List.set_cons_zero, List.set_cons_succ]
  refine wpAnyH_take (i := 6) (oi := { dst := some 18, op := Op.slice 22 (Operand.tmp 16) none (some (Operand.tmp 17)) none, type := 22, pos := "net.go:29", after := #[{ on := 4, ground := Ground.data }, { on := 5, ground := Ground.data }], guard := none }) (v := ?_) rfl (by as_aux_lemma => kernel_rfl) (by as_aux_lemma => kernel_rfl) (by as_aux_lemma => kernel_rfl) (fun _ _ _ h => h) (Or.inl ⟨by rfl, ?_⟩) (by assumption) ?_
  rotate_left
  · intro w' hSw
    try dsimp only at hSw
    go_simp
    try with_reducible rfl
  try simp only [Act.put, List.setIfInBounds_toArray, List.set_cons_zero, List.set_cons_succ]
  refine wpAnyH_take (i := 7) (oi := { dst := some 19, op := Op.move (Operand.tmp 0), type := 22, pos := "net.go:29", after := #[], guard := none }) (v := ?_) rfl (by as_aux_lemma => kernel_rfl) (by as_aux_lemma => kernel_rfl) (by as_aux_lemma => kernel_rfl) (fun _ _ _ h => h) (Or.inl ⟨by rfl, ?_⟩) (by assumption) ?_
  rotate_left
  · intro w' hSw
    try dsimp only at hSw
    go_simp
    try with_reducible rfl
  try simp only [Act.put, List.setIfInBounds_toArray, List.set_cons_zero, List.set_cons_succ]
  refine wpAnyH_take (i := 8) (oi := { dst := some 20, op := Op.move (Operand.tmp 1), type := 3, pos := "net.go:29", after := #[], guard := none }) (v := ?_) rfl (by as_aux_lemma => kernel_rfl) (by as_aux_lemma => kernel_rfl) (by as_aux_lemma => kernel_rfl) (fun _ _ _ h => h) (Or.inl ⟨by rfl, ?_⟩) (by assumption) ?_
  rotate_left
  · intro w' hSw
    try dsimp only at hSw
    go_simp
    try with_reducible rfl
  try simp only [Act.put, List.setIfInBounds_toArray, List.set_cons_zero, List.set_cons_succ]
  refine wpAnyH_take (i := 9) (oi := { dst := some 21, op := Op.binOp BinOp.add 3 (Operand.tmp 20) (Operand.const (Value.int IntKind.i64 1)) 3, type := 3, pos := "net.go:29", after := #[{ on := 8, ground := Ground.data }], guard := none }) (v := ?_) rfl (by as_aux_lemma => kernel_rfl) (by as_aux_lemma => kernel_rfl) (by as_aux_lemma => kernel_rfl) (fun _ _ _ h => h) (Or.inl ⟨by rfl, ?_⟩) (by assumption) ?_
  rotate_left
  · intro w' hSw
    try dsimp only at hSw
    go_simp
    try with_reducible rfl
  try simp only [Act.put, List.setIfInBounds_toArray, List.set_cons_zero, List.set_cons_succ]
  refine wpAnyH_take (i := 10) (oi := { dst := some 22, op := Op.slice 22 (Operand.tmp 19) (some (Operand.tmp 21)) none none, type := 22, pos := "net.go:29", after := #[{ on := 7, ground := Ground.data }, { on := 9, ground := Ground.data }], guard := none }) (v := ?_) rfl (by as_aux_lemma => kernel_rfl) (by as_aux_lemma => kernel_rfl) (by as_aux_lemma => kernel_rfl) (fun _ _ _ h => h) (Or.inl ⟨by rfl, ?_⟩) (by assumption) ?_
  rotate_left
  · intro w' hSw
    try dsimp only at hSw
    go_simp
    try with_reducible rfl
  try simp only [Act.put, List.setIfInBounds_toArray, List.set_cons_zero, List.set_cons_succ]
  refine wpAnyH_ready (rs := [11]) (by as_aux_lemma => kernel_rfl) (by simp) ?_
  refine AllReadyH.cons (o := { dst := some 23, op := Op.buildSlice 50 2 #[(0, Operand.tmp 18), (1, Operand.tmp 22)], type := 50, pos := "net.go:29", after := #[{ on := 6, ground := Ground.data }, { on := 10, ground := Ground.data }], guard := none }) rfl (fun Kx hK => ?_) AllReadyH.nil
  go_simp
  refine hK.out _ _ ?_ (fun hHeld2 => ?_)
  · exact heldD_up (below2Z K0.out (bl_newZ _ _)) D0.out
  clear hK Kx hHeld
  have hHeld := hHeld2
  clear hHeld2
  try simp only [Act.put, List.setIfInBounds_toArray, List.set_cons_zero, List.set_cons_succ]
  have bz1 := bl_newZ z0 (.cells #[.slice xa na ca, .slice xb nb cb] 22)
  have K1 := Lib.hid (below2Z K0.out bz1)
  have D1 := Lib.hid (heldD_up K1.out D0.out)
  have nz1 := Lib.hid ((MapKept.heap_alloc z0 (.cells #[.slice xa na ca, .slice xb nb cb] 22)).1)
  have hB1 : w.heap.size ≤ z0.heap.size := (K0.out).size
  clear bz1
  generalize z0.alloc (.cells #[.slice xa na ca, .slice xb nb cb] 22) = z1 at K1 D1 nz1 hHeld ⊢
  generalize z0.heap.size = B1 at nz1 hB1  ⊢
  refine wpAnyH_ready (rs := [12]) (by as_aux_lemma => kernel_rfl) (by simp) ?_
  refine AllReadyH.cons (o := { dst := some 24, op := Op.call { callee := Callee.value (Operand.func 25), args := #[Operand.tmp 23], argTypes := #[50] }, type := 22, pos := "net.go:29", after := #[{ on := 11, ground := Ground.data }], guard := none }) rfl (fun Kx hK => ?_) AllReadyH.nil
  go_simp
  refine (concat_sum (va := .slice xa na ca) (vb := .slice xb nb cb) (VA.out.later K1.out) (VB.out.later K1.out) hsum B1 (cell_of_row _ B1 0 _ _ (0, 0) nz1.out) (cell_of_row _ B1 1 _ _ (0, 0) nz1.out)).mono ?_
  rintro e z2 ⟨vx, rfl, hvx, bz2⟩
  have K2 := Lib.hid (below2Z K1.out bz2)
  have D2 := Lib.hid (heldD_up K2.out D0.out)
  replace nz1 := Lib.hid (((bz2).block _ (Array.getElem?_eq_some_iff.1 (nz1.out)).1).trans (nz1.out))
  have HX := Lib.hid hvx.texts
  clear hvx
  clear bz2
  go_wp2_with fail
  refine hK.out _ _ ?_ (fun hHeld2 => ?_)
  · exact D2.out
  clear hK Kx hHeld
  have hHeld := hHeld2
  clear hHeld2
  try simp only [Act.put, List.setIfInBounds_toArray, List.set_cons_zero, List.set_cons_succ]
  refine wpAnyH_take (i := 13) (oi := { dst := some 4, op := Op.assign (Operand.tmp 15), type := 9, pos := "net.go:29", after := #[{ on := 3, ground := Ground.data }, { on := 12, ground := Ground.chain }, { on := 0, ground := Ground.phase }, { on := 1, ground := Ground.phase }, { on := 2, ground := Ground.phase }, { on := 3, ground := Ground.phase }, { on := 4, ground := Ground.textOnly Departure.lateStores }, { on := 5, ground := Ground.textOnly Departure.lateStores }, { on := 6, ground := Ground.textOnly Departure.lateStoresUnsure }, { on := 7, ground := Ground.textOnly Departure.lateStores }, { on := 8, ground := Ground.textOnly Departure.lateStores }, { on := 9, ground := Ground.textOnly Departure.lateStores }, { on := 10, ground := Ground.textOnly Departure.lateStoresUnsure }, { on := 11, ground := Ground.textOnly Departure.lateStores }, { on := 12, ground := Ground.textOnly Departure.lateStoresUnsure }], guard := none }) (v := ?_) rfl (by as_aux_lemma => kernel_rfl) (by as_aux_lemma => kernel_rfl) (by as_aux_lemma => kernel_rfl) (fun _ _ _ h => h) (Or.inl ⟨by rfl, ?_⟩) (by assumption) ?_
  rotate_left
  · intro w' hSw
    try dsimp only at hSw
    go_simp
    try with_reducible rfl
  try simp only [Act.put, List.setIfInBounds_toArray, List.set_cons_zero, List.set_cons_succ]
  refine wpAnyH_take (i := 14) (oi := { dst := some 5, op := Op.assign (Operand.tmp 24), type := 22, pos := "net.go:29", after := #[{ on := 12, ground := Ground.data }, { on := 13, ground := Ground.chain }, { on := 0, ground := Ground.phase }, { on := 1, ground := Ground.phase }, { on := 2, ground := Ground.phase }, { on := 3, ground := Ground.phase }, { on := 4, ground := Ground.phase }, { on := 5, ground := Ground.phase }, { on := 6, ground := Ground.phase }, { on := 7, ground := Ground.phase }, { on := 8, ground := Ground.phase }, { on := 9, ground := Ground.phase }, { on := 10, ground := Ground.phase }, { on := 11, ground := Ground.phase }, { on := 12, ground := Ground.phase }, { on := 13, ground := Ground.phase }], guard := none }) (v := ?_) rfl (by as_aux_lemma => kernel_rfl) (by as_aux_lemma => kernel_rfl) (by as_aux_lemma => kernel_rfl) (fun _ _ _ h => h) (Or.inl ⟨by rfl, ?_⟩) (by assumption) ?_
  rotate_left
  · intro w' hSw
    try dsimp only at hSw
    go_simp
    try with_reducible rfl
  try simp only [Act.put, List.setIfInBounds_toArray, List.set_cons_zero, List.set_cons_succ]
  refine wpAnyH_take (i := 15) (oi := { dst := some 6, op := Op.assign (Operand.const (Value.int IntKind.i64 0)), type := 31, pos := "net.go:29", after := #[{ on := 14, ground := Ground.chain }, { on := 0, ground := Ground.phase }, { on := 1, ground := Ground.phase }, { on := 2, ground := Ground.phase }, { on := 3, ground := Ground.phase }, { on := 4, ground := Ground.phase }, { on := 5, ground := Ground.phase }, { on := 6, ground := Ground.phase }, { on := 7, ground := Ground.phase }, { on := 8, ground := Ground.phase }, { on := 9, ground := Ground.phase }, { on := 10, ground := Ground.phase }, { on := 11, ground := Ground.phase }, { on := 12, ground := Ground.phase }, { on := 13, ground := Ground.phase }, { on := 14, ground := Ground.phase }], guard := none }) (v := ?_) rfl (by as_aux_lemma => kernel_rfl) (by as_aux_lemma => kernel_rfl) (by as_aux_lemma => kernel_rfl) (fun _ _ _ h => h) (Or.inl ⟨by rfl, ?_⟩) (by assumption) ?_
  rotate_left
  · intro w' hSw
    try dsimp only at hSw
    go_simp
    try with_reducible rfl
  try simp only [Act.put, List.setIfInBounds_toArray, List.set_cons_zero, List.set_cons_succ]
  refine wpAnyH_done (by kernel_rfl) ?_ _
  go_wp2_with fail
  go_ret3
  exact ⟨_, rfl, HX.out, K2.out⟩

set_option maxHeartbeats 1600000 in
set_option maxRecDepth 100000 in
theorem ntake_no {w : World} {v : Value} {ls : List (List UInt8)} (h : Texts w v ls) (i : Int) (hi : ¬ ntIn ls.length i) :
    Calls Try.prog 15 #[v, .int .i64 i] w fun e w' => e = .returned (.tuple #[.string ⟨#[]⟩, v, .int .i64 6]) ∧ w = w' := by
  obtain ⟨a, cap, rfl, _, _, _, _⟩ := h
  go_enter Try.func15, Try.ntmps15
  go_wp2_with fail
  refine (nhas_no _ _ _ i hi _).mono ?_
  rintro e w1 ⟨rfl, rfl⟩
  go_wp2_with fail
  go_ret3
  exact ⟨rfl, rfl⟩

theorem ntake_any {w : World} {v : Value} {ls : List (List UInt8)} (h : Texts w v ls) (hl : ls.length ≤ 1000) (i : Int) {x : List UInt8} {r : List (List UInt8)} {e : Nat} (hr : Hid (ntTake ls i = (x, r, e))) :
    Calls Try.prog 15 #[v, .int .i64 i] w fun e' w' => ∃ u, e' = .returned (.tuple #[.string ⟨x.toArray⟩, u, .int .i64 e]) ∧ Texts w' u r ∧ Below w.heap.size w w' := by
  have hr' := hr.out
  by_cases hi : ntIn ls.length i
  · obtain ⟨k, rfl, hk⟩ := in_nat hi
    rw [ntTake_yes hk] at hr'
    simp only [Prod.mk.injEq] at hr'
    obtain ⟨hx, rfl, rfl⟩ := hr'
    exact ntake_yes h hl k hk hx
  · rw [ntTake_no hi] at hr'
    simp only [Prod.mk.injEq] at hr'
    obtain ⟨rfl, rfl, rfl⟩ := hr'
    exact (ntake_no h i hi).mono fun _ _ ⟨he, hw⟩ => ⟨v, he, hw ▸ h, hw ▸ Below.refl _ _⟩

theorem ndrop_any {w : World} {v : Value} {ls : List (List UInt8)} (h : Texts w v ls) (hl : ls.length ≤ 1000) (i : Int) {x : List UInt8} {r : List (List UInt8)} {e : Nat} (hr : Hid (ntTake ls i = (x, r, e))) :
    Calls Try.prog 17 #[v, .int .i64 i] w fun e' w' => ∃ u, e' = .returned (.tuple #[u, .int .i64 e]) ∧ Texts w' u r ∧ Below w.heap.size w w' := by
  have HT := Lib.hid (ntake_any h hl i hr)
  obtain ⟨a, cap, rfl, _, _, _, _⟩ := h
  go_enter Try.func17, Try.ntmps17
  go_wp2_with fail
  refine HT.out.mono ?_
  rintro e1 w1 ⟨u, rfl, ht, hb⟩
  have H1 := Lib.hid ht
  have H2 := Lib.hid hb
  clear ht hb
  go_wp2_with fail
  go_ret2
  exact ⟨_, rfl, H1.out, H2.out⟩

theorem ntTwice_no {ls : List (List UInt8)} {i : Int} (h : ¬ ntIn ls.length i) : ntTwice ls i = (ls, 6) := by unfold ntTwice; rw [if_neg h]

theorem ntTwice_full {ls : List (List UInt8)} {i : Int} (h : ntIn ls.length i) (hf : 500 ≤ ls.length) : ntTwice ls i = (ls, 5) := by unfold ntTwice; rw [if_pos h, if_pos hf]

theorem ntTwice_yes {ls : List (List UInt8)} {k : Nat} (h : k < ls.length) (hf : ¬ 500 ≤ ls.length) : ntTwice ls (k : Int) = (ls ++ [ls.getD k []], 0) := by
  unfold ntTwice
  rw [if_pos (by unfold ntIn; omega), if_neg hf, Int.toNat_natCast]

set_option maxHeartbeats 1600000 in
set_option maxRecDepth 100000 in
theorem ntwice_any {w : World} {v : Value} {ls : List (List UInt8)} (h : Texts w v ls) (i : Int) {r : List (List UInt8)} {e : Nat} (hr : Hid (ntTwice ls i = (r, e))) :
    Calls Try.prog 19 #[v, .int .i64 i] w fun e' w' => ∃ u, e' = .returned (.tuple #[u, .int .i64 e]) ∧ Texts w' u r ∧ Below w.heap.size w w' := by
  have HV := Lib.hid h
  have hr' := hr.out
  clear hr
  obtain ⟨a, cap, rfl, h1, h2, _, _⟩ := h
  unfold maxLen at h2
  by_cases hi : ntIn ls.length i
  · obtain ⟨k, rfl, hk⟩ := in_nat hi
    by_cases hf : 500 ≤ ls.length
    · rw [ntTwice_full hi hf] at hr'
      simp only [Prod.mk.injEq] at hr'
      obtain ⟨rfl, rfl⟩ := hr'
      clear hi
      go_enter Try.func19, Try.ntmps19
      go_wp2_with fail
      refine (nhas_yes _ _ _ k hk _).mono ?_
      rintro e w1 ⟨rfl, rfl⟩
      go_wp2_with fail
      go_ret2
      exact ⟨_, rfl, HV.out, Below.refl _ _⟩
    · rw [ntTwice_yes hk hf] at hr'
      simp only [Prod.mk.injEq] at hr'
      obtain ⟨rfl, rfl⟩ := hr'
      have hw1 := wrap_succ (k := k) (by omega)
      have e1 := fun X => run_cut_lh X a ls.length cap k (k + 1) (k : Int) ((k : Int) + 1) rfl (by omega) (by omega) (by omega)
      have VA := texts_cut HV.out k (k + 1) (by omega) (by omega)
      have hone : (ls.drop k).take (k + 1 - k) = [ls.getD k []] := by
        rw [Nat.add_sub_cancel_left, List.drop_eq_getElem_cons hk, List.take_succ_cons, List.take_zero, List.getD_eq_getElem?_getD, List.getElem?_eq_getElem hk]
        rfl
      rw [hone] at VA
      replace VA := Lib.hid VA
      obtain ⟨xa, na, ca, ha⟩ := sliced_shape a k (k + 1) cap
      rw [ha] at e1 VA
      clear ha
      have hlen1 : ls.length + [ls.getD k []].length ≤ 1000 := by simp; omega
      have HS := Lib.hid (nsend_any HV.out VA.out hlen1)
      clear hi hone hlen1
      go_enter Try.func19, Try.ntmps19
      go_wp2_with fail
      refine (nhas_yes _ _ _ k hk _).mono ?_
      rintro e w1 ⟨rfl, rfl⟩
      go_wp2_with fail
      refine HS.out.mono ?_
      rintro e w2 ⟨u, rfl, ht, hb⟩
      have H1 := Lib.hid ht
      have H2 := Lib.hid hb
      clear ht hb
      go_wp2_with fail
      go_ret2
      exact ⟨_, rfl, H1.out, H2.out⟩
  · rw [ntTwice_no hi] at hr'
    simp only [Prod.mk.injEq] at hr'
    obtain ⟨rfl, rfl⟩ := hr'
    go_enter Try.func19, Try.ntmps19
    go_wp2_with fail
    refine (nhas_no _ _ _ i hi _).mono ?_
    rintro e w1 ⟨rfl, rfl⟩
    go_wp2_with fail
    go_ret2
    exact ⟨_, rfl, HV.out, Below.refl _ _⟩

end Go.Proofs.Ytlebgpgcklfhaaa
