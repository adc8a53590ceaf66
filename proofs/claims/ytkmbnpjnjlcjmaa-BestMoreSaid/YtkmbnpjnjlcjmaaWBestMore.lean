/-
  THE WALK OF BestMore.
-/
import Derived.Test.YtkmbnpjnjlcjmaaBesBoth
import Derived.Test.YtkmbnpjnjlcjmaaBesMore
import Derived.Test.YtkmbnpjnjlcjmaaIntSet
import Derived.Test.YtkmbnpjnjlcjmaaStepL
import Derived.Deep.RegionHeldLaw
import Derived.Deep.DeepCutAuto
namespace Go.Proofs.Ytkmbnpjnjlcjmaa
open Go.RowKit

theorem CellsAt.block {w w' : World} {b o : Nat} {vs : List Value} (h : CellsAt w b o vs) (hb : w'.heap[b]? = w.heap[b]?) : CellsAt w' b o vs := fun j u hu => (World.cell?_of_block hb).trans (h j u hu)

/-- Six cells of a block. -/
def Six (X : World) (b : Nat) (u st : List UInt8) (i a c d : Int) : Prop :=
  X.cell? ⟨b, 0, none⟩ = some (.string ⟨u.toArray⟩) ∧ X.cell? ⟨b, 1, none⟩ = some (.int .i64 i) ∧ X.cell? ⟨b, 2, none⟩ = some (.int .i64 a) ∧ X.cell? ⟨b, 3, none⟩ = some (.int .i64 c) ∧ X.cell? ⟨b, 4, none⟩ = some (.int .i64 d) ∧ X.cell? ⟨b, 5, none⟩ = some (.string ⟨st.toArray⟩)

theorem six_up {X X' : World} {b : Nat} {u st : List UInt8} {i a c d : Int} (hb : Below X.heap.size X X') (h : Six X b u st i a c d) : Six X' b u st i a c d := by
  have up : ∀ {j : Nat} {v : Value}, X.cell? ⟨b, j, none⟩ = some v → X'.cell? ⟨b, j, none⟩ = some v := fun hv => (hb.cell (World.block_lt_of_cell? _ _ hv)).trans hv
  exact ⟨up h.1, up h.2.1, up h.2.2.1, up h.2.2.2.1, up h.2.2.2.2.1, up h.2.2.2.2.2⟩

theorem six_low {X X' : World} {base b : Nat} {u st : List UInt8} {i a c d : Int} (hb : Below base X X') (hlt : b < base) (h : Six X b u st i a c d) : Six X' b u st i a c d := by
  have up : ∀ {j : Nat} {v : Value}, X.cell? ⟨b, j, none⟩ = some v → X'.cell? ⟨b, j, none⟩ = some v := fun hv => (hb.cell hlt).trans hv
  exact ⟨up h.1, up h.2.1, up h.2.2.1, up h.2.2.2.1, up h.2.2.2.2.1, up h.2.2.2.2.2⟩

theorem back_next {l : List Ses} {k : Nat} (h : k < l.length) : l.reverse.take (k + 1) = l.reverse.take k ++ [sat l (l.length - 1 - k)] := by
  rw [List.take_succ_eq_append_getElem (by rw [List.length_reverse]; exact h), List.getElem_reverse, show sat l (l.length - 1 - k) = l[l.length - 1 - k] from sgetDB (by omega)]

theorem lone_keep {w w' : World} {B : Nat} {T : TypeId} {r : Ses} (h : LoneS sesVals T w B r) (hb : w'.heap[B]? = w.heap[B]?) : LoneS sesVals T w' B r := by
  obtain ⟨cs, h1, h2⟩ := h
  exact ⟨cs, h1, hb.trans h2⟩

theorem lone_ne {X : World} {bE bL : Nat} {T : TypeId} {r : Ses} (h : LoneS sesVals T X bL r) (he : X.heap[bE]? = some (.cells #[] T (0, 0))) : ∀ n c, (Value.slice (some ⟨bE, 0, none⟩) 0 0) ≠ .slice (some ⟨bL, 0, none⟩) n c := by
  intro n c e
  obtain ⟨cs, h1, h2⟩ := h
  simp only [Value.slice.injEq, Option.some.injEq, Addr.mk.injEq, and_true] at e
  rw [e.1, h2] at he
  simp only [Option.some.injEq, Obj.cells.injEq] at he
  rw [he.1] at h1
  exact absurd (congrArg List.length h1) (by simp [sesVals])

theorem own_ne_ty {X : World} {base b : Nat} {v : Value} {t : List Ses} {T T' : TypeId} {cs : Array Value} (h : OwnS sesVals 6 T X base v t) (hp : X.heap[b]? = some (.cells cs T' (0, 0))) (hne : T ≠ T') : ∀ n c, v ≠ .slice (some ⟨b, 0, none⟩) n c := by
  intro n c e
  subst e
  obtain ⟨_, _, _, _, _, cur, h4, _⟩ := h.head
  rw [hp] at h4
  simp only [Option.some.injEq, Obj.cells.injEq] at h4
  exact hne h4.2.1.symm

theorem row4 {X : World} {b : Nat} {x0 x1 x2 x3 : Value} {T : TypeId} (h : X.heap[b]? = some (.cells #[x0, x1, x2, x3] T (0, 0))) : X.cell? ⟨b, 0, none⟩ = some x0 ∧ X.cell? ⟨b, 1, none⟩ = some x1 ∧ X.cell? ⟨b, 2, none⟩ = some x2 ∧ X.cell? ⟨b, 3, none⟩ = some x3 :=
  ⟨cell_of_row X b 0 _ _ (0, 0) h, cell_of_row X b 1 _ _ (0, 0) h, cell_of_row X b 2 _ _ (0, 0) h, cell_of_row X b 3 _ _ (0, 0) h⟩

theorem free4 {X : World} {b : Nat} {cs : Array Value} {T : TypeId} (h : X.heap[b]? = some (.cells cs T (0, 0))) : X.frozen? ⟨b, 0, none⟩ = false ∧ X.frozen? ⟨b, 1, none⟩ = false ∧ X.frozen? ⟨b, 2, none⟩ = false ∧ X.frozen? ⟨b, 3, none⟩ = false :=
  ⟨frozen_of_row X b 0 _ _ h, frozen_of_row X b 1 _ _ h, frozen_of_row X b 2 _ _ h, frozen_of_row X b 3 _ _ h⟩

theorem store4_cells {X : World} {b : Nat} {y0 y1 y2 y3 x0 x1 x2 x3 : Value} {T : TypeId} (h : X.heap[b]? = some (.cells #[y0, y1, y2, y3] T (0, 0))) : CellsAt ((((X.setCell ⟨b, 0, none⟩ x0).setCell ⟨b, 1, none⟩ x1).setCell ⟨b, 2, none⟩ x2).setCell ⟨b, 3, none⟩ x3) b 0 [x0, x1, x2, x3] := by
  have r0 := heap_setCell_same X b 0 _ _ x0 h
  have r1 := heap_setCell_same _ b 1 _ _ x1 r0
  have r2 := heap_setCell_same _ b 2 _ _ x2 r1
  have r3 := heap_setCell_same _ b 3 _ _ x3 r2
  intro j u hu
  rw [Nat.zero_add]
  exact (cell_of_row _ b j _ _ (0, 0) r3).trans (by simpa using hu)

set_option maxHeartbeats 12800000 in
set_option maxRecDepth 100000 in
theorem bmore_few {w : World} {v : Value} {l : List Ses} (hv : Sess w v l) (hf : ∀ s ∈ l, SesFit s) (kn ks : List UInt8) (ki ka kb kc : Int) (hk : SesFit ⟨kn, ki, ⟨ka, kb, kc, ks⟩⟩) (hw : fewSes l = true) (hw' : fewSes [⟨kn, ki, ⟨ka, kb, kc, ks⟩⟩] = true) (h0 : 0 < l.length) :
    Calls Try.prog 8 #[v, .agg #[.string ⟨kn.toArray⟩, .int .i64 ki, .int .i64 ka, .int .i64 kb, .int .i64 kc, .string ⟨ks.toArray⟩]] w fun e w' => e = .returned (.bool true) ∧ Below w.heap.size w w' := by
  have hb1 := bl_newZ w (.cells #[.string ⟨kn.toArray⟩, .int .i64 ki, .int .i64 ka, .int .i64 kb, .int .i64 kc, .string ⟨ks.toArray⟩] 34)
  have HF1 := Lib.hid (few09_eq (hv.later hb1) hw)
  have HF2 : Hid (∀ (w' : World) (B : Nat), B = w'.heap.size → Calls Try.prog 15 #[.slice (some ⟨B, 0, none⟩) 1 1] (w'.alloc (.cells #[.string ⟨kn.toArray⟩, .int .i64 ki, .int .i64 ka, .int .i64 kb, .int .i64 kc, .string ⟨ks.toArray⟩] 34)) fun e w'' => e = .returned (.bool true) ∧ w'.alloc (.cells #[.string ⟨kn.toArray⟩, .int .i64 ki, .int .i64 ka, .int .i64 kb, .int .i64 kc, .string ⟨ks.toArray⟩] 34) = w'') :=
    Lib.hid (fun w' B hB => few09_eq (rdS_made sesOK (l := [⟨kn, ki, ⟨ka, kb, kc, ks⟩⟩]) rfl (by simp) hB) hw')
  have HS := Lib.hid (cellsAt_made (w := w) (cs := #[.string ⟨kn.toArray⟩, .int .i64 ki, .int .i64 ka, .int .i64 kb, .int .i64 kc, .string ⟨ks.toArray⟩]) (vs := sesVals ⟨kn, ki, ⟨ka, kb, kc, ks⟩⟩) rfl 34 rfl)
  obtain ⟨⟨pa, pb, pc, ps⟩, hp⟩ : ∃ s, besV l = s := ⟨_, rfl⟩
  obtain ⟨⟨qa, qb, qc, qs⟩, hq⟩ : ∃ s, besV (l ++ [⟨kn, ki, ⟨ka, kb, kc, ks⟩⟩]) = s := ⟨_, rfl⟩
  obtain ⟨⟨ra, rb, rc, rs⟩, hr⟩ : ∃ s, besV l.reverse = s := ⟨_, rfl⟩
  have hmo := besV_more (m := [⟨kn, ki, ⟨ka, kb, kc, ks⟩⟩]) h0
  rw [hp, hq] at hmo
  simp only at hmo
  have C1 : Hid (∀ w' v', Sess w' v' l → Calls Try.prog 32 #[v'] w' fun e w'' => e = .returned (.tuple #[.agg #[.int .i64 pa, .int .i64 pb, .int .i64 pc, .string ⟨ps.toArray⟩], .bool true]) ∧ Below w'.heap.size w' w'') := Lib.hid (fun w' v' h => bvalue_yes h hf h0 hp)
  have C2 : Hid (∀ w' v', Sess w' v' (l ++ [⟨kn, ki, ⟨ka, kb, kc, ks⟩⟩]) → Calls Try.prog 32 #[v'] w' fun e w'' => e = .returned (.tuple #[.agg #[.int .i64 qa, .int .i64 qb, .int .i64 qc, .string ⟨qs.toArray⟩], .bool true]) ∧ Below w'.heap.size w' w'') :=
    Lib.hid (fun w' v' h => bvalue_yes h (fun s hs => (List.mem_append.1 hs).elim (hf s) (fun e => by rw [List.mem_singleton] at e; subst e; exact hk)) (by rw [List.length_append]; omega) hq)
  have C3 : Hid (∀ w' v', Sess w' v' l.reverse → Calls Try.prog 32 #[v'] w' fun e w'' => e = .returned (.tuple #[.agg #[.int .i64 ra, .int .i64 rb, .int .i64 rc, .string ⟨rs.toArray⟩], .bool true]) ∧ Below w'.heap.size w' w'') :=
    Lib.hid (fun w' v' h => bvalue_yes h (fun s hs => hf s (List.mem_reverse.1 hs)) (by rw [List.length_reverse]; exact h0) hr)
  have HUn : Hid ((uniq (l.reverse.map Ses.id)).length = l.length → (⟨ra, rb, rc, rs⟩ : Val) = ⟨pa, pb, pc, ps⟩) := Lib.hid (fun h => by
    have hn := uniq_nodup (l.reverse.map Ses.id) (by rw [h, List.length_map, List.length_reverse])
    rw [← hr, ← hp]
    refine besV_back h0 ?_
    rw [List.map_reverse] at hn
    exact (List.reverse_perm _).nodup_iff.1 hn)
  have hl50 := (few_get hw).1
  have HF := Lib.hid hf
  have HV0 := Lib.hid hv
  have HV := Lib.hid (hv.later hb1)
  have BB := Lib.hid hb1
  obtain ⟨ao, cap, rfl, hm1⟩ := hv.open'
  have t2 : ((l.length : Int) == 0) = false := by rw [beq_eq_false_iff_ne]; omega
  have t3 : decide (qa < pa) = false := by simp; omega
  have t4 : decide (qb < pb) = false := by simp; omega
  obtain ⟨s0, s1, s2, s3, s4, s5⟩ := cells6 HS.out
  simp only [Nat.zero_add] at s0 s1 s2 s3 s4 s5
  have hs1 : w.heap.size + 1 = (w.alloc (.cells #[.string ⟨kn.toArray⟩, .int .i64 ki, .int .i64 ka, .int .i64 kb, .int .i64 kc, .string ⟨ks.toArray⟩] 34)).heap.size := (World.size_alloc _ _).symm
  have hC2 := HF2.out _ _ hs1
  clear hv hf hp hq hr hw hw' hk hb1 hmo hs1
  go_enter Try.func8, Try.ntmps8
  go_wp2_with fail
  refine HF1.out.mono ?_
  rintro e w1 ⟨rfl, rfl⟩
  clear HF1
  go_wp2_with fail
  refine hC2.mono ?_
  rintro e w1 ⟨rfl, rfl⟩
  clear HF2 hC2
  have b2 := bl_newZ (w.alloc (.cells #[.string ⟨kn.toArray⟩, .int .i64 ki, .int .i64 ka, .int .i64 kb, .int .i64 kc, .string ⟨ks.toArray⟩] 34)) (.cells #[.string ⟨kn.toArray⟩, .int .i64 ki, .int .i64 ka, .int .i64 kb, .int .i64 kc, .string ⟨ks.toArray⟩] 34)
  replace HV := Lib.hid (HV.out.later b2)
  replace HS := Lib.hid (HS.out.later b2)
  replace BB := Lib.hid (below2Z BB.out b2)
  clear b2 s0 s1 s2 s3 s4 s5
  go_wp2_with fail
  refine (C1.out _ _ HV.out).mono ?_
  rintro e w3 ⟨rfl, b3⟩
  have b4 := below2Z b3 (bl_newZ w3 (.cells #[.int .i64 pa, .int .i64 pb, .int .i64 pc, .string ⟨ps.toArray⟩] 32))
  replace HV := Lib.hid (HV.out.later b4)
  replace HS := Lib.hid (HS.out.later b4)
  replace BB := Lib.hid (below2Z BB.out b4)
  have HP := Lib.hid (cellsAt_made (w := w3) (cs := #[.int .i64 pa, .int .i64 pb, .int .i64 pc, .string ⟨ps.toArray⟩]) (vs := [.int .i64 pa, .int .i64 pb, .int .i64 pc, .string ⟨ps.toArray⟩]) rfl 32 rfl)
  clear b3 b4
  go_wp2_with fail
  generalize w3.alloc (.cells #[.int .i64 pa, .int .i64 pb, .int .i64 pc, .string ⟨ps.toArray⟩] 32) = W at HV HS BB HP ⊢
  generalize w3.heap.size = P5 at HP ⊢
  obtain ⟨bl, ol, rfl, -⟩ := HV0.out.row (Below.refl _ _) 0 h0
  go_cut [7, 8] from 34 (fun p x wx => ∃ B', p = .pointer (some ⟨B', 0, none⟩) ∧ x = .bool true ∧ Hid (CellsAt wx B' 0 [.int .i64 qa, .int .i64 qb, .int .i64 qc, .string ⟨qs.toArray⟩]) ∧ Hid (Below W.heap.size W wx))
  case first =>
    have hwW : w.heap.size < W.heap.size := World.block_lt_of_cell? _ _ (HS.out 0 _ rfl)
    obtain ⟨s0, s1, s2, s3, s4, s5⟩ := cells6 HS.out
    simp only [Nat.zero_add] at s0 s1 s2 s3 s4 s5
    have hS0 : Six W w.heap.size kn ks ki ka kb kc := ⟨s0, s1, s2, s3, s4, s5⟩
    have SV := Lib.hid (HV.out.src sesOK)
    have hlm : ([] : List Ses).length + l.length < 4294967 := by simp; omega
    have hlm2 : l.length + [(⟨kn, ki, ⟨ka, kb, kc, ks⟩⟩ : Ses)].length < 4294967 := by simp; omega
    clear s0 s1 s2 s3 s4 s5 HUn C1 C3 HP HV0 t2 t3 t4
    have FB : Hid (Below W.heap.size W W.drew) := Lib.hid (Below.refl _ _).drew
    refine wp_region_held_drew (S := (fun X => X.cell? ⟨w.heap.size, 0, none⟩ = some (.string ⟨kn.toArray⟩) ∧ X.cell? ⟨w.heap.size, 1, none⟩ = some (.int .i64 ki) ∧ X.cell? ⟨w.heap.size, 2, none⟩ = some (.int .i64 ka) ∧ X.cell? ⟨w.heap.size, 3, none⟩ = some (.int .i64 kb) ∧ X.cell? ⟨w.heap.size, 4, none⟩ = some (.int .i64 kc) ∧ X.cell? ⟨w.heap.size, 5, none⟩ = some (.string ⟨ks.toArray⟩))) (by kernel_rfl) ?_ (fun hHeld => ?_)
    · exact six_low FB.out hwW hS0
    generalize W.drew = X0 at FB hHeld ⊢
    refine wpAnyH_take (i := 1) (oi := { dst := some 36, op := Op.move (Operand.tmp 0), type := 22, pos := "law.go:68", after := #[], guard := none }) (v := ?_) rfl (by as_aux_lemma => kernel_rfl) (by as_aux_lemma => kernel_rfl) (by as_aux_lemma => kernel_rfl) (fun _ _ _ h => h) (Or.inl ⟨by rfl, ?_⟩) (by assumption) ?_
    rotate_left
    · intro w' hSw
      try dsimp only at hSw
      go_simp
      try with_reducible rfl
    try simp only [Act.put, List.setIfInBounds_toArray, List.set_cons_zero, List.set_cons_succ]
    refine wpAnyH_take (i := 3) (oi := { dst := some 38, op := Op.load 34 (Operand.tmp 3), type := 34, pos := "law.go:68", after := #[], guard := none }) (v := ?_) rfl (by as_aux_lemma => kernel_rfl) (by as_aux_lemma => kernel_rfl) (by as_aux_lemma => kernel_rfl) (fun _ _ _ h => h) (Or.inl ⟨by rfl, ?_⟩) (by assumption) ?_
    rotate_left
    · intro w' hSw
      try dsimp only at hSw
      go_simp
      try with_reducible rfl
    try simp only [Act.put, List.setIfInBounds_toArray, List.set_cons_zero, List.set_cons_succ]
    refine wpAnyH_ready (rs := [0, 4, 10]) (by as_aux_lemma => kernel_rfl) (by simp) ?_
    refine AllReadyH.cons (o := { dst := some 35, op := Op.buildSlice 22 0 #[], type := 22, pos := "law.go:68", after := #[], guard := none }) rfl (fun Kx hK => ?_) (AllReadyH.cons (o := { dst := some 39, op := Op.buildSlice 22 1 #[(0, Operand.tmp 38)], type := 22, pos := "law.go:68", after := #[{ on := 3, ground := Ground.data }], guard := none }) rfl (fun Kx hK => ?_) (AllReadyH.cons (o := { dst := some 7, op := Op.alloc 32, type := 0, pos := "law.go:68", after := #[], guard := none }) rfl (fun Kx hK => ?_) AllReadyH.nil))
    · skip
      go_simp
      have FB2 : Hid (Below W.heap.size W (X0.alloc (.cells #[] 34))) := Lib.hid (FB.out.alloc FB.out.size _)
      have FE2 : Hid ((X0.alloc (.cells #[] 34)).heap[X0.heap.size]? = some (.cells #[] 34 (0, 0))) := Lib.hid (heap_alloc_new X0 _)
      have hE : W.heap.size ≤ X0.heap.size := FB.out.size
      refine hK.out _ _ ?_ (fun hHeld2 => ?_)
      · exact six_low FB2.out hwW hS0
      clear hK Kx hHeld
      have hHeld := hHeld2
      clear hHeld2
      try simp only [Act.put, List.setIfInBounds_toArray, List.set_cons_zero, List.set_cons_succ]
      clear FB 
      generalize X0.alloc (.cells #[] 34) = X1 at FE2 FB2 hHeld ⊢
      generalize X0.heap.size = bE at FE2 hE ⊢
      have FE := FE2
      clear FE2
      have FB := FB2
      clear FB2
      refine wpAnyH_ready (rs := [2, 4, 10]) (by as_aux_lemma => kernel_rfl) (by simp) ?_
      refine AllReadyH.cons (o := { dst := some 37, op := Op.call { callee := Callee.builtin Builtin.append, args := #[Operand.tmp 35, Operand.tmp 36], argTypes := #[22, 22] }, type := 22, pos := "law.go:68", after := #[{ on := 0, ground := Ground.data }, { on := 1, ground := Ground.data }], guard := none }) rfl (fun Kx hK => ?_) (AllReadyH.cons (o := { dst := some 39, op := Op.buildSlice 22 1 #[(0, Operand.tmp 38)], type := 22, pos := "law.go:68", after := #[{ on := 3, ground := Ground.data }], guard := none }) rfl (fun Kx hK => ?_) (AllReadyH.cons (o := { dst := some 7, op := Op.alloc 32, type := 0, pos := "law.go:68", after := #[], guard := none }) rfl (fun Kx hK => ?_) AllReadyH.nil))
      · skip
        refine step_append_L sesOK rfl (.tmp 35) (.tmp 36) rfl W.heap.size (.slice (some ⟨bE, 0, none⟩) 0 0) [] (by simp [Act.eval]; done) (own_fresh FE.out hE) ⟨bl, ol, none⟩ l.length cap l (by simp [Act.eval]; done) rfl (srcS_up SV.out FB.out) h0 hlm FB.out.size ?_
        intro v1 X2 hout
        have FA2 : Hid (OwnSes X2 W.heap.size v1 l) := Lib.hid hout.1
        have FB2 := Lib.hid (FB.out.trans hout.2.2.1)
        go_simp
        refine hK.out _ _ ?_ (fun hHeld2 => ?_)
        · exact six_low FB2.out hwW hS0
        clear hK Kx hHeld
        have hHeld := hHeld2
        clear hHeld2
        try simp only [Act.put, List.setIfInBounds_toArray, List.set_cons_zero, List.set_cons_succ]
        clear FB FE hout
        have FA := FA2
        clear FA2
        have FB := FB2
        clear FB2
        refine wpAnyH_ready (rs := [4, 10]) (by as_aux_lemma => kernel_rfl) (by simp) ?_
        refine AllReadyH.cons (o := { dst := some 39, op := Op.buildSlice 22 1 #[(0, Operand.tmp 38)], type := 22, pos := "law.go:68", after := #[{ on := 3, ground := Ground.data }], guard := none }) rfl (fun Kx hK => ?_) (AllReadyH.cons (o := { dst := some 7, op := Op.alloc 32, type := 0, pos := "law.go:68", after := #[], guard := none }) rfl (fun Kx hK => ?_) AllReadyH.nil)
        · skip
          go_simp
          have FA2 := Lib.hid (FA.out.alloc (.cells #[.string ⟨kn.toArray⟩, .int .i64 ki, .int .i64 ka, .int .i64 kb, .int .i64 kc, .string ⟨ks.toArray⟩] 34))
          have FB2 : Hid (Below W.heap.size W (X2.alloc (.cells #[.string ⟨kn.toArray⟩, .int .i64 ki, .int .i64 ka, .int .i64 kb, .int .i64 kc, .string ⟨ks.toArray⟩] 34))) := Lib.hid (FB.out.alloc FB.out.size _)
          have FL2 : Hid (LoneS sesVals 34 (X2.alloc (.cells #[.string ⟨kn.toArray⟩, .int .i64 ki, .int .i64 ka, .int .i64 kb, .int .i64 kc, .string ⟨ks.toArray⟩] 34)) X2.heap.size ⟨kn, ki, ⟨ka, kb, kc, ks⟩⟩) := Lib.hid (loneS_new rfl rfl)
          have hL : W.heap.size ≤ X2.heap.size := FB.out.size
          refine hK.out _ _ ?_ (fun hHeld2 => ?_)
          · exact six_low FB2.out hwW hS0
          clear hK Kx hHeld
          have hHeld := hHeld2
          clear hHeld2
          try simp only [Act.put, List.setIfInBounds_toArray, List.set_cons_zero, List.set_cons_succ]
          clear FB FA
          generalize X2.alloc (.cells #[.string ⟨kn.toArray⟩, .int .i64 ki, .int .i64 ka, .int .i64 kb, .int .i64 kc, .string ⟨ks.toArray⟩] 34) = X3 at FL2 FA2 FB2 hHeld ⊢
          generalize X2.heap.size = bL at FL2 hL ⊢
          have FL := FL2
          clear FL2
          have FA := FA2
          clear FA2
          have FB := FB2
          clear FB2
          refine wpAnyH_ready (rs := [5, 10]) (by as_aux_lemma => kernel_rfl) (by simp) ?_
          refine AllReadyH.cons (o := { dst := some 40, op := Op.call { callee := Callee.builtin Builtin.append, args := #[Operand.tmp 37, Operand.tmp 39], argTypes := #[22, 22] }, type := 22, pos := "law.go:68", after := #[{ on := 2, ground := Ground.data }, { on := 4, ground := Ground.data }, { on := 2, ground := Ground.chain }], guard := none }) rfl (fun Kx hK => ?_) (AllReadyH.cons (o := { dst := some 7, op := Op.alloc 32, type := 0, pos := "law.go:68", after := #[], guard := none }) rfl (fun Kx hK => ?_) AllReadyH.nil)
          · skip
            refine step_append_L sesOK rfl (.tmp 37) (.tmp 39) rfl W.heap.size v1 l (by simp [Act.eval]; done) FA.out ⟨bL, 0, none⟩ 1 1 [⟨kn, ki, ⟨ka, kb, kc, ks⟩⟩] (by simp [Act.eval]; done) rfl FL.out.src (by simp) hlm2 FB.out.size ?_
            intro v2 X4 hout
            have FC2 : Hid (OwnSes X4 W.heap.size v2 (l ++ [⟨kn, ki, ⟨ka, kb, kc, ks⟩⟩])) := Lib.hid hout.1
            have FB2 := Lib.hid (FB.out.trans hout.2.2.1)
            go_simp
            refine hK.out _ _ ?_ (fun hHeld2 => ?_)
            · exact six_low FB2.out hwW hS0
            clear hK Kx hHeld
            have hHeld := hHeld2
            clear hHeld2
            try simp only [Act.put, List.setIfInBounds_toArray, List.set_cons_zero, List.set_cons_succ]
            clear FB FA FL hout
            have FC := FC2
            clear FC2
            have FB := FB2
            clear FB2
            refine wpAnyH_ready (rs := [6, 10]) (by as_aux_lemma => kernel_rfl) (by simp) ?_
            refine AllReadyH.cons (o := { dst := some 41, op := Op.call { callee := Callee.value (Operand.func 32), args := #[Operand.tmp 40], argTypes := #[22] }, type := 44, pos := "law.go:68", after := #[{ on := 5, ground := Ground.data }, { on := 5, ground := Ground.chain }], guard := none }) rfl (fun Kx hK => ?_) (AllReadyH.cons (o := { dst := some 7, op := Op.alloc 32, type := 0, pos := "law.go:68", after := #[], guard := none }) rfl (fun Kx hK => ?_) AllReadyH.nil)
            · skip
              go_simp
              refine (C2.out _ _ (FC.out.rd sesOK)).mono ?_
              rintro e X5 ⟨rfl, b9⟩
              have FB2 := Lib.hid (FB.out.trans (b9.mono FB.out.size))
              go_wp2_with fail
              refine hK.out _ _ ?_ (fun hHeld2 => ?_)
              · exact six_low FB2.out hwW hS0
              clear hK Kx hHeld
              have hHeld := hHeld2
              clear hHeld2
              try simp only [Act.put, List.setIfInBounds_toArray, List.set_cons_zero, List.set_cons_succ]
              clear FB FC b9
              have FB := FB2
              clear FB2
              refine wpAnyH_take (i := 7) (oi := { dst := some 34, op := Op.move (Operand.tmp 41), type := 44, pos := "law.go:68", after := #[{ on := 6, ground := Ground.data }], guard := none }) (v := ?_) rfl (by as_aux_lemma => kernel_rfl) (by as_aux_lemma => kernel_rfl) (by as_aux_lemma => kernel_rfl) (fun _ _ _ h => h) (Or.inl ⟨by rfl, ?_⟩) (by assumption) ?_
              rotate_left
              · intro w' hSw
                try dsimp only at hSw
                go_simp
                try with_reducible rfl
              try simp only [Act.put, List.setIfInBounds_toArray, List.set_cons_zero, List.set_cons_succ]
              refine wpAnyH_take (i := 8) (oi := { dst := some 42, op := Op.extract (Operand.tmp 34) 0, type := 32, pos := "law.go:68", after := #[{ on := 7, ground := Ground.data }], guard := none }) (v := ?_) rfl (by as_aux_lemma => kernel_rfl) (by as_aux_lemma => kernel_rfl) (by as_aux_lemma => kernel_rfl) (fun _ _ _ h => h) (Or.inl ⟨by rfl, ?_⟩) (by assumption) ?_
              rotate_left
              · intro w' hSw
                try dsimp only at hSw
                go_simp
                try with_reducible rfl
              try simp only [Act.put, List.setIfInBounds_toArray, List.set_cons_zero, List.set_cons_succ]
              refine wpAnyH_take (i := 9) (oi := { dst := some 43, op := Op.extract (Operand.tmp 34) 1, type := 4, pos := "law.go:68", after := #[{ on := 7, ground := Ground.data }, { on := 11, ground := Ground.gcOnly Departure.lateStores }], guard := none }) (v := ?_) rfl (by as_aux_lemma => kernel_rfl) (by as_aux_lemma => kernel_rfl) (by as_aux_lemma => kernel_rfl) (fun _ _ _ h => h) (Or.inl ⟨by rfl, ?_⟩) (by assumption) ?_
              rotate_left
              · intro w' hSw
                try dsimp only at hSw
                go_simp
                try with_reducible rfl
              try simp only [Act.put, List.setIfInBounds_toArray, List.set_cons_zero, List.set_cons_succ]
              refine wpAnyH_ready (rs := [10]) (by as_aux_lemma => kernel_rfl) (by simp) ?_
              refine AllReadyH.cons (o := { dst := some 7, op := Op.alloc 32, type := 0, pos := "law.go:68", after := #[], guard := none }) rfl (fun Kx hK => ?_) AllReadyH.nil
              · skip
                go_simp
                have FB2 : Hid (Below W.heap.size W (X5.alloc (.cells #[.int .i64 0, .int .i64 0, .int .i64 0, .string ⟨#[]⟩] 32))) := Lib.hid (FB.out.alloc FB.out.size _)
                have FP2 : Hid ((X5.alloc (.cells #[.int .i64 0, .int .i64 0, .int .i64 0, .string ⟨#[]⟩] 32)).heap[X5.heap.size]? = some (.cells #[.int .i64 0, .int .i64 0, .int .i64 0, .string ⟨#[]⟩] 32 (0, 0))) := Lib.hid (heap_alloc_new X5 _)
                have hP : W.heap.size ≤ X5.heap.size := FB.out.size
                refine hK.out _ _ ?_ (fun hHeld2 => ?_)
                · exact six_low FB2.out hwW hS0
                clear hK Kx hHeld
                have hHeld := hHeld2
                clear hHeld2
                try simp only [Act.put, List.setIfInBounds_toArray, List.set_cons_zero, List.set_cons_succ]
                clear FB 
                generalize X5.alloc (.cells #[.int .i64 0, .int .i64 0, .int .i64 0, .string ⟨#[]⟩] 32) = X6 at FP2 FB2 hHeld ⊢
                generalize X5.heap.size = bP at FP2 hP ⊢
                have FP := FP2
                clear FP2
                have FB := FB2
                clear FB2
                obtain ⟨p0, p1, p2, p3⟩ := row4 FP.out
                obtain ⟨g0, g1, g2, g3⟩ := free4 FP.out
                have FQ := Lib.hid (store4_cells (x0 := .int .i64 qa) (x1 := .int .i64 qb) (x2 := .int .i64 qc) (x3 := .string ⟨qs.toArray⟩) FP.out)
                have FB2 : Hid (Below W.heap.size W ((((X6.setCell ⟨bP, 0, none⟩ (.int .i64 qa)).setCell ⟨bP, 1, none⟩ (.int .i64 qb)).setCell ⟨bP, 2, none⟩ (.int .i64 qc)).setCell ⟨bP, 3, none⟩ (.string ⟨qs.toArray⟩))) := Lib.hid ((((FB.out.setCell hP _).setCell hP _).setCell hP _).setCell hP _)
                refine wpAnyH_ready (rs := [11]) (by as_aux_lemma => kernel_rfl) (by simp) ?_
                refine AllReadyH.cons (o := { dst := none, op := Op.store 32 (Operand.tmp 7) (Operand.tmp 42), type := 0, pos := "law.go:68", after := #[{ on := 10, ground := Ground.data }, { on := 8, ground := Ground.data }, { on := 6, ground := Ground.chain }, { on := 0, ground := Ground.phase }, { on := 1, ground := Ground.phase }, { on := 2, ground := Ground.phase }, { on := 3, ground := Ground.phase }, { on := 4, ground := Ground.phase }, { on := 5, ground := Ground.phase }, { on := 6, ground := Ground.phase }, { on := 7, ground := Ground.phase }, { on := 8, ground := Ground.phase }, { on := 9, ground := Ground.textOnly Departure.lateStores }, { on := 10, ground := Ground.phase }], guard := none }) rfl (fun Kx hK => ?_) AllReadyH.nil
                go_simp
                refine hK.out _ _ ?_ (fun hHeld2 => ?_)
                · exact six_low FB2.out hwW hS0
                clear hK Kx hHeld
                have hHeld := hHeld2
                clear hHeld2
                try simp only [Act.put, List.setIfInBounds_toArray, List.set_cons_zero, List.set_cons_succ]
                refine wpAnyH_take (i := 12) (oi := { dst := some 8, op := Op.assign (Operand.tmp 43), type := 4, pos := "law.go:68", after := #[{ on := 9, ground := Ground.data }, { on := 11, ground := Ground.chain }, { on := 0, ground := Ground.phase }, { on := 1, ground := Ground.phase }, { on := 2, ground := Ground.phase }, { on := 3, ground := Ground.phase }, { on := 4, ground := Ground.phase }, { on := 5, ground := Ground.phase }, { on := 6, ground := Ground.phase }, { on := 7, ground := Ground.phase }, { on := 8, ground := Ground.phase }, { on := 9, ground := Ground.phase }, { on := 10, ground := Ground.phase }, { on := 11, ground := Ground.phase }], guard := none }) (v := ?_) rfl (by as_aux_lemma => kernel_rfl) (by as_aux_lemma => kernel_rfl) (by as_aux_lemma => kernel_rfl) (fun _ _ _ h => h) (Or.inl ⟨by rfl, ?_⟩) (by assumption) ?_
                rotate_left
                · intro w' hSw
                  try dsimp only at hSw
                  go_simp
                  try with_reducible rfl
                try simp only [Act.put, List.setIfInBounds_toArray, List.set_cons_zero, List.set_cons_succ]
                refine wpAnyH_done (by kernel_rfl) ?_ _
                go_wp2_with fail
                go_meet
                exact ⟨bP, rfl, rfl, FQ, FB2⟩
            · skip
              go_simp
              have FC2 := Lib.hid (FC.out.alloc (.cells #[.int .i64 0, .int .i64 0, .int .i64 0, .string ⟨#[]⟩] 32))
              have FB2 : Hid (Below W.heap.size W (X4.alloc (.cells #[.int .i64 0, .int .i64 0, .int .i64 0, .string ⟨#[]⟩] 32))) := Lib.hid (FB.out.alloc FB.out.size _)
              have FP2 : Hid ((X4.alloc (.cells #[.int .i64 0, .int .i64 0, .int .i64 0, .string ⟨#[]⟩] 32)).heap[X4.heap.size]? = some (.cells #[.int .i64 0, .int .i64 0, .int .i64 0, .string ⟨#[]⟩] 32 (0, 0))) := Lib.hid (heap_alloc_new X4 _)
              have hP : W.heap.size ≤ X4.heap.size := FB.out.size
              refine hK.out _ _ ?_ (fun hHeld2 => ?_)
              · exact six_low FB2.out hwW hS0
              clear hK Kx hHeld
              have hHeld := hHeld2
              clear hHeld2
              try simp only [Act.put, List.setIfInBounds_toArray, List.set_cons_zero, List.set_cons_succ]
              clear FB FC
              generalize X4.alloc (.cells #[.int .i64 0, .int .i64 0, .int .i64 0, .string ⟨#[]⟩] 32) = X5 at FP2 FC2 FB2 hHeld ⊢
              generalize X4.heap.size = bP at FP2 hP ⊢
              have FP := FP2
              clear FP2
              have FC := FC2
              clear FC2
              have FB := FB2
              clear FB2
              refine wpAnyH_ready (rs := [6]) (by as_aux_lemma => kernel_rfl) (by simp) ?_
              refine AllReadyH.cons (o := { dst := some 41, op := Op.call { callee := Callee.value (Operand.func 32), args := #[Operand.tmp 40], argTypes := #[22] }, type := 44, pos := "law.go:68", after := #[{ on := 5, ground := Ground.data }, { on := 5, ground := Ground.chain }], guard := none }) rfl (fun Kx hK => ?_) AllReadyH.nil
              · skip
                go_simp
                refine (C2.out _ _ (FC.out.rd sesOK)).mono ?_
                rintro e X6 ⟨rfl, b9⟩
                have FB2 := Lib.hid (FB.out.trans (b9.mono FB.out.size))
                have FP2 := Lib.hid ((b9.block bP (Array.getElem?_eq_some_iff.1 FP.out).1).trans FP.out)
                go_wp2_with fail
                refine hK.out _ _ ?_ (fun hHeld2 => ?_)
                · exact six_low FB2.out hwW hS0
                clear hK Kx hHeld
                have hHeld := hHeld2
                clear hHeld2
                try simp only [Act.put, List.setIfInBounds_toArray, List.set_cons_zero, List.set_cons_succ]
                clear FB FC b9 FP
                have FP := FP2
                clear FP2
                have FB := FB2
                clear FB2
                refine wpAnyH_take (i := 7) (oi := { dst := some 34, op := Op.move (Operand.tmp 41), type := 44, pos := "law.go:68", after := #[{ on := 6, ground := Ground.data }], guard := none }) (v := ?_) rfl (by as_aux_lemma => kernel_rfl) (by as_aux_lemma => kernel_rfl) (by as_aux_lemma => kernel_rfl) (fun _ _ _ h => h) (Or.inl ⟨by rfl, ?_⟩) (by assumption) ?_
                rotate_left
                · intro w' hSw
                  try dsimp only at hSw
                  go_simp
                  try with_reducible rfl
                try simp only [Act.put, List.setIfInBounds_toArray, List.set_cons_zero, List.set_cons_succ]
                refine wpAnyH_take (i := 8) (oi := { dst := some 42, op := Op.extract (Operand.tmp 34) 0, type := 32, pos := "law.go:68", after := #[{ on := 7, ground := Ground.data }], guard := none }) (v := ?_) rfl (by as_aux_lemma => kernel_rfl) (by as_aux_lemma => kernel_rfl) (by as_aux_lemma => kernel_rfl) (fun _ _ _ h => h) (Or.inl ⟨by rfl, ?_⟩) (by assumption) ?_
                rotate_left
                · intro w' hSw
                  try dsimp only at hSw
                  go_simp
                  try with_reducible rfl
                try simp only [Act.put, List.setIfInBounds_toArray, List.set_cons_zero, List.set_cons_succ]
                refine wpAnyH_take (i := 9) (oi := { dst := some 43, op := Op.extract (Operand.tmp 34) 1, type := 4, pos := "law.go:68", after := #[{ on := 7, ground := Ground.data }, { on := 11, ground := Ground.gcOnly Departure.lateStores }], guard := none }) (v := ?_) rfl (by as_aux_lemma => kernel_rfl) (by as_aux_lemma => kernel_rfl) (by as_aux_lemma => kernel_rfl) (fun _ _ _ h => h) (Or.inl ⟨by rfl, ?_⟩) (by assumption) ?_
                rotate_left
                · intro w' hSw
                  try dsimp only at hSw
                  go_simp
                  try with_reducible rfl
                try simp only [Act.put, List.setIfInBounds_toArray, List.set_cons_zero, List.set_cons_succ]
                obtain ⟨p0, p1, p2, p3⟩ := row4 FP.out
                obtain ⟨g0, g1, g2, g3⟩ := free4 FP.out
                have FQ := Lib.hid (store4_cells (x0 := .int .i64 qa) (x1 := .int .i64 qb) (x2 := .int .i64 qc) (x3 := .string ⟨qs.toArray⟩) FP.out)
                have FB2 : Hid (Below W.heap.size W ((((X6.setCell ⟨bP, 0, none⟩ (.int .i64 qa)).setCell ⟨bP, 1, none⟩ (.int .i64 qb)).setCell ⟨bP, 2, none⟩ (.int .i64 qc)).setCell ⟨bP, 3, none⟩ (.string ⟨qs.toArray⟩))) := Lib.hid ((((FB.out.setCell hP _).setCell hP _).setCell hP _).setCell hP _)
                refine wpAnyH_ready (rs := [11]) (by as_aux_lemma => kernel_rfl) (by simp) ?_
                refine AllReadyH.cons (o := { dst := none, op := Op.store 32 (Operand.tmp 7) (Operand.tmp 42), type := 0, pos := "law.go:68", after := #[{ on := 10, ground := Ground.data }, { on := 8, ground := Ground.data }, { on := 6, ground := Ground.chain }, { on := 0, ground := Ground.phase }, { on := 1, ground := Ground.phase }, { on := 2, ground := Ground.phase }, { on := 3, ground := Ground.phase }, { on := 4, ground := Ground.phase }, { on := 5, ground := Ground.phase }, { on := 6, ground := Ground.phase }, { on := 7, ground := Ground.phase }, { on := 8, ground := Ground.phase }, { on := 9, ground := Ground.textOnly Departure.lateStores }, { on := 10, ground := Ground.phase }], guard := none }) rfl (fun Kx hK => ?_) AllReadyH.nil
                go_simp
                refine hK.out _ _ ?_ (fun hHeld2 => ?_)
                · exact six_low FB2.out hwW hS0
                clear hK Kx hHeld
                have hHeld := hHeld2
                clear hHeld2
                try simp only [Act.put, List.setIfInBounds_toArray, List.set_cons_zero, List.set_cons_succ]
                refine wpAnyH_take (i := 12) (oi := { dst := some 8, op := Op.assign (Operand.tmp 43), type := 4, pos := "law.go:68", after := #[{ on := 9, ground := Ground.data }, { on := 11, ground := Ground.chain }, { on := 0, ground := Ground.phase }, { on := 1, ground := Ground.phase }, { on := 2, ground := Ground.phase }, { on := 3, ground := Ground.phase }, { on := 4, ground := Ground.phase }, { on := 5, ground := Ground.phase }, { on := 6, ground := Ground.phase }, { on := 7, ground := Ground.phase }, { on := 8, ground := Ground.phase }, { on := 9, ground := Ground.phase }, { on := 10, ground := Ground.phase }, { on := 11, ground := Ground.phase }], guard := none }) (v := ?_) rfl (by as_aux_lemma => kernel_rfl) (by as_aux_lemma => kernel_rfl) (by as_aux_lemma => kernel_rfl) (fun _ _ _ h => h) (Or.inl ⟨by rfl, ?_⟩) (by assumption) ?_
                rotate_left
                · intro w' hSw
                  try dsimp only at hSw
                  go_simp
                  try with_reducible rfl
                try simp only [Act.put, List.setIfInBounds_toArray, List.set_cons_zero, List.set_cons_succ]
                refine wpAnyH_done (by kernel_rfl) ?_ _
                go_wp2_with fail
                go_meet
                exact ⟨bP, rfl, rfl, FQ, FB2⟩
          · skip
            go_simp
            have FL2 := Lib.hid (FL.out.later (bl_newZ X3 (.cells #[.int .i64 0, .int .i64 0, .int .i64 0, .string ⟨#[]⟩] 32)))
            have FA2 := Lib.hid (FA.out.alloc (.cells #[.int .i64 0, .int .i64 0, .int .i64 0, .string ⟨#[]⟩] 32))
            have FB2 : Hid (Below W.heap.size W (X3.alloc (.cells #[.int .i64 0, .int .i64 0, .int .i64 0, .string ⟨#[]⟩] 32))) := Lib.hid (FB.out.alloc FB.out.size _)
            have FP2 : Hid ((X3.alloc (.cells #[.int .i64 0, .int .i64 0, .int .i64 0, .string ⟨#[]⟩] 32)).heap[X3.heap.size]? = some (.cells #[.int .i64 0, .int .i64 0, .int .i64 0, .string ⟨#[]⟩] 32 (0, 0))) := Lib.hid (heap_alloc_new X3 _)
            have hP : W.heap.size ≤ X3.heap.size := FB.out.size
            refine hK.out _ _ ?_ (fun hHeld2 => ?_)
            · exact six_low FB2.out hwW hS0
            clear hK Kx hHeld
            have hHeld := hHeld2
            clear hHeld2
            try simp only [Act.put, List.setIfInBounds_toArray, List.set_cons_zero, List.set_cons_succ]
            clear FB FL FA
            generalize X3.alloc (.cells #[.int .i64 0, .int .i64 0, .int .i64 0, .string ⟨#[]⟩] 32) = X4 at FL2 FP2 FA2 FB2 hHeld ⊢
            generalize X3.heap.size = bP at FP2 hP ⊢
            have FL := FL2
            clear FL2
            have FP := FP2
            clear FP2
            have FA := FA2
            clear FA2
            have FB := FB2
            clear FB2
            refine wpAnyH_ready (rs := [5]) (by as_aux_lemma => kernel_rfl) (by simp) ?_
            refine AllReadyH.cons (o := { dst := some 40, op := Op.call { callee := Callee.builtin Builtin.append, args := #[Operand.tmp 37, Operand.tmp 39], argTypes := #[22, 22] }, type := 22, pos := "law.go:68", after := #[{ on := 2, ground := Ground.data }, { on := 4, ground := Ground.data }, { on := 2, ground := Ground.chain }], guard := none }) rfl (fun Kx hK => ?_) AllReadyH.nil
            · skip
              refine step_append_L sesOK rfl (.tmp 37) (.tmp 39) rfl W.heap.size v1 l (by simp [Act.eval]; done) FA.out ⟨bL, 0, none⟩ 1 1 [⟨kn, ki, ⟨ka, kb, kc, ks⟩⟩] (by simp [Act.eval]; done) rfl FL.out.src (by simp) hlm2 FB.out.size ?_
              intro v2 X5 hout
              have FC2 : Hid (OwnSes X5 W.heap.size v2 (l ++ [⟨kn, ki, ⟨ka, kb, kc, ks⟩⟩])) := Lib.hid hout.1
              have FB2 := Lib.hid (FB.out.trans hout.2.2.1)
              have FP2 := Lib.hid ((hout.2.2.2 bP (Array.getElem?_eq_some_iff.1 FP.out).1 (own_ne_ty FA.out FP.out (by decide))).trans FP.out)
              go_simp
              refine hK.out _ _ ?_ (fun hHeld2 => ?_)
              · exact six_low FB2.out hwW hS0
              clear hK Kx hHeld
              have hHeld := hHeld2
              clear hHeld2
              try simp only [Act.put, List.setIfInBounds_toArray, List.set_cons_zero, List.set_cons_succ]
              clear FB FA FL hout FP
              have FP := FP2
              clear FP2
              have FC := FC2
              clear FC2
              have FB := FB2
              clear FB2
              refine wpAnyH_ready (rs := [6]) (by as_aux_lemma => kernel_rfl) (by simp) ?_
              refine AllReadyH.cons (o := { dst := some 41, op := Op.call { callee := Callee.value (Operand.func 32), args := #[Operand.tmp 40], argTypes := #[22] }, type := 44, pos := "law.go:68", after := #[{ on := 5, ground := Ground.data }, { on := 5, ground := Ground.chain }], guard := none }) rfl (fun Kx hK => ?_) AllReadyH.nil
              · skip
                go_simp
                refine (C2.out _ _ (FC.out.rd sesOK)).mono ?_
                rintro e X6 ⟨rfl, b9⟩
                have FB2 := Lib.hid (FB.out.trans (b9.mono FB.out.size))
                have FP2 := Lib.hid ((b9.block bP (Array.getElem?_eq_some_iff.1 FP.out).1).trans FP.out)
                go_wp2_with fail
                refine hK.out _ _ ?_ (fun hHeld2 => ?_)
                · exact six_low FB2.out hwW hS0
                clear hK Kx hHeld
                have hHeld := hHeld2
                clear hHeld2
                try simp only [Act.put, List.setIfInBounds_toArray, List.set_cons_zero, List.set_cons_succ]
                clear FB FC b9 FP
                have FP := FP2
                clear FP2
                have FB := FB2
                clear FB2
                refine wpAnyH_take (i := 7) (oi := { dst := some 34, op := Op.move (Operand.tmp 41), type := 44, pos := "law.go:68", after := #[{ on := 6, ground := Ground.data }], guard := none }) (v := ?_) rfl (by as_aux_lemma => kernel_rfl) (by as_aux_lemma => kernel_rfl) (by as_aux_lemma => kernel_rfl) (fun _ _ _ h => h) (Or.inl ⟨by rfl, ?_⟩) (by assumption) ?_
                rotate_left
                · intro w' hSw
                  try dsimp only at hSw
                  go_simp
                  try with_reducible rfl
                try simp only [Act.put, List.setIfInBounds_toArray, List.set_cons_zero, List.set_cons_succ]
                refine wpAnyH_take (i := 8) (oi := { dst := some 42, op := Op.extract (Operand.tmp 34) 0, type := 32, pos := "law.go:68", after := #[{ on := 7, ground := Ground.data }], guard := none }) (v := ?_) rfl (by as_aux_lemma => kernel_rfl) (by as_aux_lemma => kernel_rfl) (by as_aux_lemma => kernel_rfl) (fun _ _ _ h => h) (Or.inl ⟨by rfl, ?_⟩) (by assumption) ?_
                rotate_left
                · intro w' hSw
                  try dsimp only at hSw
                  go_simp
                  try with_reducible rfl
                try simp only [Act.put, List.setIfInBounds_toArray, List.set_cons_zero, List.set_cons_succ]
                refine wpAnyH_take (i := 9) (oi := { dst := some 43, op := Op.extract (Operand.tmp 34) 1, type := 4, pos := "law.go:68", after := #[{ on := 7, ground := Ground.data }, { on := 11, ground := Ground.gcOnly Departure.lateStores }], guard := none }) (v := ?_) rfl (by as_aux_lemma => kernel_rfl) (by as_aux_lemma => kernel_rfl) (by as_aux_lemma => kernel_rfl) (fun _ _ _ h => h) (Or.inl ⟨by rfl, ?_⟩) (by assumption) ?_
                rotate_left
                · intro w' hSw
                  try dsimp only at hSw
                  go_simp
                  try with_reducible rfl
                try simp only [Act.put, List.setIfInBounds_toArray, List.set_cons_zero, List.set_cons_succ]
                obtain ⟨p0, p1, p2, p3⟩ := row4 FP.out
                obtain ⟨g0, g1, g2, g3⟩ := free4 FP.out
                have FQ := Lib.hid (store4_cells (x0 := .int .i64 qa) (x1 := .int .i64 qb) (x2 := .int .i64 qc) (x3 := .string ⟨qs.toArray⟩) FP.out)
                have FB2 : Hid (Below W.heap.size W ((((X6.setCell ⟨bP, 0, none⟩ (.int .i64 qa)).setCell ⟨bP, 1, none⟩ (.int .i64 qb)).setCell ⟨bP, 2, none⟩ (.int .i64 qc)).setCell ⟨bP, 3, none⟩ (.string ⟨qs.toArray⟩))) := Lib.hid ((((FB.out.setCell hP _).setCell hP _).setCell hP _).setCell hP _)
                refine wpAnyH_ready (rs := [11]) (by as_aux_lemma => kernel_rfl) (by simp) ?_
                refine AllReadyH.cons (o := { dst := none, op := Op.store 32 (Operand.tmp 7) (Operand.tmp 42), type := 0, pos := "law.go:68", after := #[{ on := 10, ground := Ground.data }, { on := 8, ground := Ground.data }, { on := 6, ground := Ground.chain }, { on := 0, ground := Ground.phase }, { on := 1, ground := Ground.phase }, { on := 2, ground := Ground.phase }, { on := 3, ground := Ground.phase }, { on := 4, ground := Ground.phase }, { on := 5, ground := Ground.phase }, { on := 6, ground := Ground.phase }, { on := 7, ground := Ground.phase }, { on := 8, ground := Ground.phase }, { on := 9, ground := Ground.textOnly Departure.lateStores }, { on := 10, ground := Ground.phase }], guard := none }) rfl (fun Kx hK => ?_) AllReadyH.nil
                go_simp
                refine hK.out _ _ ?_ (fun hHeld2 => ?_)
                · exact six_low FB2.out hwW hS0
                clear hK Kx hHeld
                have hHeld := hHeld2
                clear hHeld2
                try simp only [Act.put, List.setIfInBounds_toArray, List.set_cons_zero, List.set_cons_succ]
                refine wpAnyH_take (i := 12) (oi := { dst := some 8, op := Op.assign (Operand.tmp 43), type := 4, pos := "law.go:68", after := #[{ on := 9, ground := Ground.data }, { on := 11, ground := Ground.chain }, { on := 0, ground := Ground.phase }, { on := 1, ground := Ground.phase }, { on := 2, ground := Ground.phase }, { on := 3, ground := Ground.phase }, { on := 4, ground := Ground.phase }, { on := 5, ground := Ground.phase }, { on := 6, ground := Ground.phase }, { on := 7, ground := Ground.phase }, { on := 8, ground := Ground.phase }, { on := 9, ground := Ground.phase }, { on := 10, ground := Ground.phase }, { on := 11, ground := Ground.phase }], guard := none }) (v := ?_) rfl (by as_aux_lemma => kernel_rfl) (by as_aux_lemma => kernel_rfl) (by as_aux_lemma => kernel_rfl) (fun _ _ _ h => h) (Or.inl ⟨by rfl, ?_⟩) (by assumption) ?_
                rotate_left
                · intro w' hSw
                  try dsimp only at hSw
                  go_simp
                  try with_reducible rfl
                try simp only [Act.put, List.setIfInBounds_toArray, List.set_cons_zero, List.set_cons_succ]
                refine wpAnyH_done (by kernel_rfl) ?_ _
                go_wp2_with fail
                go_meet
                exact ⟨bP, rfl, rfl, FQ, FB2⟩
        · skip
          go_simp
          have FA2 := Lib.hid (FA.out.alloc (.cells #[.int .i64 0, .int .i64 0, .int .i64 0, .string ⟨#[]⟩] 32))
          have FB2 : Hid (Below W.heap.size W (X2.alloc (.cells #[.int .i64 0, .int .i64 0, .int .i64 0, .string ⟨#[]⟩] 32))) := Lib.hid (FB.out.alloc FB.out.size _)
          have FP2 : Hid ((X2.alloc (.cells #[.int .i64 0, .int .i64 0, .int .i64 0, .string ⟨#[]⟩] 32)).heap[X2.heap.size]? = some (.cells #[.int .i64 0, .int .i64 0, .int .i64 0, .string ⟨#[]⟩] 32 (0, 0))) := Lib.hid (heap_alloc_new X2 _)
          have hP : W.heap.size ≤ X2.heap.size := FB.out.size
          refine hK.out _ _ ?_ (fun hHeld2 => ?_)
          · exact six_low FB2.out hwW hS0
          clear hK Kx hHeld
          have hHeld := hHeld2
          clear hHeld2
          try simp only [Act.put, List.setIfInBounds_toArray, List.set_cons_zero, List.set_cons_succ]
          clear FB FA
          generalize X2.alloc (.cells #[.int .i64 0, .int .i64 0, .int .i64 0, .string ⟨#[]⟩] 32) = X3 at FP2 FA2 FB2 hHeld ⊢
          generalize X2.heap.size = bP at FP2 hP ⊢
          have FP := FP2
          clear FP2
          have FA := FA2
          clear FA2
          have FB := FB2
          clear FB2
          refine wpAnyH_ready (rs := [4]) (by as_aux_lemma => kernel_rfl) (by simp) ?_
          refine AllReadyH.cons (o := { dst := some 39, op := Op.buildSlice 22 1 #[(0, Operand.tmp 38)], type := 22, pos := "law.go:68", after := #[{ on := 3, ground := Ground.data }], guard := none }) rfl (fun Kx hK => ?_) AllReadyH.nil
          · skip
            go_simp
            have FP2 := Lib.hid (at_old (o := .cells #[.string ⟨kn.toArray⟩, .int .i64 ki, .int .i64 ka, .int .i64 kb, .int .i64 kc, .string ⟨ks.toArray⟩] 34) FP.out)
            have FA2 := Lib.hid (FA.out.alloc (.cells #[.string ⟨kn.toArray⟩, .int .i64 ki, .int .i64 ka, .int .i64 kb, .int .i64 kc, .string ⟨ks.toArray⟩] 34))
            have FB2 : Hid (Below W.heap.size W (X3.alloc (.cells #[.string ⟨kn.toArray⟩, .int .i64 ki, .int .i64 ka, .int .i64 kb, .int .i64 kc, .string ⟨ks.toArray⟩] 34))) := Lib.hid (FB.out.alloc FB.out.size _)
            have FL2 : Hid (LoneS sesVals 34 (X3.alloc (.cells #[.string ⟨kn.toArray⟩, .int .i64 ki, .int .i64 ka, .int .i64 kb, .int .i64 kc, .string ⟨ks.toArray⟩] 34)) X3.heap.size ⟨kn, ki, ⟨ka, kb, kc, ks⟩⟩) := Lib.hid (loneS_new rfl rfl)
            have hL : W.heap.size ≤ X3.heap.size := FB.out.size
            refine hK.out _ _ ?_ (fun hHeld2 => ?_)
            · exact six_low FB2.out hwW hS0
            clear hK Kx hHeld
            have hHeld := hHeld2
            clear hHeld2
            try simp only [Act.put, List.setIfInBounds_toArray, List.set_cons_zero, List.set_cons_succ]
            clear FB FP FA
            generalize X3.alloc (.cells #[.string ⟨kn.toArray⟩, .int .i64 ki, .int .i64 ka, .int .i64 kb, .int .i64 kc, .string ⟨ks.toArray⟩] 34) = X4 at FL2 FP2 FA2 FB2 hHeld ⊢
            generalize X3.heap.size = bL at FL2 hL ⊢
            have FL := FL2
            clear FL2
            have FP := FP2
            clear FP2
            have FA := FA2
            clear FA2
            have FB := FB2
            clear FB2
            refine wpAnyH_ready (rs := [5]) (by as_aux_lemma => kernel_rfl) (by simp) ?_
            refine AllReadyH.cons (o := { dst := some 40, op := Op.call { callee := Callee.builtin Builtin.append, args := #[Operand.tmp 37, Operand.tmp 39], argTypes := #[22, 22] }, type := 22, pos := "law.go:68", after := #[{ on := 2, ground := Ground.data }, { on := 4, ground := Ground.data }, { on := 2, ground := Ground.chain }], guard := none }) rfl (fun Kx hK => ?_) AllReadyH.nil
            · skip
              refine step_append_L sesOK rfl (.tmp 37) (.tmp 39) rfl W.heap.size v1 l (by simp [Act.eval]; done) FA.out ⟨bL, 0, none⟩ 1 1 [⟨kn, ki, ⟨ka, kb, kc, ks⟩⟩] (by simp [Act.eval]; done) rfl FL.out.src (by simp) hlm2 FB.out.size ?_
              intro v2 X5 hout
              have FC2 : Hid (OwnSes X5 W.heap.size v2 (l ++ [⟨kn, ki, ⟨ka, kb, kc, ks⟩⟩])) := Lib.hid hout.1
              have FB2 := Lib.hid (FB.out.trans hout.2.2.1)
              have FP2 := Lib.hid ((hout.2.2.2 bP (Array.getElem?_eq_some_iff.1 FP.out).1 (own_ne_ty FA.out FP.out (by decide))).trans FP.out)
              go_simp
              refine hK.out _ _ ?_ (fun hHeld2 => ?_)
              · exact six_low FB2.out hwW hS0
              clear hK Kx hHeld
              have hHeld := hHeld2
              clear hHeld2
              try simp only [Act.put, List.setIfInBounds_toArray, List.set_cons_zero, List.set_cons_succ]
              clear FB FA FL hout FP
              have FP := FP2
              clear FP2
              have FC := FC2
              clear FC2
              have FB := FB2
              clear FB2
              refine wpAnyH_ready (rs := [6]) (by as_aux_lemma => kernel_rfl) (by simp) ?_
              refine AllReadyH.cons (o := { dst := some 41, op := Op.call { callee := Callee.value (Operand.func 32), args := #[Operand.tmp 40], argTypes := #[22] }, type := 44, pos := "law.go:68", after := #[{ on := 5, ground := Ground.data }, { on := 5, ground := Ground.chain }], guard := none }) rfl (fun Kx hK => ?_) AllReadyH.nil
              · skip
                go_simp
                refine (C2.out _ _ (FC.out.rd sesOK)).mono ?_
                rintro e X6 ⟨rfl, b9⟩
                have FB2 := Lib.hid (FB.out.trans (b9.mono FB.out.size))
                have FP2 := Lib.hid ((b9.block bP (Array.getElem?_eq_some_iff.1 FP.out).1).trans FP.out)
                go_wp2_with fail
                refine hK.out _ _ ?_ (fun hHeld2 => ?_)
                · exact six_low FB2.out hwW hS0
                clear hK Kx hHeld
                have hHeld := hHeld2
                clear hHeld2
                try simp only [Act.put, List.setIfInBounds_toArray, List.set_cons_zero, List.set_cons_succ]
                clear FB FC b9 FP
                have FP := FP2
                clear FP2
                have FB := FB2
                clear FB2
                refine wpAnyH_take (i := 7) (oi := { dst := some 34, op := Op.move (Operand.tmp 41), type := 44, pos := "law.go:68", after := #[{ on := 6, ground := Ground.data }], guard := none }) (v := ?_) rfl (by as_aux_lemma => kernel_rfl) (by as_aux_lemma => kernel_rfl) (by as_aux_lemma => kernel_rfl) (fun _ _ _ h => h) (Or.inl ⟨by rfl, ?_⟩) (by assumption) ?_
                rotate_left
                · intro w' hSw
                  try dsimp only at hSw
                  go_simp
                  try with_reducible rfl
                try simp only [Act.put, List.setIfInBounds_toArray, List.set_cons_zero, List.set_cons_succ]
                refine wpAnyH_take (i := 8) (oi := { dst := some 42, op := Op.extract (Operand.tmp 34) 0, type := 32, pos := "law.go:68", after := #[{ on := 7, ground := Ground.data }], guard := none }) (v := ?_) rfl (by as_aux_lemma => kernel_rfl) (by as_aux_lemma => kernel_rfl) (by as_aux_lemma => kernel_rfl) (fun _ _ _ h => h) (Or.inl ⟨by rfl, ?_⟩) (by assumption) ?_
                rotate_left
                · intro w' hSw
                  try dsimp only at hSw
                  go_simp
                  try with_reducible rfl
                try simp only [Act.put, List.setIfInBounds_toArray, List.set_cons_zero, List.set_cons_succ]
                refine wpAnyH_take (i := 9) (oi := { dst := some 43, op := Op.extract (Operand.tmp 34) 1, type := 4, pos := "law.go:68", after := #[{ on := 7, ground := Ground.data }, { on := 11, ground := Ground.gcOnly Departure.lateStores }], guard := none }) (v := ?_) rfl (by as_aux_lemma => kernel_rfl) (by as_aux_lemma => kernel_rfl) (by as_aux_lemma => kernel_rfl) (fun _ _ _ h => h) (Or.inl ⟨by rfl, ?_⟩) (by assumption) ?_
                rotate_left
                · intro w' hSw
                  try dsimp only at hSw
                  go_simp
                  try with_reducible rfl
                try simp only [Act.put, List.setIfInBounds_toArray, List.set_cons_zero, List.set_cons_succ]
                obtain ⟨p0, p1, p2, p3⟩ := row4 FP.out
                obtain ⟨g0, g1, g2, g3⟩ := free4 FP.out
                have FQ := Lib.hid (store4_cells (x0 := .int .i64 qa) (x1 := .int .i64 qb) (x2 := .int .i64 qc) (x3 := .string ⟨qs.toArray⟩) FP.out)
                have FB2 : Hid (Below W.heap.size W ((((X6.setCell ⟨bP, 0, none⟩ (.int .i64 qa)).setCell ⟨bP, 1, none⟩ (.int .i64 qb)).setCell ⟨bP, 2, none⟩ (.int .i64 qc)).setCell ⟨bP, 3, none⟩ (.string ⟨qs.toArray⟩))) := Lib.hid ((((FB.out.setCell hP _).setCell hP _).setCell hP _).setCell hP _)
                refine wpAnyH_ready (rs := [11]) (by as_aux_lemma => kernel_rfl) (by simp) ?_
                refine AllReadyH.cons (o := { dst := none, op := Op.store 32 (Operand.tmp 7) (Operand.tmp 42), type := 0, pos := "law.go:68", after := #[{ on := 10, ground := Ground.data }, { on := 8, ground := Ground.data }, { on := 6, ground := Ground.chain }, { on := 0, ground := Ground.phase }, { on := 1, ground := Ground.phase }, { on := 2, ground := Ground.phase }, { on := 3, ground := Ground.phase }, { on := 4, ground := Ground.phase }, { on := 5, ground := Ground.phase }, { on := 6, ground := Ground.phase }, { on := 7, ground := Ground.phase }, { on := 8, ground := Ground.phase }, { on := 9, ground := Ground.textOnly Departure.lateStores }, { on := 10, ground := Ground.phase }], guard := none }) rfl (fun Kx hK => ?_) AllReadyH.nil
                go_simp
                refine hK.out _ _ ?_ (fun hHeld2 => ?_)
                · exact six_low FB2.out hwW hS0
                clear hK Kx hHeld
                have hHeld := hHeld2
                clear hHeld2
                try simp only [Act.put, List.setIfInBounds_toArray, List.set_cons_zero, List.set_cons_succ]
                refine wpAnyH_take (i := 12) (oi := { dst := some 8, op := Op.assign (Operand.tmp 43), type := 4, pos := "law.go:68", after := #[{ on := 9, ground := Ground.data }, { on := 11, ground := Ground.chain }, { on := 0, ground := Ground.phase }, { on := 1, ground := Ground.phase }, { on := 2, ground := Ground.phase }, { on := 3, ground := Ground.phase }, { on := 4, ground := Ground.phase }, { on := 5, ground := Ground.phase }, { on := 6, ground := Ground.phase }, { on := 7, ground := Ground.phase }, { on := 8, ground := Ground.phase }, { on := 9, ground := Ground.phase }, { on := 10, ground := Ground.phase }, { on := 11, ground := Ground.phase }], guard := none }) (v := ?_) rfl (by as_aux_lemma => kernel_rfl) (by as_aux_lemma => kernel_rfl) (by as_aux_lemma => kernel_rfl) (fun _ _ _ h => h) (Or.inl ⟨by rfl, ?_⟩) (by assumption) ?_
                rotate_left
                · intro w' hSw
                  try dsimp only at hSw
                  go_simp
                  try with_reducible rfl
                try simp only [Act.put, List.setIfInBounds_toArray, List.set_cons_zero, List.set_cons_succ]
                refine wpAnyH_done (by kernel_rfl) ?_ _
                go_wp2_with fail
                go_meet
                exact ⟨bP, rfl, rfl, FQ, FB2⟩
      · skip
        go_simp
        have FE2 := Lib.hid (at_old (o := .cells #[.string ⟨kn.toArray⟩, .int .i64 ki, .int .i64 ka, .int .i64 kb, .int .i64 kc, .string ⟨ks.toArray⟩] 34) FE.out)
        have FB2 : Hid (Below W.heap.size W (X1.alloc (.cells #[.string ⟨kn.toArray⟩, .int .i64 ki, .int .i64 ka, .int .i64 kb, .int .i64 kc, .string ⟨ks.toArray⟩] 34))) := Lib.hid (FB.out.alloc FB.out.size _)
        have FL2 : Hid (LoneS sesVals 34 (X1.alloc (.cells #[.string ⟨kn.toArray⟩, .int .i64 ki, .int .i64 ka, .int .i64 kb, .int .i64 kc, .string ⟨ks.toArray⟩] 34)) X1.heap.size ⟨kn, ki, ⟨ka, kb, kc, ks⟩⟩) := Lib.hid (loneS_new rfl rfl)
        have hL : W.heap.size ≤ X1.heap.size := FB.out.size
        refine hK.out _ _ ?_ (fun hHeld2 => ?_)
        · exact six_low FB2.out hwW hS0
        clear hK Kx hHeld
        have hHeld := hHeld2
        clear hHeld2
        try simp only [Act.put, List.setIfInBounds_toArray, List.set_cons_zero, List.set_cons_succ]
        clear FB FE
        generalize X1.alloc (.cells #[.string ⟨kn.toArray⟩, .int .i64 ki, .int .i64 ka, .int .i64 kb, .int .i64 kc, .string ⟨ks.toArray⟩] 34) = X2 at FE2 FL2 FB2 hHeld ⊢
        generalize X1.heap.size = bL at FL2 hL ⊢
        have FE := FE2
        clear FE2
        have FL := FL2
        clear FL2
        have FB := FB2
        clear FB2
        refine wpAnyH_ready (rs := [2, 10]) (by as_aux_lemma => kernel_rfl) (by simp) ?_
        refine AllReadyH.cons (o := { dst := some 37, op := Op.call { callee := Callee.builtin Builtin.append, args := #[Operand.tmp 35, Operand.tmp 36], argTypes := #[22, 22] }, type := 22, pos := "law.go:68", after := #[{ on := 0, ground := Ground.data }, { on := 1, ground := Ground.data }], guard := none }) rfl (fun Kx hK => ?_) (AllReadyH.cons (o := { dst := some 7, op := Op.alloc 32, type := 0, pos := "law.go:68", after := #[], guard := none }) rfl (fun Kx hK => ?_) AllReadyH.nil)
        · skip
          refine step_append_L sesOK rfl (.tmp 35) (.tmp 36) rfl W.heap.size (.slice (some ⟨bE, 0, none⟩) 0 0) [] (by simp [Act.eval]; done) (own_fresh FE.out hE) ⟨bl, ol, none⟩ l.length cap l (by simp [Act.eval]; done) rfl (srcS_up SV.out FB.out) h0 hlm FB.out.size ?_
          intro v1 X3 hout
          have FA2 : Hid (OwnSes X3 W.heap.size v1 l) := Lib.hid hout.1
          have FB2 := Lib.hid (FB.out.trans hout.2.2.1)
          have FL2 := Lib.hid (lone_keep FL.out (hout.2.2.2 bL FL.out.lt (lone_ne FL.out FE.out)))
          go_simp
          refine hK.out _ _ ?_ (fun hHeld2 => ?_)
          · exact six_low FB2.out hwW hS0
          clear hK Kx hHeld
          have hHeld := hHeld2
          clear hHeld2
          try simp only [Act.put, List.setIfInBounds_toArray, List.set_cons_zero, List.set_cons_succ]
          clear FB FE hout FL
          have FL := FL2
          clear FL2
          have FA := FA2
          clear FA2
          have FB := FB2
          clear FB2
          refine wpAnyH_ready (rs := [5, 10]) (by as_aux_lemma => kernel_rfl) (by simp) ?_
          refine AllReadyH.cons (o := { dst := some 40, op := Op.call { callee := Callee.builtin Builtin.append, args := #[Operand.tmp 37, Operand.tmp 39], argTypes := #[22, 22] }, type := 22, pos := "law.go:68", after := #[{ on := 2, ground := Ground.data }, { on := 4, ground := Ground.data }, { on := 2, ground := Ground.chain }], guard := none }) rfl (fun Kx hK => ?_) (AllReadyH.cons (o := { dst := some 7, op := Op.alloc 32, type := 0, pos := "law.go:68", after := #[], guard := none }) rfl (fun Kx hK => ?_) AllReadyH.nil)
          · skip
            refine step_append_L sesOK rfl (.tmp 37) (.tmp 39) rfl W.heap.size v1 l (by simp [Act.eval]; done) FA.out ⟨bL, 0, none⟩ 1 1 [⟨kn, ki, ⟨ka, kb, kc, ks⟩⟩] (by simp [Act.eval]; done) rfl FL.out.src (by simp) hlm2 FB.out.size ?_
            intro v2 X4 hout
            have FC2 : Hid (OwnSes X4 W.heap.size v2 (l ++ [⟨kn, ki, ⟨ka, kb, kc, ks⟩⟩])) := Lib.hid hout.1
            have FB2 := Lib.hid (FB.out.trans hout.2.2.1)
            go_simp
            refine hK.out _ _ ?_ (fun hHeld2 => ?_)
            · exact six_low FB2.out hwW hS0
            clear hK Kx hHeld
            have hHeld := hHeld2
            clear hHeld2
            try simp only [Act.put, List.setIfInBounds_toArray, List.set_cons_zero, List.set_cons_succ]
            clear FB FA FL hout
            have FC := FC2
            clear FC2
            have FB := FB2
            clear FB2
            refine wpAnyH_ready (rs := [6, 10]) (by as_aux_lemma => kernel_rfl) (by simp) ?_
            refine AllReadyH.cons (o := { dst := some 41, op := Op.call { callee := Callee.value (Operand.func 32), args := #[Operand.tmp 40], argTypes := #[22] }, type := 44, pos := "law.go:68", after := #[{ on := 5, ground := Ground.data }, { on := 5, ground := Ground.chain }], guard := none }) rfl (fun Kx hK => ?_) (AllReadyH.cons (o := { dst := some 7, op := Op.alloc 32, type := 0, pos := "law.go:68", after := #[], guard := none }) rfl (fun Kx hK => ?_) AllReadyH.nil)
            · skip
              go_simp
              refine (C2.out _ _ (FC.out.rd sesOK)).mono ?_
              rintro e X5 ⟨rfl, b9⟩
              have FB2 := Lib.hid (FB.out.trans (b9.mono FB.out.size))
              go_wp2_with fail
              refine hK.out _ _ ?_ (fun hHeld2 => ?_)
              · exact six_low FB2.out hwW hS0
              clear hK Kx hHeld
              have hHeld := hHeld2
              clear hHeld2
              try simp only [Act.put, List.setIfInBounds_toArray, List.set_cons_zero, List.set_cons_succ]
              clear FB FC b9
              have FB := FB2
              clear FB2
              refine wpAnyH_take (i := 7) (oi := { dst := some 34, op := Op.move (Operand.tmp 41), type := 44, pos := "law.go:68", after := #[{ on := 6, ground := Ground.data }], guard := none }) (v := ?_) rfl (by as_aux_lemma => kernel_rfl) (by as_aux_lemma => kernel_rfl) (by as_aux_lemma => kernel_rfl) (fun _ _ _ h => h) (Or.inl ⟨by rfl, ?_⟩) (by assumption) ?_
              rotate_left
              · intro w' hSw
                try dsimp only at hSw
                go_simp
                try with_reducible rfl
              try simp only [Act.put, List.setIfInBounds_toArray, List.set_cons_zero, List.set_cons_succ]
              refine wpAnyH_take (i := 8) (oi := { dst := some 42, op := Op.extract (Operand.tmp 34) 0, type := 32, pos := "law.go:68", after := #[{ on := 7, ground := Ground.data }], guard := none }) (v := ?_) rfl (by as_aux_lemma => kernel_rfl) (by as_aux_lemma => kernel_rfl) (by as_aux_lemma => kernel_rfl) (fun _ _ _ h => h) (Or.inl ⟨by rfl, ?_⟩) (by assumption) ?_
              rotate_left
              · intro w' hSw
                try dsimp only at hSw
                go_simp
                try with_reducible rfl
              try simp only [Act.put, List.setIfInBounds_toArray, List.set_cons_zero, List.set_cons_succ]
              refine wpAnyH_take (i := 9) (oi := { dst := some 43, op := Op.extract (Operand.tmp 34) 1, type := 4, pos := "law.go:68", after := #[{ on := 7, ground := Ground.data }, { on := 11, ground := Ground.gcOnly Departure.lateStores }], guard := none }) (v := ?_) rfl (by as_aux_lemma => kernel_rfl) (by as_aux_lemma => kernel_rfl) (by as_aux_lemma => kernel_rfl) (fun _ _ _ h => h) (Or.inl ⟨by rfl, ?_⟩) (by assumption) ?_
              rotate_left
              · intro w' hSw
                try dsimp only at hSw
                go_simp
                try with_reducible rfl
              try simp only [Act.put, List.setIfInBounds_toArray, List.set_cons_zero, List.set_cons_succ]
              refine wpAnyH_ready (rs := [10]) (by as_aux_lemma => kernel_rfl) (by simp) ?_
              refine AllReadyH.cons (o := { dst := some 7, op := Op.alloc 32, type := 0, pos := "law.go:68", after := #[], guard := none }) rfl (fun Kx hK => ?_) AllReadyH.nil
              · skip
                go_simp
                have FB2 : Hid (Below W.heap.size W (X5.alloc (.cells #[.int .i64 0, .int .i64 0, .int .i64 0, .string ⟨#[]⟩] 32))) := Lib.hid (FB.out.alloc FB.out.size _)
                have FP2 : Hid ((X5.alloc (.cells #[.int .i64 0, .int .i64 0, .int .i64 0, .string ⟨#[]⟩] 32)).heap[X5.heap.size]? = some (.cells #[.int .i64 0, .int .i64 0, .int .i64 0, .string ⟨#[]⟩] 32 (0, 0))) := Lib.hid (heap_alloc_new X5 _)
                have hP : W.heap.size ≤ X5.heap.size := FB.out.size
                refine hK.out _ _ ?_ (fun hHeld2 => ?_)
                · exact six_low FB2.out hwW hS0
                clear hK Kx hHeld
                have hHeld := hHeld2
                clear hHeld2
                try simp only [Act.put, List.setIfInBounds_toArray, List.set_cons_zero, List.set_cons_succ]
                clear FB 
                generalize X5.alloc (.cells #[.int .i64 0, .int .i64 0, .int .i64 0, .string ⟨#[]⟩] 32) = X6 at FP2 FB2 hHeld ⊢
                generalize X5.heap.size = bP at FP2 hP ⊢
                have FP := FP2
                clear FP2
                have FB := FB2
                clear FB2
                obtain ⟨p0, p1, p2, p3⟩ := row4 FP.out
                obtain ⟨g0, g1, g2, g3⟩ := free4 FP.out
                have FQ := Lib.hid (store4_cells (x0 := .int .i64 qa) (x1 := .int .i64 qb) (x2 := .int .i64 qc) (x3 := .string ⟨qs.toArray⟩) FP.out)
                have FB2 : Hid (Below W.heap.size W ((((X6.setCell ⟨bP, 0, none⟩ (.int .i64 qa)).setCell ⟨bP, 1, none⟩ (.int .i64 qb)).setCell ⟨bP, 2, none⟩ (.int .i64 qc)).setCell ⟨bP, 3, none⟩ (.string ⟨qs.toArray⟩))) := Lib.hid ((((FB.out.setCell hP _).setCell hP _).setCell hP _).setCell hP _)
                refine wpAnyH_ready (rs := [11]) (by as_aux_lemma => kernel_rfl) (by simp) ?_
                refine AllReadyH.cons (o := { dst := none, op := Op.store 32 (Operand.tmp 7) (Operand.tmp 42), type := 0, pos := "law.go:68", after := #[{ on := 10, ground := Ground.data }, { on := 8, ground := Ground.data }, { on := 6, ground := Ground.chain }, { on := 0, ground := Ground.phase }, { on := 1, ground := Ground.phase }, { on := 2, ground := Ground.phase }, { on := 3, ground := Ground.phase }, { on := 4, ground := Ground.phase }, { on := 5, ground := Ground.phase }, { on := 6, ground := Ground.phase }, { on := 7, ground := Ground.phase }, { on := 8, ground := Ground.phase }, { on := 9, ground := Ground.textOnly Departure.lateStores }, { on := 10, ground := Ground.phase }], guard := none }) rfl (fun Kx hK => ?_) AllReadyH.nil
                go_simp
                refine hK.out _ _ ?_ (fun hHeld2 => ?_)
                · exact six_low FB2.out hwW hS0
                clear hK Kx hHeld
                have hHeld := hHeld2
                clear hHeld2
                try simp only [Act.put, List.setIfInBounds_toArray, List.set_cons_zero, List.set_cons_succ]
                refine wpAnyH_take (i := 12) (oi := { dst := some 8, op := Op.assign (Operand.tmp 43), type := 4, pos := "law.go:68", after := #[{ on := 9, ground := Ground.data }, { on := 11, ground := Ground.chain }, { on := 0, ground := Ground.phase }, { on := 1, ground := Ground.phase }, { on := 2, ground := Ground.phase }, { on := 3, ground := Ground.phase }, { on := 4, ground := Ground.phase }, { on := 5, ground := Ground.phase }, { on := 6, ground := Ground.phase }, { on := 7, ground := Ground.phase }, { on := 8, ground := Ground.phase }, { on := 9, ground := Ground.phase }, { on := 10, ground := Ground.phase }, { on := 11, ground := Ground.phase }], guard := none }) (v := ?_) rfl (by as_aux_lemma => kernel_rfl) (by as_aux_lemma => kernel_rfl) (by as_aux_lemma => kernel_rfl) (fun _ _ _ h => h) (Or.inl ⟨by rfl, ?_⟩) (by assumption) ?_
                rotate_left
                · intro w' hSw
                  try dsimp only at hSw
                  go_simp
                  try with_reducible rfl
                try simp only [Act.put, List.setIfInBounds_toArray, List.set_cons_zero, List.set_cons_succ]
                refine wpAnyH_done (by kernel_rfl) ?_ _
                go_wp2_with fail
                go_meet
                exact ⟨bP, rfl, rfl, FQ, FB2⟩
            · skip
              go_simp
              have FC2 := Lib.hid (FC.out.alloc (.cells #[.int .i64 0, .int .i64 0, .int .i64 0, .string ⟨#[]⟩] 32))
              have FB2 : Hid (Below W.heap.size W (X4.alloc (.cells #[.int .i64 0, .int .i64 0, .int .i64 0, .string ⟨#[]⟩] 32))) := Lib.hid (FB.out.alloc FB.out.size _)
              have FP2 : Hid ((X4.alloc (.cells #[.int .i64 0, .int .i64 0, .int .i64 0, .string ⟨#[]⟩] 32)).heap[X4.heap.size]? = some (.cells #[.int .i64 0, .int .i64 0, .int .i64 0, .string ⟨#[]⟩] 32 (0, 0))) := Lib.hid (heap_alloc_new X4 _)
              have hP : W.heap.size ≤ X4.heap.size := FB.out.size
              refine hK.out _ _ ?_ (fun hHeld2 => ?_)
              · exact six_low FB2.out hwW hS0
              clear hK Kx hHeld
              have hHeld := hHeld2
              clear hHeld2
              try simp only [Act.put, List.setIfInBounds_toArray, List.set_cons_zero, List.set_cons_succ]
              clear FB FC
              generalize X4.alloc (.cells #[.int .i64 0, .int .i64 0, .int .i64 0, .string ⟨#[]⟩] 32) = X5 at FP2 FC2 FB2 hHeld ⊢
              generalize X4.heap.size = bP at FP2 hP ⊢
              have FP := FP2
              clear FP2
              have FC := FC2
              clear FC2
              have FB := FB2
              clear FB2
              refine wpAnyH_ready (rs := [6]) (by as_aux_lemma => kernel_rfl) (by simp) ?_
              refine AllReadyH.cons (o := { dst := some 41, op := Op.call { callee := Callee.value (Operand.func 32), args := #[Operand.tmp 40], argTypes := #[22] }, type := 44, pos := "law.go:68", after := #[{ on := 5, ground := Ground.data }, { on := 5, ground := Ground.chain }], guard := none }) rfl (fun Kx hK => ?_) AllReadyH.nil
              · skip
                go_simp
                refine (C2.out _ _ (FC.out.rd sesOK)).mono ?_
                rintro e X6 ⟨rfl, b9⟩
                have FB2 := Lib.hid (FB.out.trans (b9.mono FB.out.size))
                have FP2 := Lib.hid ((b9.block bP (Array.getElem?_eq_some_iff.1 FP.out).1).trans FP.out)
                go_wp2_with fail
                refine hK.out _ _ ?_ (fun hHeld2 => ?_)
                · exact six_low FB2.out hwW hS0
                clear hK Kx hHeld
                have hHeld := hHeld2
                clear hHeld2
                try simp only [Act.put, List.setIfInBounds_toArray, List.set_cons_zero, List.set_cons_succ]
                clear FB FC b9 FP
                have FP := FP2
                clear FP2
                have FB := FB2
                clear FB2
                refine wpAnyH_take (i := 7) (oi := { dst := some 34, op := Op.move (Operand.tmp 41), type := 44, pos := "law.go:68", after := #[{ on := 6, ground := Ground.data }], guard := none }) (v := ?_) rfl (by as_aux_lemma => kernel_rfl) (by as_aux_lemma => kernel_rfl) (by as_aux_lemma => kernel_rfl) (fun _ _ _ h => h) (Or.inl ⟨by rfl, ?_⟩) (by assumption) ?_
                rotate_left
                · intro w' hSw
                  try dsimp only at hSw
                  go_simp
                  try with_reducible rfl
                try simp only [Act.put, List.setIfInBounds_toArray, List.set_cons_zero, List.set_cons_succ]
                refine wpAnyH_take (i := 8) (oi := { dst := some 42, op := Op.extract (Operand.tmp 34) 0, type := 32, pos := "law.go:68", after := #[{ on := 7, ground := Ground.data }], guard := none }) (v := ?_) rfl (by as_aux_lemma => kernel_rfl) (by as_aux_lemma => kernel_rfl) (by as_aux_lemma => kernel_rfl) (fun _ _ _ h => h) (Or.inl ⟨by rfl, ?_⟩) (by assumption) ?_
                rotate_left
                · intro w' hSw
                  try dsimp only at hSw
                  go_simp
                  try with_reducible rfl
                try simp only [Act.put, List.setIfInBounds_toArray, List.set_cons_zero, List.set_cons_succ]
                refine wpAnyH_take (i := 9) (oi := { dst := some 43, op := Op.extract (Operand.tmp 34) 1, type := 4, pos := "law.go:68", after := #[{ on := 7, ground := Ground.data }, { on := 11, ground := Ground.gcOnly Departure.lateStores }], guard := none }) (v := ?_) rfl (by as_aux_lemma => kernel_rfl) (by as_aux_lemma => kernel_rfl) (by as_aux_lemma => kernel_rfl) (fun _ _ _ h => h) (Or.inl ⟨by rfl, ?_⟩) (by assumption) ?_
                rotate_left
                · intro w' hSw
                  try dsimp only at hSw
                  go_simp
                  try with_reducible rfl
                try simp only [Act.put, List.setIfInBounds_toArray, List.set_cons_zero, List.set_cons_succ]
                obtain ⟨p0, p1, p2, p3⟩ := row4 FP.out
                obtain ⟨g0, g1, g2, g3⟩ := free4 FP.out
                have FQ := Lib.hid (store4_cells (x0 := .int .i64 qa) (x1 := .int .i64 qb) (x2 := .int .i64 qc) (x3 := .string ⟨qs.toArray⟩) FP.out)
                have FB2 : Hid (Below W.heap.size W ((((X6.setCell ⟨bP, 0, none⟩ (.int .i64 qa)).setCell ⟨bP, 1, none⟩ (.int .i64 qb)).setCell ⟨bP, 2, none⟩ (.int .i64 qc)).setCell ⟨bP, 3, none⟩ (.string ⟨qs.toArray⟩))) := Lib.hid ((((FB.out.setCell hP _).setCell hP _).setCell hP _).setCell hP _)
                refine wpAnyH_ready (rs := [11]) (by as_aux_lemma => kernel_rfl) (by simp) ?_
                refine AllReadyH.cons (o := { dst := none, op := Op.store 32 (Operand.tmp 7) (Operand.tmp 42), type := 0, pos := "law.go:68", after := #[{ on := 10, ground := Ground.data }, { on := 8, ground := Ground.data }, { on := 6, ground := Ground.chain }, { on := 0, ground := Ground.phase }, { on := 1, ground := Ground.phase }, { on := 2, ground := Ground.phase }, { on := 3, ground := Ground.phase }, { on := 4, ground := Ground.phase }, { on := 5, ground := Ground.phase }, { on := 6, ground := Ground.phase }, { on := 7, ground := Ground.phase }, { on := 8, ground := Ground.phase }, { on := 9, ground := Ground.textOnly Departure.lateStores }, { on := 10, ground := Ground.phase }], guard := none }) rfl (fun Kx hK => ?_) AllReadyH.nil
                go_simp
                refine hK.out _ _ ?_ (fun hHeld2 => ?_)
                · exact six_low FB2.out hwW hS0
                clear hK Kx hHeld
                have hHeld := hHeld2
                clear hHeld2
                try simp only [Act.put, List.setIfInBounds_toArray, List.set_cons_zero, List.set_cons_succ]
                refine wpAnyH_take (i := 12) (oi := { dst := some 8, op := Op.assign (Operand.tmp 43), type := 4, pos := "law.go:68", after := #[{ on := 9, ground := Ground.data }, { on := 11, ground := Ground.chain }, { on := 0, ground := Ground.phase }, { on := 1, ground := Ground.phase }, { on := 2, ground := Ground.phase }, { on := 3, ground := Ground.phase }, { on := 4, ground := Ground.phase }, { on := 5, ground := Ground.phase }, { on := 6, ground := Ground.phase }, { on := 7, ground := Ground.phase }, { on := 8, ground := Ground.phase }, { on := 9, ground := Ground.phase }, { on := 10, ground := Ground.phase }, { on := 11, ground := Ground.phase }], guard := none }) (v := ?_) rfl (by as_aux_lemma => kernel_rfl) (by as_aux_lemma => kernel_rfl) (by as_aux_lemma => kernel_rfl) (fun _ _ _ h => h) (Or.inl ⟨by rfl, ?_⟩) (by assumption) ?_
                rotate_left
                · intro w' hSw
                  try dsimp only at hSw
                  go_simp
                  try with_reducible rfl
                try simp only [Act.put, List.setIfInBounds_toArray, List.set_cons_zero, List.set_cons_succ]
                refine wpAnyH_done (by kernel_rfl) ?_ _
                go_wp2_with fail
                go_meet
                exact ⟨bP, rfl, rfl, FQ, FB2⟩
          · skip
            go_simp
            have FL2 := Lib.hid (FL.out.later (bl_newZ X3 (.cells #[.int .i64 0, .int .i64 0, .int .i64 0, .string ⟨#[]⟩] 32)))
            have FA2 := Lib.hid (FA.out.alloc (.cells #[.int .i64 0, .int .i64 0, .int .i64 0, .string ⟨#[]⟩] 32))
            have FB2 : Hid (Below W.heap.size W (X3.alloc (.cells #[.int .i64 0, .int .i64 0, .int .i64 0, .string ⟨#[]⟩] 32))) := Lib.hid (FB.out.alloc FB.out.size _)
            have FP2 : Hid ((X3.alloc (.cells #[.int .i64 0, .int .i64 0, .int .i64 0, .string ⟨#[]⟩] 32)).heap[X3.heap.size]? = some (.cells #[.int .i64 0, .int .i64 0, .int .i64 0, .string ⟨#[]⟩] 32 (0, 0))) := Lib.hid (heap_alloc_new X3 _)
            have hP : W.heap.size ≤ X3.heap.size := FB.out.size
            refine hK.out _ _ ?_ (fun hHeld2 => ?_)
            · exact six_low FB2.out hwW hS0
            clear hK Kx hHeld
            have hHeld := hHeld2
            clear hHeld2
            try simp only [Act.put, List.setIfInBounds_toArray, List.set_cons_zero, List.set_cons_succ]
            clear FB FL FA
            generalize X3.alloc (.cells #[.int .i64 0, .int .i64 0, .int .i64 0, .string ⟨#[]⟩] 32) = X4 at FL2 FP2 FA2 FB2 hHeld ⊢
            generalize X3.heap.size = bP at FP2 hP ⊢
            have FL := FL2
            clear FL2
            have FP := FP2
            clear FP2
            have FA := FA2
            clear FA2
            have FB := FB2
            clear FB2
            refine wpAnyH_ready (rs := [5]) (by as_aux_lemma => kernel_rfl) (by simp) ?_
            refine AllReadyH.cons (o := { dst := some 40, op := Op.call { callee := Callee.builtin Builtin.append, args := #[Operand.tmp 37, Operand.tmp 39], argTypes := #[22, 22] }, type := 22, pos := "law.go:68", after := #[{ on := 2, ground := Ground.data }, { on := 4, ground := Ground.data }, { on := 2, ground := Ground.chain }], guard := none }) rfl (fun Kx hK => ?_) AllReadyH.nil
            · skip
              refine step_append_L sesOK rfl (.tmp 37) (.tmp 39) rfl W.heap.size v1 l (by simp [Act.eval]; done) FA.out ⟨bL, 0, none⟩ 1 1 [⟨kn, ki, ⟨ka, kb, kc, ks⟩⟩] (by simp [Act.eval]; done) rfl FL.out.src (by simp) hlm2 FB.out.size ?_
              intro v2 X5 hout
              have FC2 : Hid (OwnSes X5 W.heap.size v2 (l ++ [⟨kn, ki, ⟨ka, kb, kc, ks⟩⟩])) := Lib.hid hout.1
              have FB2 := Lib.hid (FB.out.trans hout.2.2.1)
              have FP2 := Lib.hid ((hout.2.2.2 bP (Array.getElem?_eq_some_iff.1 FP.out).1 (own_ne_ty FA.out FP.out (by decide))).trans FP.out)
              go_simp
              refine hK.out _ _ ?_ (fun hHeld2 => ?_)
              · exact six_low FB2.out hwW hS0
              clear hK Kx hHeld
              have hHeld := hHeld2
              clear hHeld2
              try simp only [Act.put, List.setIfInBounds_toArray, List.set_cons_zero, List.set_cons_succ]
              clear FB FA FL hout FP
              have FP := FP2
              clear FP2
              have FC := FC2
              clear FC2
              have FB := FB2
              clear FB2
              refine wpAnyH_ready (rs := [6]) (by as_aux_lemma => kernel_rfl) (by simp) ?_
              refine AllReadyH.cons (o := { dst := some 41, op := Op.call { callee := Callee.value (Operand.func 32), args := #[Operand.tmp 40], argTypes := #[22] }, type := 44, pos := "law.go:68", after := #[{ on := 5, ground := Ground.data }, { on := 5, ground := Ground.chain }], guard := none }) rfl (fun Kx hK => ?_) AllReadyH.nil
              · skip
                go_simp
                refine (C2.out _ _ (FC.out.rd sesOK)).mono ?_
                rintro e X6 ⟨rfl, b9⟩
                have FB2 := Lib.hid (FB.out.trans (b9.mono FB.out.size))
                have FP2 := Lib.hid ((b9.block bP (Array.getElem?_eq_some_iff.1 FP.out).1).trans FP.out)
                go_wp2_with fail
                refine hK.out _ _ ?_ (fun hHeld2 => ?_)
                · exact six_low FB2.out hwW hS0
                clear hK Kx hHeld
                have hHeld := hHeld2
                clear hHeld2
                try simp only [Act.put, List.setIfInBounds_toArray, List.set_cons_zero, List.set_cons_succ]
                clear FB FC b9 FP
                have FP := FP2
                clear FP2
                have FB := FB2
                clear FB2
                refine wpAnyH_take (i := 7) (oi := { dst := some 34, op := Op.move (Operand.tmp 41), type := 44, pos := "law.go:68", after := #[{ on := 6, ground := Ground.data }], guard := none }) (v := ?_) rfl (by as_aux_lemma => kernel_rfl) (by as_aux_lemma => kernel_rfl) (by as_aux_lemma => kernel_rfl) (fun _ _ _ h => h) (Or.inl ⟨by rfl, ?_⟩) (by assumption) ?_
                rotate_left
                · intro w' hSw
                  try dsimp only at hSw
                  go_simp
                  try with_reducible rfl
                try simp only [Act.put, List.setIfInBounds_toArray, List.set_cons_zero, List.set_cons_succ]
                refine wpAnyH_take (i := 8) (oi := { dst := some 42, op := Op.extract (Operand.tmp 34) 0, type := 32, pos := "law.go:68", after := #[{ on := 7, ground := Ground.data }], guard := none }) (v := ?_) rfl (by as_aux_lemma => kernel_rfl) (by as_aux_lemma => kernel_rfl) (by as_aux_lemma => kernel_rfl) (fun _ _ _ h => h) (Or.inl ⟨by rfl, ?_⟩) (by assumption) ?_
                rotate_left
                · intro w' hSw
                  try dsimp only at hSw
                  go_simp
                  try with_reducible rfl
                try simp only [Act.put, List.setIfInBounds_toArray, List.set_cons_zero, List.set_cons_succ]
                refine wpAnyH_take (i := 9) (oi := { dst := some 43, op := Op.extract (Operand.tmp 34) 1, type := 4, pos := "law.go:68", after := #[{ on := 7, ground := Ground.data }, { on := 11, ground := Ground.gcOnly Departure.lateStores }], guard := none }) (v := ?_) rfl (by as_aux_lemma => kernel_rfl) (by as_aux_lemma => kernel_rfl) (by as_aux_lemma => kernel_rfl) (fun _ _ _ h => h) (Or.inl ⟨by rfl, ?_⟩) (by assumption) ?_
                rotate_left
                · intro w' hSw
                  try dsimp only at hSw
                  go_simp
                  try with_reducible rfl
                try simp only [Act.put, List.setIfInBounds_toArray, List.set_cons_zero, List.set_cons_succ]
                obtain ⟨p0, p1, p2, p3⟩ := row4 FP.out
                obtain ⟨g0, g1, g2, g3⟩ := free4 FP.out
                have FQ := Lib.hid (store4_cells (x0 := .int .i64 qa) (x1 := .int .i64 qb) (x2 := .int .i64 qc) (x3 := .string ⟨qs.toArray⟩) FP.out)
                have FB2 : Hid (Below W.heap.size W ((((X6.setCell ⟨bP, 0, none⟩ (.int .i64 qa)).setCell ⟨bP, 1, none⟩ (.int .i64 qb)).setCell ⟨bP, 2, none⟩ (.int .i64 qc)).setCell ⟨bP, 3, none⟩ (.string ⟨qs.toArray⟩))) := Lib.hid ((((FB.out.setCell hP _).setCell hP _).setCell hP _).setCell hP _)
                refine wpAnyH_ready (rs := [11]) (by as_aux_lemma => kernel_rfl) (by simp) ?_
                refine AllReadyH.cons (o := { dst := none, op := Op.store 32 (Operand.tmp 7) (Operand.tmp 42), type := 0, pos := "law.go:68", after := #[{ on := 10, ground := Ground.data }, { on := 8, ground := Ground.data }, { on := 6, ground := Ground.chain }, { on := 0, ground := Ground.phase }, { on := 1, ground := Ground.phase }, { on := 2, ground := Ground.phase }, { on := 3, ground := Ground.phase }, { on := 4, ground := Ground.phase }, { on := 5, ground := Ground.phase }, { on := 6, ground := Ground.phase }, { on := 7, ground := Ground.phase }, { on := 8, ground := Ground.phase }, { on := 9, ground := Ground.textOnly Departure.lateStores }, { on := 10, ground := Ground.phase }], guard := none }) rfl (fun Kx hK => ?_) AllReadyH.nil
                go_simp
                refine hK.out _ _ ?_ (fun hHeld2 => ?_)
                · exact six_low FB2.out hwW hS0
                clear hK Kx hHeld
                have hHeld := hHeld2
                clear hHeld2
                try simp only [Act.put, List.setIfInBounds_toArray, List.set_cons_zero, List.set_cons_succ]
                refine wpAnyH_take (i := 12) (oi := { dst := some 8, op := Op.assign (Operand.tmp 43), type := 4, pos := "law.go:68", after := #[{ on := 9, ground := Ground.data }, { on := 11, ground := Ground.chain }, { on := 0, ground := Ground.phase }, { on := 1, ground := Ground.phase }, { on := 2, ground := Ground.phase }, { on := 3, ground := Ground.phase }, { on := 4, ground := Ground.phase }, { on := 5, ground := Ground.phase }, { on := 6, ground := Ground.phase }, { on := 7, ground := Ground.phase }, { on := 8, ground := Ground.phase }, { on := 9, ground := Ground.phase }, { on := 10, ground := Ground.phase }, { on := 11, ground := Ground.phase }], guard := none }) (v := ?_) rfl (by as_aux_lemma => kernel_rfl) (by as_aux_lemma => kernel_rfl) (by as_aux_lemma => kernel_rfl) (fun _ _ _ h => h) (Or.inl ⟨by rfl, ?_⟩) (by assumption) ?_
                rotate_left
                · intro w' hSw
                  try dsimp only at hSw
                  go_simp
                  try with_reducible rfl
                try simp only [Act.put, List.setIfInBounds_toArray, List.set_cons_zero, List.set_cons_succ]
                refine wpAnyH_done (by kernel_rfl) ?_ _
                go_wp2_with fail
                go_meet
                exact ⟨bP, rfl, rfl, FQ, FB2⟩
        · skip
          go_simp
          have FE2 := Lib.hid (at_old (o := .cells #[.int .i64 0, .int .i64 0, .int .i64 0, .string ⟨#[]⟩] 32) FE.out)
          have FL2 := Lib.hid (FL.out.later (bl_newZ X2 (.cells #[.int .i64 0, .int .i64 0, .int .i64 0, .string ⟨#[]⟩] 32)))
          have FB2 : Hid (Below W.heap.size W (X2.alloc (.cells #[.int .i64 0, .int .i64 0, .int .i64 0, .string ⟨#[]⟩] 32))) := Lib.hid (FB.out.alloc FB.out.size _)
          have FP2 : Hid ((X2.alloc (.cells #[.int .i64 0, .int .i64 0, .int .i64 0, .string ⟨#[]⟩] 32)).heap[X2.heap.size]? = some (.cells #[.int .i64 0, .int .i64 0, .int .i64 0, .string ⟨#[]⟩] 32 (0, 0))) := Lib.hid (heap_alloc_new X2 _)
          have hP : W.heap.size ≤ X2.heap.size := FB.out.size
          refine hK.out _ _ ?_ (fun hHeld2 => ?_)
          · exact six_low FB2.out hwW hS0
          clear hK Kx hHeld
          have hHeld := hHeld2
          clear hHeld2
          try simp only [Act.put, List.setIfInBounds_toArray, List.set_cons_zero, List.set_cons_succ]
          clear FB FE FL
          generalize X2.alloc (.cells #[.int .i64 0, .int .i64 0, .int .i64 0, .string ⟨#[]⟩] 32) = X3 at FE2 FL2 FP2 FB2 hHeld ⊢
          generalize X2.heap.size = bP at FP2 hP ⊢
          have FE := FE2
          clear FE2
          have FL := FL2
          clear FL2
          have FP := FP2
          clear FP2
          have FB := FB2
          clear FB2
          refine wpAnyH_ready (rs := [2]) (by as_aux_lemma => kernel_rfl) (by simp) ?_
          refine AllReadyH.cons (o := { dst := some 37, op := Op.call { callee := Callee.builtin Builtin.append, args := #[Operand.tmp 35, Operand.tmp 36], argTypes := #[22, 22] }, type := 22, pos := "law.go:68", after := #[{ on := 0, ground := Ground.data }, { on := 1, ground := Ground.data }], guard := none }) rfl (fun Kx hK => ?_) AllReadyH.nil
          · skip
            refine step_append_L sesOK rfl (.tmp 35) (.tmp 36) rfl W.heap.size (.slice (some ⟨bE, 0, none⟩) 0 0) [] (by simp [Act.eval]; done) (own_fresh FE.out hE) ⟨bl, ol, none⟩ l.length cap l (by simp [Act.eval]; done) rfl (srcS_up SV.out FB.out) h0 hlm FB.out.size ?_
            intro v1 X4 hout
            have FA2 : Hid (OwnSes X4 W.heap.size v1 l) := Lib.hid hout.1
            have FB2 := Lib.hid (FB.out.trans hout.2.2.1)
            have FL2 := Lib.hid (lone_keep FL.out (hout.2.2.2 bL FL.out.lt (lone_ne FL.out FE.out)))
            have FP2 := Lib.hid ((hout.2.2.2 bP (Array.getElem?_eq_some_iff.1 FP.out).1 (own_ne_ty (own_fresh FE.out hE) FP.out (by decide))).trans FP.out)
            go_simp
            refine hK.out _ _ ?_ (fun hHeld2 => ?_)
            · exact six_low FB2.out hwW hS0
            clear hK Kx hHeld
            have hHeld := hHeld2
            clear hHeld2
            try simp only [Act.put, List.setIfInBounds_toArray, List.set_cons_zero, List.set_cons_succ]
            clear FB FE hout FL FP
            have FL := FL2
            clear FL2
            have FP := FP2
            clear FP2
            have FA := FA2
            clear FA2
            have FB := FB2
            clear FB2
            refine wpAnyH_ready (rs := [5]) (by as_aux_lemma => kernel_rfl) (by simp) ?_
            refine AllReadyH.cons (o := { dst := some 40, op := Op.call { callee := Callee.builtin Builtin.append, args := #[Operand.tmp 37, Operand.tmp 39], argTypes := #[22, 22] }, type := 22, pos := "law.go:68", after := #[{ on := 2, ground := Ground.data }, { on := 4, ground := Ground.data }, { on := 2, ground := Ground.chain }], guard := none }) rfl (fun Kx hK => ?_) AllReadyH.nil
            · skip
              refine step_append_L sesOK rfl (.tmp 37) (.tmp 39) rfl W.heap.size v1 l (by simp [Act.eval]; done) FA.out ⟨bL, 0, none⟩ 1 1 [⟨kn, ki, ⟨ka, kb, kc, ks⟩⟩] (by simp [Act.eval]; done) rfl FL.out.src (by simp) hlm2 FB.out.size ?_
              intro v2 X5 hout
              have FC2 : Hid (OwnSes X5 W.heap.size v2 (l ++ [⟨kn, ki, ⟨ka, kb, kc, ks⟩⟩])) := Lib.hid hout.1
              have FB2 := Lib.hid (FB.out.trans hout.2.2.1)
              have FP2 := Lib.hid ((hout.2.2.2 bP (Array.getElem?_eq_some_iff.1 FP.out).1 (own_ne_ty FA.out FP.out (by decide))).trans FP.out)
              go_simp
              refine hK.out _ _ ?_ (fun hHeld2 => ?_)
              · exact six_low FB2.out hwW hS0
              clear hK Kx hHeld
              have hHeld := hHeld2
              clear hHeld2
              try simp only [Act.put, List.setIfInBounds_toArray, List.set_cons_zero, List.set_cons_succ]
              clear FB FA FL hout FP
              have FP := FP2
              clear FP2
              have FC := FC2
              clear FC2
              have FB := FB2
              clear FB2
              refine wpAnyH_ready (rs := [6]) (by as_aux_lemma => kernel_rfl) (by simp) ?_
              refine AllReadyH.cons (o := { dst := some 41, op := Op.call { callee := Callee.value (Operand.func 32), args := #[Operand.tmp 40], argTypes := #[22] }, type := 44, pos := "law.go:68", after := #[{ on := 5, ground := Ground.data }, { on := 5, ground := Ground.chain }], guard := none }) rfl (fun Kx hK => ?_) AllReadyH.nil
              · skip
                go_simp
                refine (C2.out _ _ (FC.out.rd sesOK)).mono ?_
                rintro e X6 ⟨rfl, b9⟩
                have FB2 := Lib.hid (FB.out.trans (b9.mono FB.out.size))
                have FP2 := Lib.hid ((b9.block bP (Array.getElem?_eq_some_iff.1 FP.out).1).trans FP.out)
                go_wp2_with fail
                refine hK.out _ _ ?_ (fun hHeld2 => ?_)
                · exact six_low FB2.out hwW hS0
                clear hK Kx hHeld
                have hHeld := hHeld2
                clear hHeld2
                try simp only [Act.put, List.setIfInBounds_toArray, List.set_cons_zero, List.set_cons_succ]
                clear FB FC b9 FP
                have FP := FP2
                clear FP2
                have FB := FB2
                clear FB2
                refine wpAnyH_take (i := 7) (oi := { dst := some 34, op := Op.move (Operand.tmp 41), type := 44, pos := "law.go:68", after := #[{ on := 6, ground := Ground.data }], guard := none }) (v := ?_) rfl (by as_aux_lemma => kernel_rfl) (by as_aux_lemma => kernel_rfl) (by as_aux_lemma => kernel_rfl) (fun _ _ _ h => h) (Or.inl ⟨by rfl, ?_⟩) (by assumption) ?_
                rotate_left
                · intro w' hSw
                  try dsimp only at hSw
                  go_simp
                  try with_reducible rfl
                try simp only [Act.put, List.setIfInBounds_toArray, List.set_cons_zero, List.set_cons_succ]
                refine wpAnyH_take (i := 8) (oi := { dst := some 42, op := Op.extract (Operand.tmp 34) 0, type := 32, pos := "law.go:68", after := #[{ on := 7, ground := Ground.data }], guard := none }) (v := ?_) rfl (by as_aux_lemma => kernel_rfl) (by as_aux_lemma => kernel_rfl) (by as_aux_lemma => kernel_rfl) (fun _ _ _ h => h) (Or.inl ⟨by rfl, ?_⟩) (by assumption) ?_
                rotate_left
                · intro w' hSw
                  try dsimp only at hSw
                  go_simp
                  try with_reducible rfl
                try simp only [Act.put, List.setIfInBounds_toArray, List.set_cons_zero, List.set_cons_succ]
                refine wpAnyH_take (i := 9) (oi := { dst := some 43, op := Op.extract (Operand.tmp 34) 1, type := 4, pos := "law.go:68", after := #[{ on := 7, ground := Ground.data }, { on := 11, ground := Ground.gcOnly Departure.lateStores }], guard := none }) (v := ?_) rfl (by as_aux_lemma => kernel_rfl) (by as_aux_lemma => kernel_rfl) (by as_aux_lemma => kernel_rfl) (fun _ _ _ h => h) (Or.inl ⟨by rfl, ?_⟩) (by assumption) ?_
                rotate_left
                · intro w' hSw
                  try dsimp only at hSw
                  go_simp
                  try with_reducible rfl
                try simp only [Act.put, List.setIfInBounds_toArray, List.set_cons_zero, List.set_cons_succ]
                obtain ⟨p0, p1, p2, p3⟩ := row4 FP.out
                obtain ⟨g0, g1, g2, g3⟩ := free4 FP.out
                have FQ := Lib.hid (store4_cells (x0 := .int .i64 qa) (x1 := .int .i64 qb) (x2 := .int .i64 qc) (x3 := .string ⟨qs.toArray⟩) FP.out)
                have FB2 : Hid (Below W.heap.size W ((((X6.setCell ⟨bP, 0, none⟩ (.int .i64 qa)).setCell ⟨bP, 1, none⟩ (.int .i64 qb)).setCell ⟨bP, 2, none⟩ (.int .i64 qc)).setCell ⟨bP, 3, none⟩ (.string ⟨qs.toArray⟩))) := Lib.hid ((((FB.out.setCell hP _).setCell hP _).setCell hP _).setCell hP _)
                refine wpAnyH_ready (rs := [11]) (by as_aux_lemma => kernel_rfl) (by simp) ?_
                refine AllReadyH.cons (o := { dst := none, op := Op.store 32 (Operand.tmp 7) (Operand.tmp 42), type := 0, pos := "law.go:68", after := #[{ on := 10, ground := Ground.data }, { on := 8, ground := Ground.data }, { on := 6, ground := Ground.chain }, { on := 0, ground := Ground.phase }, { on := 1, ground := Ground.phase }, { on := 2, ground := Ground.phase }, { on := 3, ground := Ground.phase }, { on := 4, ground := Ground.phase }, { on := 5, ground := Ground.phase }, { on := 6, ground := Ground.phase }, { on := 7, ground := Ground.phase }, { on := 8, ground := Ground.phase }, { on := 9, ground := Ground.textOnly Departure.lateStores }, { on := 10, ground := Ground.phase }], guard := none }) rfl (fun Kx hK => ?_) AllReadyH.nil
                go_simp
                refine hK.out _ _ ?_ (fun hHeld2 => ?_)
                · exact six_low FB2.out hwW hS0
                clear hK Kx hHeld
                have hHeld := hHeld2
                clear hHeld2
                try simp only [Act.put, List.setIfInBounds_toArray, List.set_cons_zero, List.set_cons_succ]
                refine wpAnyH_take (i := 12) (oi := { dst := some 8, op := Op.assign (Operand.tmp 43), type := 4, pos := "law.go:68", after := #[{ on := 9, ground := Ground.data }, { on := 11, ground := Ground.chain }, { on := 0, ground := Ground.phase }, { on := 1, ground := Ground.phase }, { on := 2, ground := Ground.phase }, { on := 3, ground := Ground.phase }, { on := 4, ground := Ground.phase }, { on := 5, ground := Ground.phase }, { on := 6, ground := Ground.phase }, { on := 7, ground := Ground.phase }, { on := 8, ground := Ground.phase }, { on := 9, ground := Ground.phase }, { on := 10, ground := Ground.phase }, { on := 11, ground := Ground.phase }], guard := none }) (v := ?_) rfl (by as_aux_lemma => kernel_rfl) (by as_aux_lemma => kernel_rfl) (by as_aux_lemma => kernel_rfl) (fun _ _ _ h => h) (Or.inl ⟨by rfl, ?_⟩) (by assumption) ?_
                rotate_left
                · intro w' hSw
                  try dsimp only at hSw
                  go_simp
                  try with_reducible rfl
                try simp only [Act.put, List.setIfInBounds_toArray, List.set_cons_zero, List.set_cons_succ]
                refine wpAnyH_done (by kernel_rfl) ?_ _
                go_wp2_with fail
                go_meet
                exact ⟨bP, rfl, rfl, FQ, FB2⟩
      · skip
        go_simp
        have FE2 := Lib.hid (at_old (o := .cells #[.int .i64 0, .int .i64 0, .int .i64 0, .string ⟨#[]⟩] 32) FE.out)
        have FB2 : Hid (Below W.heap.size W (X1.alloc (.cells #[.int .i64 0, .int .i64 0, .int .i64 0, .string ⟨#[]⟩] 32))) := Lib.hid (FB.out.alloc FB.out.size _)
        have FP2 : Hid ((X1.alloc (.cells #[.int .i64 0, .int .i64 0, .int .i64 0, .string ⟨#[]⟩] 32)).heap[X1.heap.size]? = some (.cells #[.int .i64 0, .int .i64 0, .int .i64 0, .string ⟨#[]⟩] 32 (0, 0))) := Lib.hid (heap_alloc_new X1 _)
        have hP : W.heap.size ≤ X1.heap.size := FB.out.size
        refine hK.out _ _ ?_ (fun hHeld2 => ?_)
        · exact six_low FB2.out hwW hS0
        clear hK Kx hHeld
        have hHeld := hHeld2
        clear hHeld2
        try simp only [Act.put, List.setIfInBounds_toArray, List.set_cons_zero, List.set_cons_succ]
        clear FB FE
        generalize X1.alloc (.cells #[.int .i64 0, .int .i64 0, .int .i64 0, .string ⟨#[]⟩] 32) = X2 at FE2 FP2 FB2 hHeld ⊢
        generalize X1.heap.size = bP at FP2 hP ⊢
        have FE := FE2
        clear FE2
        have FP := FP2
        clear FP2
        have FB := FB2
        clear FB2
        refine wpAnyH_ready (rs := [2, 4]) (by as_aux_lemma => kernel_rfl) (by simp) ?_
        refine AllReadyH.cons (o := { dst := some 37, op := Op.call { callee := Callee.builtin Builtin.append, args := #[Operand.tmp 35, Operand.tmp 36], argTypes := #[22, 22] }, type := 22, pos := "law.go:68", after := #[{ on := 0, ground := Ground.data }, { on := 1, ground := Ground.data }], guard := none }) rfl (fun Kx hK => ?_) (AllReadyH.cons (o := { dst := some 39, op := Op.buildSlice 22 1 #[(0, Operand.tmp 38)], type := 22, pos := "law.go:68", after := #[{ on := 3, ground := Ground.data }], guard := none }) rfl (fun Kx hK => ?_) AllReadyH.nil)
        · skip
          refine step_append_L sesOK rfl (.tmp 35) (.tmp 36) rfl W.heap.size (.slice (some ⟨bE, 0, none⟩) 0 0) [] (by simp [Act.eval]; done) (own_fresh FE.out hE) ⟨bl, ol, none⟩ l.length cap l (by simp [Act.eval]; done) rfl (srcS_up SV.out FB.out) h0 hlm FB.out.size ?_
          intro v1 X3 hout
          have FA2 : Hid (OwnSes X3 W.heap.size v1 l) := Lib.hid hout.1
          have FB2 := Lib.hid (FB.out.trans hout.2.2.1)
          have FP2 := Lib.hid ((hout.2.2.2 bP (Array.getElem?_eq_some_iff.1 FP.out).1 (own_ne_ty (own_fresh FE.out hE) FP.out (by decide))).trans FP.out)
          go_simp
          refine hK.out _ _ ?_ (fun hHeld2 => ?_)
          · exact six_low FB2.out hwW hS0
          clear hK Kx hHeld
          have hHeld := hHeld2
          clear hHeld2
          try simp only [Act.put, List.setIfInBounds_toArray, List.set_cons_zero, List.set_cons_succ]
          clear FB FE hout FP
          have FP := FP2
          clear FP2
          have FA := FA2
          clear FA2
          have FB := FB2
          clear FB2
          refine wpAnyH_ready (rs := [4]) (by as_aux_lemma => kernel_rfl) (by simp) ?_
          refine AllReadyH.cons (o := { dst := some 39, op := Op.buildSlice 22 1 #[(0, Operand.tmp 38)], type := 22, pos := "law.go:68", after := #[{ on := 3, ground := Ground.data }], guard := none }) rfl (fun Kx hK => ?_) AllReadyH.nil
          · skip
            go_simp
            have FP2 := Lib.hid (at_old (o := .cells #[.string ⟨kn.toArray⟩, .int .i64 ki, .int .i64 ka, .int .i64 kb, .int .i64 kc, .string ⟨ks.toArray⟩] 34) FP.out)
            have FA2 := Lib.hid (FA.out.alloc (.cells #[.string ⟨kn.toArray⟩, .int .i64 ki, .int .i64 ka, .int .i64 kb, .int .i64 kc, .string ⟨ks.toArray⟩] 34))
            have FB2 : Hid (Below W.heap.size W (X3.alloc (.cells #[.string ⟨kn.toArray⟩, .int .i64 ki, .int .i64 ka, .int .i64 kb, .int .i64 kc, .string ⟨ks.toArray⟩] 34))) := Lib.hid (FB.out.alloc FB.out.size _)
            have FL2 : Hid (LoneS sesVals 34 (X3.alloc (.cells #[.string ⟨kn.toArray⟩, .int .i64 ki, .int .i64 ka, .int .i64 kb, .int .i64 kc, .string ⟨ks.toArray⟩] 34)) X3.heap.size ⟨kn, ki, ⟨ka, kb, kc, ks⟩⟩) := Lib.hid (loneS_new rfl rfl)
            have hL : W.heap.size ≤ X3.heap.size := FB.out.size
            refine hK.out _ _ ?_ (fun hHeld2 => ?_)
            · exact six_low FB2.out hwW hS0
            clear hK Kx hHeld
            have hHeld := hHeld2
            clear hHeld2
            try simp only [Act.put, List.setIfInBounds_toArray, List.set_cons_zero, List.set_cons_succ]
            clear FB FP FA
            generalize X3.alloc (.cells #[.string ⟨kn.toArray⟩, .int .i64 ki, .int .i64 ka, .int .i64 kb, .int .i64 kc, .string ⟨ks.toArray⟩] 34) = X4 at FL2 FP2 FA2 FB2 hHeld ⊢
            generalize X3.heap.size = bL at FL2 hL ⊢
            have FL := FL2
            clear FL2
            have FP := FP2
            clear FP2
            have FA := FA2
            clear FA2
            have FB := FB2
            clear FB2
            refine wpAnyH_ready (rs := [5]) (by as_aux_lemma => kernel_rfl) (by simp) ?_
            refine AllReadyH.cons (o := { dst := some 40, op := Op.call { callee := Callee.builtin Builtin.append, args := #[Operand.tmp 37, Operand.tmp 39], argTypes := #[22, 22] }, type := 22, pos := "law.go:68", after := #[{ on := 2, ground := Ground.data }, { on := 4, ground := Ground.data }, { on := 2, ground := Ground.chain }], guard := none }) rfl (fun Kx hK => ?_) AllReadyH.nil
            · skip
              refine step_append_L sesOK rfl (.tmp 37) (.tmp 39) rfl W.heap.size v1 l (by simp [Act.eval]; done) FA.out ⟨bL, 0, none⟩ 1 1 [⟨kn, ki, ⟨ka, kb, kc, ks⟩⟩] (by simp [Act.eval]; done) rfl FL.out.src (by simp) hlm2 FB.out.size ?_
              intro v2 X5 hout
              have FC2 : Hid (OwnSes X5 W.heap.size v2 (l ++ [⟨kn, ki, ⟨ka, kb, kc, ks⟩⟩])) := Lib.hid hout.1
              have FB2 := Lib.hid (FB.out.trans hout.2.2.1)
              have FP2 := Lib.hid ((hout.2.2.2 bP (Array.getElem?_eq_some_iff.1 FP.out).1 (own_ne_ty FA.out FP.out (by decide))).trans FP.out)
              go_simp
              refine hK.out _ _ ?_ (fun hHeld2 => ?_)
              · exact six_low FB2.out hwW hS0
              clear hK Kx hHeld
              have hHeld := hHeld2
              clear hHeld2
              try simp only [Act.put, List.setIfInBounds_toArray, List.set_cons_zero, List.set_cons_succ]
              clear FB FA FL hout FP
              have FP := FP2
              clear FP2
              have FC := FC2
              clear FC2
              have FB := FB2
              clear FB2
              refine wpAnyH_ready (rs := [6]) (by as_aux_lemma => kernel_rfl) (by simp) ?_
              refine AllReadyH.cons (o := { dst := some 41, op := Op.call { callee := Callee.value (Operand.func 32), args := #[Operand.tmp 40], argTypes := #[22] }, type := 44, pos := "law.go:68", after := #[{ on := 5, ground := Ground.data }, { on := 5, ground := Ground.chain }], guard := none }) rfl (fun Kx hK => ?_) AllReadyH.nil
              · skip
                go_simp
                refine (C2.out _ _ (FC.out.rd sesOK)).mono ?_
                rintro e X6 ⟨rfl, b9⟩
                have FB2 := Lib.hid (FB.out.trans (b9.mono FB.out.size))
                have FP2 := Lib.hid ((b9.block bP (Array.getElem?_eq_some_iff.1 FP.out).1).trans FP.out)
                go_wp2_with fail
                refine hK.out _ _ ?_ (fun hHeld2 => ?_)
                · exact six_low FB2.out hwW hS0
                clear hK Kx hHeld
                have hHeld := hHeld2
                clear hHeld2
                try simp only [Act.put, List.setIfInBounds_toArray, List.set_cons_zero, List.set_cons_succ]
                clear FB FC b9 FP
                have FP := FP2
                clear FP2
                have FB := FB2
                clear FB2
                refine wpAnyH_take (i := 7) (oi := { dst := some 34, op := Op.move (Operand.tmp 41), type := 44, pos := "law.go:68", after := #[{ on := 6, ground := Ground.data }], guard := none }) (v := ?_) rfl (by as_aux_lemma => kernel_rfl) (by as_aux_lemma => kernel_rfl) (by as_aux_lemma => kernel_rfl) (fun _ _ _ h => h) (Or.inl ⟨by rfl, ?_⟩) (by assumption) ?_
                rotate_left
                · intro w' hSw
                  try dsimp only at hSw
                  go_simp
                  try with_reducible rfl
                try simp only [Act.put, List.setIfInBounds_toArray, List.set_cons_zero, List.set_cons_succ]
                refine wpAnyH_take (i := 8) (oi := { dst := some 42, op := Op.extract (Operand.tmp 34) 0, type := 32, pos := "law.go:68", after := #[{ on := 7, ground := Ground.data }], guard := none }) (v := ?_) rfl (by as_aux_lemma => kernel_rfl) (by as_aux_lemma => kernel_rfl) (by as_aux_lemma => kernel_rfl) (fun _ _ _ h => h) (Or.inl ⟨by rfl, ?_⟩) (by assumption) ?_
                rotate_left
                · intro w' hSw
                  try dsimp only at hSw
                  go_simp
                  try with_reducible rfl
                try simp only [Act.put, List.setIfInBounds_toArray, List.set_cons_zero, List.set_cons_succ]
                refine wpAnyH_take (i := 9) (oi := { dst := some 43, op := Op.extract (Operand.tmp 34) 1, type := 4, pos := "law.go:68", after := #[{ on := 7, ground := Ground.data }, { on := 11, ground := Ground.gcOnly Departure.lateStores }], guard := none }) (v := ?_) rfl (by as_aux_lemma => kernel_rfl) (by as_aux_lemma => kernel_rfl) (by as_aux_lemma => kernel_rfl) (fun _ _ _ h => h) (Or.inl ⟨by rfl, ?_⟩) (by assumption) ?_
                rotate_left
                · intro w' hSw
                  try dsimp only at hSw
                  go_simp
                  try with_reducible rfl
                try simp only [Act.put, List.setIfInBounds_toArray, List.set_cons_zero, List.set_cons_succ]
                obtain ⟨p0, p1, p2, p3⟩ := row4 FP.out
                obtain ⟨g0, g1, g2, g3⟩ := free4 FP.out
                have FQ := Lib.hid (store4_cells (x0 := .int .i64 qa) (x1 := .int .i64 qb) (x2 := .int .i64 qc) (x3 := .string ⟨qs.toArray⟩) FP.out)
                have FB2 : Hid (Below W.heap.size W ((((X6.setCell ⟨bP, 0, none⟩ (.int .i64 qa)).setCell ⟨bP, 1, none⟩ (.int .i64 qb)).setCell ⟨bP, 2, none⟩ (.int .i64 qc)).setCell ⟨bP, 3, none⟩ (.string ⟨qs.toArray⟩))) := Lib.hid ((((FB.out.setCell hP _).setCell hP _).setCell hP _).setCell hP _)
                refine wpAnyH_ready (rs := [11]) (by as_aux_lemma => kernel_rfl) (by simp) ?_
                refine AllReadyH.cons (o := { dst := none, op := Op.store 32 (Operand.tmp 7) (Operand.tmp 42), type := 0, pos := "law.go:68", after := #[{ on := 10, ground := Ground.data }, { on := 8, ground := Ground.data }, { on := 6, ground := Ground.chain }, { on := 0, ground := Ground.phase }, { on := 1, ground := Ground.phase }, { on := 2, ground := Ground.phase }, { on := 3, ground := Ground.phase }, { on := 4, ground := Ground.phase }, { on := 5, ground := Ground.phase }, { on := 6, ground := Ground.phase }, { on := 7, ground := Ground.phase }, { on := 8, ground := Ground.phase }, { on := 9, ground := Ground.textOnly Departure.lateStores }, { on := 10, ground := Ground.phase }], guard := none }) rfl (fun Kx hK => ?_) AllReadyH.nil
                go_simp
                refine hK.out _ _ ?_ (fun hHeld2 => ?_)
                · exact six_low FB2.out hwW hS0
                clear hK Kx hHeld
                have hHeld := hHeld2
                clear hHeld2
                try simp only [Act.put, List.setIfInBounds_toArray, List.set_cons_zero, List.set_cons_succ]
                refine wpAnyH_take (i := 12) (oi := { dst := some 8, op := Op.assign (Operand.tmp 43), type := 4, pos := "law.go:68", after := #[{ on := 9, ground := Ground.data }, { on := 11, ground := Ground.chain }, { on := 0, ground := Ground.phase }, { on := 1, ground := Ground.phase }, { on := 2, ground := Ground.phase }, { on := 3, ground := Ground.phase }, { on := 4, ground := Ground.phase }, { on := 5, ground := Ground.phase }, { on := 6, ground := Ground.phase }, { on := 7, ground := Ground.phase }, { on := 8, ground := Ground.phase }, { on := 9, ground := Ground.phase }, { on := 10, ground := Ground.phase }, { on := 11, ground := Ground.phase }], guard := none }) (v := ?_) rfl (by as_aux_lemma => kernel_rfl) (by as_aux_lemma => kernel_rfl) (by as_aux_lemma => kernel_rfl) (fun _ _ _ h => h) (Or.inl ⟨by rfl, ?_⟩) (by assumption) ?_
                rotate_left
                · intro w' hSw
                  try dsimp only at hSw
                  go_simp
                  try with_reducible rfl
                try simp only [Act.put, List.setIfInBounds_toArray, List.set_cons_zero, List.set_cons_succ]
                refine wpAnyH_done (by kernel_rfl) ?_ _
                go_wp2_with fail
                go_meet
                exact ⟨bP, rfl, rfl, FQ, FB2⟩
        · skip
          go_simp
          have FE2 := Lib.hid (at_old (o := .cells #[.string ⟨kn.toArray⟩, .int .i64 ki, .int .i64 ka, .int .i64 kb, .int .i64 kc, .string ⟨ks.toArray⟩] 34) FE.out)
          have FP2 := Lib.hid (at_old (o := .cells #[.string ⟨kn.toArray⟩, .int .i64 ki, .int .i64 ka, .int .i64 kb, .int .i64 kc, .string ⟨ks.toArray⟩] 34) FP.out)
          have FB2 : Hid (Below W.heap.size W (X2.alloc (.cells #[.string ⟨kn.toArray⟩, .int .i64 ki, .int .i64 ka, .int .i64 kb, .int .i64 kc, .string ⟨ks.toArray⟩] 34))) := Lib.hid (FB.out.alloc FB.out.size _)
          have FL2 : Hid (LoneS sesVals 34 (X2.alloc (.cells #[.string ⟨kn.toArray⟩, .int .i64 ki, .int .i64 ka, .int .i64 kb, .int .i64 kc, .string ⟨ks.toArray⟩] 34)) X2.heap.size ⟨kn, ki, ⟨ka, kb, kc, ks⟩⟩) := Lib.hid (loneS_new rfl rfl)
          have hL : W.heap.size ≤ X2.heap.size := FB.out.size
          refine hK.out _ _ ?_ (fun hHeld2 => ?_)
          · exact six_low FB2.out hwW hS0
          clear hK Kx hHeld
          have hHeld := hHeld2
          clear hHeld2
          try simp only [Act.put, List.setIfInBounds_toArray, List.set_cons_zero, List.set_cons_succ]
          clear FB FE FP
          generalize X2.alloc (.cells #[.string ⟨kn.toArray⟩, .int .i64 ki, .int .i64 ka, .int .i64 kb, .int .i64 kc, .string ⟨ks.toArray⟩] 34) = X3 at FE2 FL2 FP2 FB2 hHeld ⊢
          generalize X2.heap.size = bL at FL2 hL ⊢
          have FE := FE2
          clear FE2
          have FL := FL2
          clear FL2
          have FP := FP2
          clear FP2
          have FB := FB2
          clear FB2
          refine wpAnyH_ready (rs := [2]) (by as_aux_lemma => kernel_rfl) (by simp) ?_
          refine AllReadyH.cons (o := { dst := some 37, op := Op.call { callee := Callee.builtin Builtin.append, args := #[Operand.tmp 35, Operand.tmp 36], argTypes := #[22, 22] }, type := 22, pos := "law.go:68", after := #[{ on := 0, ground := Ground.data }, { on := 1, ground := Ground.data }], guard := none }) rfl (fun Kx hK => ?_) AllReadyH.nil
          · skip
            refine step_append_L sesOK rfl (.tmp 35) (.tmp 36) rfl W.heap.size (.slice (some ⟨bE, 0, none⟩) 0 0) [] (by simp [Act.eval]; done) (own_fresh FE.out hE) ⟨bl, ol, none⟩ l.length cap l (by simp [Act.eval]; done) rfl (srcS_up SV.out FB.out) h0 hlm FB.out.size ?_
            intro v1 X4 hout
            have FA2 : Hid (OwnSes X4 W.heap.size v1 l) := Lib.hid hout.1
            have FB2 := Lib.hid (FB.out.trans hout.2.2.1)
            have FL2 := Lib.hid (lone_keep FL.out (hout.2.2.2 bL FL.out.lt (lone_ne FL.out FE.out)))
            have FP2 := Lib.hid ((hout.2.2.2 bP (Array.getElem?_eq_some_iff.1 FP.out).1 (own_ne_ty (own_fresh FE.out hE) FP.out (by decide))).trans FP.out)
            go_simp
            refine hK.out _ _ ?_ (fun hHeld2 => ?_)
            · exact six_low FB2.out hwW hS0
            clear hK Kx hHeld
            have hHeld := hHeld2
            clear hHeld2
            try simp only [Act.put, List.setIfInBounds_toArray, List.set_cons_zero, List.set_cons_succ]
            clear FB FE hout FL FP
            have FL := FL2
            clear FL2
            have FP := FP2
            clear FP2
            have FA := FA2
            clear FA2
            have FB := FB2
            clear FB2
            refine wpAnyH_ready (rs := [5]) (by as_aux_lemma => kernel_rfl) (by simp) ?_
            refine AllReadyH.cons (o := { dst := some 40, op := Op.call { callee := Callee.builtin Builtin.append, args := #[Operand.tmp 37, Operand.tmp 39], argTypes := #[22, 22] }, type := 22, pos := "law.go:68", after := #[{ on := 2, ground := Ground.data }, { on := 4, ground := Ground.data }, { on := 2, ground := Ground.chain }], guard := none }) rfl (fun Kx hK => ?_) AllReadyH.nil
            · skip
              refine step_append_L sesOK rfl (.tmp 37) (.tmp 39) rfl W.heap.size v1 l (by simp [Act.eval]; done) FA.out ⟨bL, 0, none⟩ 1 1 [⟨kn, ki, ⟨ka, kb, kc, ks⟩⟩] (by simp [Act.eval]; done) rfl FL.out.src (by simp) hlm2 FB.out.size ?_
              intro v2 X5 hout
              have FC2 : Hid (OwnSes X5 W.heap.size v2 (l ++ [⟨kn, ki, ⟨ka, kb, kc, ks⟩⟩])) := Lib.hid hout.1
              have FB2 := Lib.hid (FB.out.trans hout.2.2.1)
              have FP2 := Lib.hid ((hout.2.2.2 bP (Array.getElem?_eq_some_iff.1 FP.out).1 (own_ne_ty FA.out FP.out (by decide))).trans FP.out)
              go_simp
              refine hK.out _ _ ?_ (fun hHeld2 => ?_)
              · exact six_low FB2.out hwW hS0
              clear hK Kx hHeld
              have hHeld := hHeld2
              clear hHeld2
              try simp only [Act.put, List.setIfInBounds_toArray, List.set_cons_zero, List.set_cons_succ]
              clear FB FA FL hout FP
              have FP := FP2
              clear FP2
              have FC := FC2
              clear FC2
              have FB := FB2
              clear FB2
              refine wpAnyH_ready (rs := [6]) (by as_aux_lemma => kernel_rfl) (by simp) ?_
              refine AllReadyH.cons (o := { dst := some 41, op := Op.call { callee := Callee.value (Operand.func 32), args := #[Operand.tmp 40], argTypes := #[22] }, type := 44, pos := "law.go:68", after := #[{ on := 5, ground := Ground.data }, { on := 5, ground := Ground.chain }], guard := none }) rfl (fun Kx hK => ?_) AllReadyH.nil
              · skip
                go_simp
                refine (C2.out _ _ (FC.out.rd sesOK)).mono ?_
                rintro e X6 ⟨rfl, b9⟩
                have FB2 := Lib.hid (FB.out.trans (b9.mono FB.out.size))
                have FP2 := Lib.hid ((b9.block bP (Array.getElem?_eq_some_iff.1 FP.out).1).trans FP.out)
                go_wp2_with fail
                refine hK.out _ _ ?_ (fun hHeld2 => ?_)
                · exact six_low FB2.out hwW hS0
                clear hK Kx hHeld
                have hHeld := hHeld2
                clear hHeld2
                try simp only [Act.put, List.setIfInBounds_toArray, List.set_cons_zero, List.set_cons_succ]
                clear FB FC b9 FP
                have FP := FP2
                clear FP2
                have FB := FB2
                clear FB2
                refine wpAnyH_take (i := 7) (oi := { dst := some 34, op := Op.move (Operand.tmp 41), type := 44, pos := "law.go:68", after := #[{ on := 6, ground := Ground.data }], guard := none }) (v := ?_) rfl (by as_aux_lemma => kernel_rfl) (by as_aux_lemma => kernel_rfl) (by as_aux_lemma => kernel_rfl) (fun _ _ _ h => h) (Or.inl ⟨by rfl, ?_⟩) (by assumption) ?_
                rotate_left
                · intro w' hSw
                  try dsimp only at hSw
                  go_simp
                  try with_reducible rfl
                try simp only [Act.put, List.setIfInBounds_toArray, List.set_cons_zero, List.set_cons_succ]
                refine wpAnyH_take (i := 8) (oi := { dst := some 42, op := Op.extract (Operand.tmp 34) 0, type := 32, pos := "law.go:68", after := #[{ on := 7, ground := Ground.data }], guard := none }) (v := ?_) rfl (by as_aux_lemma => kernel_rfl) (by as_aux_lemma => kernel_rfl) (by as_aux_lemma => kernel_rfl) (fun _ _ _ h => h) (Or.inl ⟨by rfl, ?_⟩) (by assumption) ?_
                rotate_left
                · intro w' hSw
                  try dsimp only at hSw
                  go_simp
                  try with_reducible rfl
                try simp only [Act.put, List.setIfInBounds_toArray, List.set_cons_zero, List.set_cons_succ]
                refine wpAnyH_take (i := 9) (oi := { dst := some 43, op := Op.extract (Operand.tmp 34) 1, type := 4, pos := "law.go:68", after := #[{ on := 7, ground := Ground.data }, { on := 11, ground := Ground.gcOnly Departure.lateStores }], guard := none }) (v := ?_) rfl (by as_aux_lemma => kernel_rfl) (by as_aux_lemma => kernel_rfl) (by as_aux_lemma => kernel_rfl) (fun _ _ _ h => h) (Or.inl ⟨by rfl, ?_⟩) (by assumption) ?_
                rotate_left
                · intro w' hSw
                  try dsimp only at hSw
                  go_simp
                  try with_reducible rfl
                try simp only [Act.put, List.setIfInBounds_toArray, List.set_cons_zero, List.set_cons_succ]
                obtain ⟨p0, p1, p2, p3⟩ := row4 FP.out
                obtain ⟨g0, g1, g2, g3⟩ := free4 FP.out
                have FQ := Lib.hid (store4_cells (x0 := .int .i64 qa) (x1 := .int .i64 qb) (x2 := .int .i64 qc) (x3 := .string ⟨qs.toArray⟩) FP.out)
                have FB2 : Hid (Below W.heap.size W ((((X6.setCell ⟨bP, 0, none⟩ (.int .i64 qa)).setCell ⟨bP, 1, none⟩ (.int .i64 qb)).setCell ⟨bP, 2, none⟩ (.int .i64 qc)).setCell ⟨bP, 3, none⟩ (.string ⟨qs.toArray⟩))) := Lib.hid ((((FB.out.setCell hP _).setCell hP _).setCell hP _).setCell hP _)
                refine wpAnyH_ready (rs := [11]) (by as_aux_lemma => kernel_rfl) (by simp) ?_
                refine AllReadyH.cons (o := { dst := none, op := Op.store 32 (Operand.tmp 7) (Operand.tmp 42), type := 0, pos := "law.go:68", after := #[{ on := 10, ground := Ground.data }, { on := 8, ground := Ground.data }, { on := 6, ground := Ground.chain }, { on := 0, ground := Ground.phase }, { on := 1, ground := Ground.phase }, { on := 2, ground := Ground.phase }, { on := 3, ground := Ground.phase }, { on := 4, ground := Ground.phase }, { on := 5, ground := Ground.phase }, { on := 6, ground := Ground.phase }, { on := 7, ground := Ground.phase }, { on := 8, ground := Ground.phase }, { on := 9, ground := Ground.textOnly Departure.lateStores }, { on := 10, ground := Ground.phase }], guard := none }) rfl (fun Kx hK => ?_) AllReadyH.nil
                go_simp
                refine hK.out _ _ ?_ (fun hHeld2 => ?_)
                · exact six_low FB2.out hwW hS0
                clear hK Kx hHeld
                have hHeld := hHeld2
                clear hHeld2
                try simp only [Act.put, List.setIfInBounds_toArray, List.set_cons_zero, List.set_cons_succ]
                refine wpAnyH_take (i := 12) (oi := { dst := some 8, op := Op.assign (Operand.tmp 43), type := 4, pos := "law.go:68", after := #[{ on := 9, ground := Ground.data }, { on := 11, ground := Ground.chain }, { on := 0, ground := Ground.phase }, { on := 1, ground := Ground.phase }, { on := 2, ground := Ground.phase }, { on := 3, ground := Ground.phase }, { on := 4, ground := Ground.phase }, { on := 5, ground := Ground.phase }, { on := 6, ground := Ground.phase }, { on := 7, ground := Ground.phase }, { on := 8, ground := Ground.phase }, { on := 9, ground := Ground.phase }, { on := 10, ground := Ground.phase }, { on := 11, ground := Ground.phase }], guard := none }) (v := ?_) rfl (by as_aux_lemma => kernel_rfl) (by as_aux_lemma => kernel_rfl) (by as_aux_lemma => kernel_rfl) (fun _ _ _ h => h) (Or.inl ⟨by rfl, ?_⟩) (by assumption) ?_
                rotate_left
                · intro w' hSw
                  try dsimp only at hSw
                  go_simp
                  try with_reducible rfl
                try simp only [Act.put, List.setIfInBounds_toArray, List.set_cons_zero, List.set_cons_succ]
                refine wpAnyH_done (by kernel_rfl) ?_ _
                go_wp2_with fail
                go_meet
                exact ⟨bP, rfl, rfl, FQ, FB2⟩
    · skip
      go_simp
      have FB2 : Hid (Below W.heap.size W (X0.alloc (.cells #[.string ⟨kn.toArray⟩, .int .i64 ki, .int .i64 ka, .int .i64 kb, .int .i64 kc, .string ⟨ks.toArray⟩] 34))) := Lib.hid (FB.out.alloc FB.out.size _)
      have FL2 : Hid (LoneS sesVals 34 (X0.alloc (.cells #[.string ⟨kn.toArray⟩, .int .i64 ki, .int .i64 ka, .int .i64 kb, .int .i64 kc, .string ⟨ks.toArray⟩] 34)) X0.heap.size ⟨kn, ki, ⟨ka, kb, kc, ks⟩⟩) := Lib.hid (loneS_new rfl rfl)
      have hL : W.heap.size ≤ X0.heap.size := FB.out.size
      refine hK.out _ _ ?_ (fun hHeld2 => ?_)
      · exact six_low FB2.out hwW hS0
      clear hK Kx hHeld
      have hHeld := hHeld2
      clear hHeld2
      try simp only [Act.put, List.setIfInBounds_toArray, List.set_cons_zero, List.set_cons_succ]
      clear FB 
      generalize X0.alloc (.cells #[.string ⟨kn.toArray⟩, .int .i64 ki, .int .i64 ka, .int .i64 kb, .int .i64 kc, .string ⟨ks.toArray⟩] 34) = X1 at FL2 FB2 hHeld ⊢
      generalize X0.heap.size = bL at FL2 hL ⊢
      have FL := FL2
      clear FL2
      have FB := FB2
      clear FB2
      refine wpAnyH_ready (rs := [0, 10]) (by as_aux_lemma => kernel_rfl) (by simp) ?_
      refine AllReadyH.cons (o := { dst := some 35, op := Op.buildSlice 22 0 #[], type := 22, pos := "law.go:68", after := #[], guard := none }) rfl (fun Kx hK => ?_) (AllReadyH.cons (o := { dst := some 7, op := Op.alloc 32, type := 0, pos := "law.go:68", after := #[], guard := none }) rfl (fun Kx hK => ?_) AllReadyH.nil)
      · skip
        go_simp
        have FL2 := Lib.hid (FL.out.later (bl_newZ X1 (.cells #[] 34)))
        have FB2 : Hid (Below W.heap.size W (X1.alloc (.cells #[] 34))) := Lib.hid (FB.out.alloc FB.out.size _)
        have FE2 : Hid ((X1.alloc (.cells #[] 34)).heap[X1.heap.size]? = some (.cells #[] 34 (0, 0))) := Lib.hid (heap_alloc_new X1 _)
        have hE : W.heap.size ≤ X1.heap.size := FB.out.size
        refine hK.out _ _ ?_ (fun hHeld2 => ?_)
        · exact six_low FB2.out hwW hS0
        clear hK Kx hHeld
        have hHeld := hHeld2
        clear hHeld2
        try simp only [Act.put, List.setIfInBounds_toArray, List.set_cons_zero, List.set_cons_succ]
        clear FB FL
        generalize X1.alloc (.cells #[] 34) = X2 at FE2 FL2 FB2 hHeld ⊢
        generalize X1.heap.size = bE at FE2 hE ⊢
        have FE := FE2
        clear FE2
        have FL := FL2
        clear FL2
        have FB := FB2
        clear FB2
        refine wpAnyH_ready (rs := [2, 10]) (by as_aux_lemma => kernel_rfl) (by simp) ?_
        refine AllReadyH.cons (o := { dst := some 37, op := Op.call { callee := Callee.builtin Builtin.append, args := #[Operand.tmp 35, Operand.tmp 36], argTypes := #[22, 22] }, type := 22, pos := "law.go:68", after := #[{ on := 0, ground := Ground.data }, { on := 1, ground := Ground.data }], guard := none }) rfl (fun Kx hK => ?_) (AllReadyH.cons (o := { dst := some 7, op := Op.alloc 32, type := 0, pos := "law.go:68", after := #[], guard := none }) rfl (fun Kx hK => ?_) AllReadyH.nil)
        · skip
          refine step_append_L sesOK rfl (.tmp 35) (.tmp 36) rfl W.heap.size (.slice (some ⟨bE, 0, none⟩) 0 0) [] (by simp [Act.eval]; done) (own_fresh FE.out hE) ⟨bl, ol, none⟩ l.length cap l (by simp [Act.eval]; done) rfl (srcS_up SV.out FB.out) h0 hlm FB.out.size ?_
          intro v1 X3 hout
          have FA2 : Hid (OwnSes X3 W.heap.size v1 l) := Lib.hid hout.1
          have FB2 := Lib.hid (FB.out.trans hout.2.2.1)
          have FL2 := Lib.hid (lone_keep FL.out (hout.2.2.2 bL FL.out.lt (lone_ne FL.out FE.out)))
          go_simp
          refine hK.out _ _ ?_ (fun hHeld2 => ?_)
          · exact six_low FB2.out hwW hS0
          clear hK Kx hHeld
          have hHeld := hHeld2
          clear hHeld2
          try simp only [Act.put, List.setIfInBounds_toArray, List.set_cons_zero, List.set_cons_succ]
          clear FB FE hout FL
          have FL := FL2
          clear FL2
          have FA := FA2
          clear FA2
          have FB := FB2
          clear FB2
          refine wpAnyH_ready (rs := [5, 10]) (by as_aux_lemma => kernel_rfl) (by simp) ?_
          refine AllReadyH.cons (o := { dst := some 40, op := Op.call { callee := Callee.builtin Builtin.append, args := #[Operand.tmp 37, Operand.tmp 39], argTypes := #[22, 22] }, type := 22, pos := "law.go:68", after := #[{ on := 2, ground := Ground.data }, { on := 4, ground := Ground.data }, { on := 2, ground := Ground.chain }], guard := none }) rfl (fun Kx hK => ?_) (AllReadyH.cons (o := { dst := some 7, op := Op.alloc 32, type := 0, pos := "law.go:68", after := #[], guard := none }) rfl (fun Kx hK => ?_) AllReadyH.nil)
          · skip
            refine step_append_L sesOK rfl (.tmp 37) (.tmp 39) rfl W.heap.size v1 l (by simp [Act.eval]; done) FA.out ⟨bL, 0, none⟩ 1 1 [⟨kn, ki, ⟨ka, kb, kc, ks⟩⟩] (by simp [Act.eval]; done) rfl FL.out.src (by simp) hlm2 FB.out.size ?_
            intro v2 X4 hout
            have FC2 : Hid (OwnSes X4 W.heap.size v2 (l ++ [⟨kn, ki, ⟨ka, kb, kc, ks⟩⟩])) := Lib.hid hout.1
            have FB2 := Lib.hid (FB.out.trans hout.2.2.1)
            go_simp
            refine hK.out _ _ ?_ (fun hHeld2 => ?_)
            · exact six_low FB2.out hwW hS0
            clear hK Kx hHeld
            have hHeld := hHeld2
            clear hHeld2
            try simp only [Act.put, List.setIfInBounds_toArray, List.set_cons_zero, List.set_cons_succ]
            clear FB FA FL hout
            have FC := FC2
            clear FC2
            have FB := FB2
            clear FB2
            refine wpAnyH_ready (rs := [6, 10]) (by as_aux_lemma => kernel_rfl) (by simp) ?_
            refine AllReadyH.cons (o := { dst := some 41, op := Op.call { callee := Callee.value (Operand.func 32), args := #[Operand.tmp 40], argTypes := #[22] }, type := 44, pos := "law.go:68", after := #[{ on := 5, ground := Ground.data }, { on := 5, ground := Ground.chain }], guard := none }) rfl (fun Kx hK => ?_) (AllReadyH.cons (o := { dst := some 7, op := Op.alloc 32, type := 0, pos := "law.go:68", after := #[], guard := none }) rfl (fun Kx hK => ?_) AllReadyH.nil)
            · skip
              go_simp
              refine (C2.out _ _ (FC.out.rd sesOK)).mono ?_
              rintro e X5 ⟨rfl, b9⟩
              have FB2 := Lib.hid (FB.out.trans (b9.mono FB.out.size))
              go_wp2_with fail
              refine hK.out _ _ ?_ (fun hHeld2 => ?_)
              · exact six_low FB2.out hwW hS0
              clear hK Kx hHeld
              have hHeld := hHeld2
              clear hHeld2
              try simp only [Act.put, List.setIfInBounds_toArray, List.set_cons_zero, List.set_cons_succ]
              clear FB FC b9
              have FB := FB2
              clear FB2
              refine wpAnyH_take (i := 7) (oi := { dst := some 34, op := Op.move (Operand.tmp 41), type := 44, pos := "law.go:68", after := #[{ on := 6, ground := Ground.data }], guard := none }) (v := ?_) rfl (by as_aux_lemma => kernel_rfl) (by as_aux_lemma => kernel_rfl) (by as_aux_lemma => kernel_rfl) (fun _ _ _ h => h) (Or.inl ⟨by rfl, ?_⟩) (by assumption) ?_
              rotate_left
              · intro w' hSw
                try dsimp only at hSw
                go_simp
                try with_reducible rfl
              try simp only [Act.put, List.setIfInBounds_toArray, List.set_cons_zero, List.set_cons_succ]
              refine wpAnyH_take (i := 8) (oi := { dst := some 42, op := Op.extract (Operand.tmp 34) 0, type := 32, pos := "law.go:68", after := #[{ on := 7, ground := Ground.data }], guard := none }) (v := ?_) rfl (by as_aux_lemma => kernel_rfl) (by as_aux_lemma => kernel_rfl) (by as_aux_lemma => kernel_rfl) (fun _ _ _ h => h) (Or.inl ⟨by rfl, ?_⟩) (by assumption) ?_
              rotate_left
              · intro w' hSw
                try dsimp only at hSw
                go_simp
                try with_reducible rfl
              try simp only [Act.put, List.setIfInBounds_toArray, List.set_cons_zero, List.set_cons_succ]
              refine wpAnyH_take (i := 9) (oi := { dst := some 43, op := Op.extract (Operand.tmp 34) 1, type := 4, pos := "law.go:68", after := #[{ on := 7, ground := Ground.data }, { on := 11, ground := Ground.gcOnly Departure.lateStores }], guard := none }) (v := ?_) rfl (by as_aux_lemma => kernel_rfl) (by as_aux_lemma => kernel_rfl) (by as_aux_lemma => kernel_rfl) (fun _ _ _ h => h) (Or.inl ⟨by rfl, ?_⟩) (by assumption) ?_
              rotate_left
              · intro w' hSw
                try dsimp only at hSw
                go_simp
                try with_reducible rfl
              try simp only [Act.put, List.setIfInBounds_toArray, List.set_cons_zero, List.set_cons_succ]
              refine wpAnyH_ready (rs := [10]) (by as_aux_lemma => kernel_rfl) (by simp) ?_
              refine AllReadyH.cons (o := { dst := some 7, op := Op.alloc 32, type := 0, pos := "law.go:68", after := #[], guard := none }) rfl (fun Kx hK => ?_) AllReadyH.nil
              · skip
                go_simp
                have FB2 : Hid (Below W.heap.size W (X5.alloc (.cells #[.int .i64 0, .int .i64 0, .int .i64 0, .string ⟨#[]⟩] 32))) := Lib.hid (FB.out.alloc FB.out.size _)
                have FP2 : Hid ((X5.alloc (.cells #[.int .i64 0, .int .i64 0, .int .i64 0, .string ⟨#[]⟩] 32)).heap[X5.heap.size]? = some (.cells #[.int .i64 0, .int .i64 0, .int .i64 0, .string ⟨#[]⟩] 32 (0, 0))) := Lib.hid (heap_alloc_new X5 _)
                have hP : W.heap.size ≤ X5.heap.size := FB.out.size
                refine hK.out _ _ ?_ (fun hHeld2 => ?_)
                · exact six_low FB2.out hwW hS0
                clear hK Kx hHeld
                have hHeld := hHeld2
                clear hHeld2
                try simp only [Act.put, List.setIfInBounds_toArray, List.set_cons_zero, List.set_cons_succ]
                clear FB 
                generalize X5.alloc (.cells #[.int .i64 0, .int .i64 0, .int .i64 0, .string ⟨#[]⟩] 32) = X6 at FP2 FB2 hHeld ⊢
                generalize X5.heap.size = bP at FP2 hP ⊢
                have FP := FP2
                clear FP2
                have FB := FB2
                clear FB2
                obtain ⟨p0, p1, p2, p3⟩ := row4 FP.out
                obtain ⟨g0, g1, g2, g3⟩ := free4 FP.out
                have FQ := Lib.hid (store4_cells (x0 := .int .i64 qa) (x1 := .int .i64 qb) (x2 := .int .i64 qc) (x3 := .string ⟨qs.toArray⟩) FP.out)
                have FB2 : Hid (Below W.heap.size W ((((X6.setCell ⟨bP, 0, none⟩ (.int .i64 qa)).setCell ⟨bP, 1, none⟩ (.int .i64 qb)).setCell ⟨bP, 2, none⟩ (.int .i64 qc)).setCell ⟨bP, 3, none⟩ (.string ⟨qs.toArray⟩))) := Lib.hid ((((FB.out.setCell hP _).setCell hP _).setCell hP _).setCell hP _)
                refine wpAnyH_ready (rs := [11]) (by as_aux_lemma => kernel_rfl) (by simp) ?_
                refine AllReadyH.cons (o := { dst := none, op := Op.store 32 (Operand.tmp 7) (Operand.tmp 42), type := 0, pos := "law.go:68", after := #[{ on := 10, ground := Ground.data }, { on := 8, ground := Ground.data }, { on := 6, ground := Ground.chain }, { on := 0, ground := Ground.phase }, { on := 1, ground := Ground.phase }, { on := 2, ground := Ground.phase }, { on := 3, ground := Ground.phase }, { on := 4, ground := Ground.phase }, { on := 5, ground := Ground.phase }, { on := 6, ground := Ground.phase }, { on := 7, ground := Ground.phase }, { on := 8, ground := Ground.phase }, { on := 9, ground := Ground.textOnly Departure.lateStores }, { on := 10, ground := Ground.phase }], guard := none }) rfl (fun Kx hK => ?_) AllReadyH.nil
                go_simp
                refine hK.out _ _ ?_ (fun hHeld2 => ?_)
                · exact six_low FB2.out hwW hS0
                clear hK Kx hHeld
                have hHeld := hHeld2
                clear hHeld2
                try simp only [Act.put, List.setIfInBounds_toArray, List.set_cons_zero, List.set_cons_succ]
                refine wpAnyH_take (i := 12) (oi := { dst := some 8, op := Op.assign (Operand.tmp 43), type := 4, pos := "law.go:68", after := #[{ on := 9, ground := Ground.data }, { on := 11, ground := Ground.chain }, { on := 0, ground := Ground.phase }, { on := 1, ground := Ground.phase }, { on := 2, ground := Ground.phase }, { on := 3, ground := Ground.phase }, { on := 4, ground := Ground.phase }, { on := 5, ground := Ground.phase }, { on := 6, ground := Ground.phase }, { on := 7, ground := Ground.phase }, { on := 8, ground := Ground.phase }, { on := 9, ground := Ground.phase }, { on := 10, ground := Ground.phase }, { on := 11, ground := Ground.phase }], guard := none }) (v := ?_) rfl (by as_aux_lemma => kernel_rfl) (by as_aux_lemma => kernel_rfl) (by as_aux_lemma => kernel_rfl) (fun _ _ _ h => h) (Or.inl ⟨by rfl, ?_⟩) (by assumption) ?_
                rotate_left
                · intro w' hSw
                  try dsimp only at hSw
                  go_simp
                  try with_reducible rfl
                try simp only [Act.put, List.setIfInBounds_toArray, List.set_cons_zero, List.set_cons_succ]
                refine wpAnyH_done (by kernel_rfl) ?_ _
                go_wp2_with fail
                go_meet
                exact ⟨bP, rfl, rfl, FQ, FB2⟩
            · skip
              go_simp
              have FC2 := Lib.hid (FC.out.alloc (.cells #[.int .i64 0, .int .i64 0, .int .i64 0, .string ⟨#[]⟩] 32))
              have FB2 : Hid (Below W.heap.size W (X4.alloc (.cells #[.int .i64 0, .int .i64 0, .int .i64 0, .string ⟨#[]⟩] 32))) := Lib.hid (FB.out.alloc FB.out.size _)
              have FP2 : Hid ((X4.alloc (.cells #[.int .i64 0, .int .i64 0, .int .i64 0, .string ⟨#[]⟩] 32)).heap[X4.heap.size]? = some (.cells #[.int .i64 0, .int .i64 0, .int .i64 0, .string ⟨#[]⟩] 32 (0, 0))) := Lib.hid (heap_alloc_new X4 _)
              have hP : W.heap.size ≤ X4.heap.size := FB.out.size
              refine hK.out _ _ ?_ (fun hHeld2 => ?_)
              · exact six_low FB2.out hwW hS0
              clear hK Kx hHeld
              have hHeld := hHeld2
              clear hHeld2
              try simp only [Act.put, List.setIfInBounds_toArray, List.set_cons_zero, List.set_cons_succ]
              clear FB FC
              generalize X4.alloc (.cells #[.int .i64 0, .int .i64 0, .int .i64 0, .string ⟨#[]⟩] 32) = X5 at FP2 FC2 FB2 hHeld ⊢
              generalize X4.heap.size = bP at FP2 hP ⊢
              have FP := FP2
              clear FP2
              have FC := FC2
              clear FC2
              have FB := FB2
              clear FB2
              refine wpAnyH_ready (rs := [6]) (by as_aux_lemma => kernel_rfl) (by simp) ?_
              refine AllReadyH.cons (o := { dst := some 41, op := Op.call { callee := Callee.value (Operand.func 32), args := #[Operand.tmp 40], argTypes := #[22] }, type := 44, pos := "law.go:68", after := #[{ on := 5, ground := Ground.data }, { on := 5, ground := Ground.chain }], guard := none }) rfl (fun Kx hK => ?_) AllReadyH.nil
              · skip
                go_simp
                refine (C2.out _ _ (FC.out.rd sesOK)).mono ?_
                rintro e X6 ⟨rfl, b9⟩
                have FB2 := Lib.hid (FB.out.trans (b9.mono FB.out.size))
                have FP2 := Lib.hid ((b9.block bP (Array.getElem?_eq_some_iff.1 FP.out).1).trans FP.out)
                go_wp2_with fail
                refine hK.out _ _ ?_ (fun hHeld2 => ?_)
                · exact six_low FB2.out hwW hS0
                clear hK Kx hHeld
                have hHeld := hHeld2
                clear hHeld2
                try simp only [Act.put, List.setIfInBounds_toArray, List.set_cons_zero, List.set_cons_succ]
                clear FB FC b9 FP
                have FP := FP2
                clear FP2
                have FB := FB2
                clear FB2
                refine wpAnyH_take (i := 7) (oi := { dst := some 34, op := Op.move (Operand.tmp 41), type := 44, pos := "law.go:68", after := #[{ on := 6, ground := Ground.data }], guard := none }) (v := ?_) rfl (by as_aux_lemma => kernel_rfl) (by as_aux_lemma => kernel_rfl) (by as_aux_lemma => kernel_rfl) (fun _ _ _ h => h) (Or.inl ⟨by rfl, ?_⟩) (by assumption) ?_
                rotate_left
                · intro w' hSw
                  try dsimp only at hSw
                  go_simp
                  try with_reducible rfl
                try simp only [Act.put, List.setIfInBounds_toArray, List.set_cons_zero, List.set_cons_succ]
                refine wpAnyH_take (i := 8) (oi := { dst := some 42, op := Op.extract (Operand.tmp 34) 0, type := 32, pos := "law.go:68", after := #[{ on := 7, ground := Ground.data }], guard := none }) (v := ?_) rfl (by as_aux_lemma => kernel_rfl) (by as_aux_lemma => kernel_rfl) (by as_aux_lemma => kernel_rfl) (fun _ _ _ h => h) (Or.inl ⟨by rfl, ?_⟩) (by assumption) ?_
                rotate_left
                · intro w' hSw
                  try dsimp only at hSw
                  go_simp
                  try with_reducible rfl
                try simp only [Act.put, List.setIfInBounds_toArray, List.set_cons_zero, List.set_cons_succ]
                refine wpAnyH_take (i := 9) (oi := { dst := some 43, op := Op.extract (Operand.tmp 34) 1, type := 4, pos := "law.go:68", after := #[{ on := 7, ground := Ground.data }, { on := 11, ground := Ground.gcOnly Departure.lateStores }], guard := none }) (v := ?_) rfl (by as_aux_lemma => kernel_rfl) (by as_aux_lemma => kernel_rfl) (by as_aux_lemma => kernel_rfl) (fun _ _ _ h => h) (Or.inl ⟨by rfl, ?_⟩) (by assumption) ?_
                rotate_left
                · intro w' hSw
                  try dsimp only at hSw
                  go_simp
                  try with_reducible rfl
                try simp only [Act.put, List.setIfInBounds_toArray, List.set_cons_zero, List.set_cons_succ]
                obtain ⟨p0, p1, p2, p3⟩ := row4 FP.out
                obtain ⟨g0, g1, g2, g3⟩ := free4 FP.out
                have FQ := Lib.hid (store4_cells (x0 := .int .i64 qa) (x1 := .int .i64 qb) (x2 := .int .i64 qc) (x3 := .string ⟨qs.toArray⟩) FP.out)
                have FB2 : Hid (Below W.heap.size W ((((X6.setCell ⟨bP, 0, none⟩ (.int .i64 qa)).setCell ⟨bP, 1, none⟩ (.int .i64 qb)).setCell ⟨bP, 2, none⟩ (.int .i64 qc)).setCell ⟨bP, 3, none⟩ (.string ⟨qs.toArray⟩))) := Lib.hid ((((FB.out.setCell hP _).setCell hP _).setCell hP _).setCell hP _)
                refine wpAnyH_ready (rs := [11]) (by as_aux_lemma => kernel_rfl) (by simp) ?_
                refine AllReadyH.cons (o := { dst := none, op := Op.store 32 (Operand.tmp 7) (Operand.tmp 42), type := 0, pos := "law.go:68", after := #[{ on := 10, ground := Ground.data }, { on := 8, ground := Ground.data }, { on := 6, ground := Ground.chain }, { on := 0, ground := Ground.phase }, { on := 1, ground := Ground.phase }, { on := 2, ground := Ground.phase }, { on := 3, ground := Ground.phase }, { on := 4, ground := Ground.phase }, { on := 5, ground := Ground.phase }, { on := 6, ground := Ground.phase }, { on := 7, ground := Ground.phase }, { on := 8, ground := Ground.phase }, { on := 9, ground := Ground.textOnly Departure.lateStores }, { on := 10, ground := Ground.phase }], guard := none }) rfl (fun Kx hK => ?_) AllReadyH.nil
                go_simp
                refine hK.out _ _ ?_ (fun hHeld2 => ?_)
                · exact six_low FB2.out hwW hS0
                clear hK Kx hHeld
                have hHeld := hHeld2
                clear hHeld2
                try simp only [Act.put, List.setIfInBounds_toArray, List.set_cons_zero, List.set_cons_succ]
                refine wpAnyH_take (i := 12) (oi := { dst := some 8, op := Op.assign (Operand.tmp 43), type := 4, pos := "law.go:68", after := #[{ on := 9, ground := Ground.data }, { on := 11, ground := Ground.chain }, { on := 0, ground := Ground.phase }, { on := 1, ground := Ground.phase }, { on := 2, ground := Ground.phase }, { on := 3, ground := Ground.phase }, { on := 4, ground := Ground.phase }, { on := 5, ground := Ground.phase }, { on := 6, ground := Ground.phase }, { on := 7, ground := Ground.phase }, { on := 8, ground := Ground.phase }, { on := 9, ground := Ground.phase }, { on := 10, ground := Ground.phase }, { on := 11, ground := Ground.phase }], guard := none }) (v := ?_) rfl (by as_aux_lemma => kernel_rfl) (by as_aux_lemma => kernel_rfl) (by as_aux_lemma => kernel_rfl) (fun _ _ _ h => h) (Or.inl ⟨by rfl, ?_⟩) (by assumption) ?_
                rotate_left
                · intro w' hSw
                  try dsimp only at hSw
                  go_simp
                  try with_reducible rfl
                try simp only [Act.put, List.setIfInBounds_toArray, List.set_cons_zero, List.set_cons_succ]
                refine wpAnyH_done (by kernel_rfl) ?_ _
                go_wp2_with fail
                go_meet
                exact ⟨bP, rfl, rfl, FQ, FB2⟩
          · skip
            go_simp
            have FL2 := Lib.hid (FL.out.later (bl_newZ X3 (.cells #[.int .i64 0, .int .i64 0, .int .i64 0, .string ⟨#[]⟩] 32)))
            have FA2 := Lib.hid (FA.out.alloc (.cells #[.int .i64 0, .int .i64 0, .int .i64 0, .string ⟨#[]⟩] 32))
            have FB2 : Hid (Below W.heap.size W (X3.alloc (.cells #[.int .i64 0, .int .i64 0, .int .i64 0, .string ⟨#[]⟩] 32))) := Lib.hid (FB.out.alloc FB.out.size _)
            have FP2 : Hid ((X3.alloc (.cells #[.int .i64 0, .int .i64 0, .int .i64 0, .string ⟨#[]⟩] 32)).heap[X3.heap.size]? = some (.cells #[.int .i64 0, .int .i64 0, .int .i64 0, .string ⟨#[]⟩] 32 (0, 0))) := Lib.hid (heap_alloc_new X3 _)
            have hP : W.heap.size ≤ X3.heap.size := FB.out.size
            refine hK.out _ _ ?_ (fun hHeld2 => ?_)
            · exact six_low FB2.out hwW hS0
            clear hK Kx hHeld
            have hHeld := hHeld2
            clear hHeld2
            try simp only [Act.put, List.setIfInBounds_toArray, List.set_cons_zero, List.set_cons_succ]
            clear FB FL FA
            generalize X3.alloc (.cells #[.int .i64 0, .int .i64 0, .int .i64 0, .string ⟨#[]⟩] 32) = X4 at FL2 FP2 FA2 FB2 hHeld ⊢
            generalize X3.heap.size = bP at FP2 hP ⊢
            have FL := FL2
            clear FL2
            have FP := FP2
            clear FP2
            have FA := FA2
            clear FA2
            have FB := FB2
            clear FB2
            refine wpAnyH_ready (rs := [5]) (by as_aux_lemma => kernel_rfl) (by simp) ?_
            refine AllReadyH.cons (o := { dst := some 40, op := Op.call { callee := Callee.builtin Builtin.append, args := #[Operand.tmp 37, Operand.tmp 39], argTypes := #[22, 22] }, type := 22, pos := "law.go:68", after := #[{ on := 2, ground := Ground.data }, { on := 4, ground := Ground.data }, { on := 2, ground := Ground.chain }], guard := none }) rfl (fun Kx hK => ?_) AllReadyH.nil
            · skip
              refine step_append_L sesOK rfl (.tmp 37) (.tmp 39) rfl W.heap.size v1 l (by simp [Act.eval]; done) FA.out ⟨bL, 0, none⟩ 1 1 [⟨kn, ki, ⟨ka, kb, kc, ks⟩⟩] (by simp [Act.eval]; done) rfl FL.out.src (by simp) hlm2 FB.out.size ?_
              intro v2 X5 hout
              have FC2 : Hid (OwnSes X5 W.heap.size v2 (l ++ [⟨kn, ki, ⟨ka, kb, kc, ks⟩⟩])) := Lib.hid hout.1
              have FB2 := Lib.hid (FB.out.trans hout.2.2.1)
              have FP2 := Lib.hid ((hout.2.2.2 bP (Array.getElem?_eq_some_iff.1 FP.out).1 (own_ne_ty FA.out FP.out (by decide))).trans FP.out)
              go_simp
              refine hK.out _ _ ?_ (fun hHeld2 => ?_)
              · exact six_low FB2.out hwW hS0
              clear hK Kx hHeld
              have hHeld := hHeld2
              clear hHeld2
              try simp only [Act.put, List.setIfInBounds_toArray, List.set_cons_zero, List.set_cons_succ]
              clear FB FA FL hout FP
              have FP := FP2
              clear FP2
              have FC := FC2
              clear FC2
              have FB := FB2
              clear FB2
              refine wpAnyH_ready (rs := [6]) (by as_aux_lemma => kernel_rfl) (by simp) ?_
              refine AllReadyH.cons (o := { dst := some 41, op := Op.call { callee := Callee.value (Operand.func 32), args := #[Operand.tmp 40], argTypes := #[22] }, type := 44, pos := "law.go:68", after := #[{ on := 5, ground := Ground.data }, { on := 5, ground := Ground.chain }], guard := none }) rfl (fun Kx hK => ?_) AllReadyH.nil
              · skip
                go_simp
                refine (C2.out _ _ (FC.out.rd sesOK)).mono ?_
                rintro e X6 ⟨rfl, b9⟩
                have FB2 := Lib.hid (FB.out.trans (b9.mono FB.out.size))
                have FP2 := Lib.hid ((b9.block bP (Array.getElem?_eq_some_iff.1 FP.out).1).trans FP.out)
                go_wp2_with fail
                refine hK.out _ _ ?_ (fun hHeld2 => ?_)
                · exact six_low FB2.out hwW hS0
                clear hK Kx hHeld
                have hHeld := hHeld2
                clear hHeld2
                try simp only [Act.put, List.setIfInBounds_toArray, List.set_cons_zero, List.set_cons_succ]
                clear FB FC b9 FP
                have FP := FP2
                clear FP2
                have FB := FB2
                clear FB2
                refine wpAnyH_take (i := 7) (oi := { dst := some 34, op := Op.move (Operand.tmp 41), type := 44, pos := "law.go:68", after := #[{ on := 6, ground := Ground.data }], guard := none }) (v := ?_) rfl (by as_aux_lemma => kernel_rfl) (by as_aux_lemma => kernel_rfl) (by as_aux_lemma => kernel_rfl) (fun _ _ _ h => h) (Or.inl ⟨by rfl, ?_⟩) (by assumption) ?_
                rotate_left
                · intro w' hSw
                  try dsimp only at hSw
                  go_simp
                  try with_reducible rfl
                try simp only [Act.put, List.setIfInBounds_toArray, List.set_cons_zero, List.set_cons_succ]
                refine wpAnyH_take (i := 8) (oi := { dst := some 42, op := Op.extract (Operand.tmp 34) 0, type := 32, pos := "law.go:68", after := #[{ on := 7, ground := Ground.data }], guard := none }) (v := ?_) rfl (by as_aux_lemma => kernel_rfl) (by as_aux_lemma => kernel_rfl) (by as_aux_lemma => kernel_rfl) (fun _ _ _ h => h) (Or.inl ⟨by rfl, ?_⟩) (by assumption) ?_
                rotate_left
                · intro w' hSw
                  try dsimp only at hSw
                  go_simp
                  try with_reducible rfl
                try simp only [Act.put, List.setIfInBounds_toArray, List.set_cons_zero, List.set_cons_succ]
                refine wpAnyH_take (i := 9) (oi := { dst := some 43, op := Op.extract (Operand.tmp 34) 1, type := 4, pos := "law.go:68", after := #[{ on := 7, ground := Ground.data }, { on := 11, ground := Ground.gcOnly Departure.lateStores }], guard := none }) (v := ?_) rfl (by as_aux_lemma => kernel_rfl) (by as_aux_lemma => kernel_rfl) (by as_aux_lemma => kernel_rfl) (fun _ _ _ h => h) (Or.inl ⟨by rfl, ?_⟩) (by assumption) ?_
                rotate_left
                · intro w' hSw
                  try dsimp only at hSw
                  go_simp
                  try with_reducible rfl
                try simp only [Act.put, List.setIfInBounds_toArray, List.set_cons_zero, List.set_cons_succ]
                obtain ⟨p0, p1, p2, p3⟩ := row4 FP.out
                obtain ⟨g0, g1, g2, g3⟩ := free4 FP.out
                have FQ := Lib.hid (store4_cells (x0 := .int .i64 qa) (x1 := .int .i64 qb) (x2 := .int .i64 qc) (x3 := .string ⟨qs.toArray⟩) FP.out)
                have FB2 : Hid (Below W.heap.size W ((((X6.setCell ⟨bP, 0, none⟩ (.int .i64 qa)).setCell ⟨bP, 1, none⟩ (.int .i64 qb)).setCell ⟨bP, 2, none⟩ (.int .i64 qc)).setCell ⟨bP, 3, none⟩ (.string ⟨qs.toArray⟩))) := Lib.hid ((((FB.out.setCell hP _).setCell hP _).setCell hP _).setCell hP _)
                refine wpAnyH_ready (rs := [11]) (by as_aux_lemma => kernel_rfl) (by simp) ?_
                refine AllReadyH.cons (o := { dst := none, op := Op.store 32 (Operand.tmp 7) (Operand.tmp 42), type := 0, pos := "law.go:68", after := #[{ on := 10, ground := Ground.data }, { on := 8, ground := Ground.data }, { on := 6, ground := Ground.chain }, { on := 0, ground := Ground.phase }, { on := 1, ground := Ground.phase }, { on := 2, ground := Ground.phase }, { on := 3, ground := Ground.phase }, { on := 4, ground := Ground.phase }, { on := 5, ground := Ground.phase }, { on := 6, ground := Ground.phase }, { on := 7, ground := Ground.phase }, { on := 8, ground := Ground.phase }, { on := 9, ground := Ground.textOnly Departure.lateStores }, { on := 10, ground := Ground.phase }], guard := none }) rfl (fun Kx hK => ?_) AllReadyH.nil
                go_simp
                refine hK.out _ _ ?_ (fun hHeld2 => ?_)
                · exact six_low FB2.out hwW hS0
                clear hK Kx hHeld
                have hHeld := hHeld2
                clear hHeld2
                try simp only [Act.put, List.setIfInBounds_toArray, List.set_cons_zero, List.set_cons_succ]
                refine wpAnyH_take (i := 12) (oi := { dst := some 8, op := Op.assign (Operand.tmp 43), type := 4, pos := "law.go:68", after := #[{ on := 9, ground := Ground.data }, { on := 11, ground := Ground.chain }, { on := 0, ground := Ground.phase }, { on := 1, ground := Ground.phase }, { on := 2, ground := Ground.phase }, { on := 3, ground := Ground.phase }, { on := 4, ground := Ground.phase }, { on := 5, ground := Ground.phase }, { on := 6, ground := Ground.phase }, { on := 7, ground := Ground.phase }, { on := 8, ground := Ground.phase }, { on := 9, ground := Ground.phase }, { on := 10, ground := Ground.phase }, { on := 11, ground := Ground.phase }], guard := none }) (v := ?_) rfl (by as_aux_lemma => kernel_rfl) (by as_aux_lemma => kernel_rfl) (by as_aux_lemma => kernel_rfl) (fun _ _ _ h => h) (Or.inl ⟨by rfl, ?_⟩) (by assumption) ?_
                rotate_left
                · intro w' hSw
                  try dsimp only at hSw
                  go_simp
                  try with_reducible rfl
                try simp only [Act.put, List.setIfInBounds_toArray, List.set_cons_zero, List.set_cons_succ]
                refine wpAnyH_done (by kernel_rfl) ?_ _
                go_wp2_with fail
                go_meet
                exact ⟨bP, rfl, rfl, FQ, FB2⟩
        · skip
          go_simp
          have FE2 := Lib.hid (at_old (o := .cells #[.int .i64 0, .int .i64 0, .int .i64 0, .string ⟨#[]⟩] 32) FE.out)
          have FL2 := Lib.hid (FL.out.later (bl_newZ X2 (.cells #[.int .i64 0, .int .i64 0, .int .i64 0, .string ⟨#[]⟩] 32)))
          have FB2 : Hid (Below W.heap.size W (X2.alloc (.cells #[.int .i64 0, .int .i64 0, .int .i64 0, .string ⟨#[]⟩] 32))) := Lib.hid (FB.out.alloc FB.out.size _)
          have FP2 : Hid ((X2.alloc (.cells #[.int .i64 0, .int .i64 0, .int .i64 0, .string ⟨#[]⟩] 32)).heap[X2.heap.size]? = some (.cells #[.int .i64 0, .int .i64 0, .int .i64 0, .string ⟨#[]⟩] 32 (0, 0))) := Lib.hid (heap_alloc_new X2 _)
          have hP : W.heap.size ≤ X2.heap.size := FB.out.size
          refine hK.out _ _ ?_ (fun hHeld2 => ?_)
          · exact six_low FB2.out hwW hS0
          clear hK Kx hHeld
          have hHeld := hHeld2
          clear hHeld2
          try simp only [Act.put, List.setIfInBounds_toArray, List.set_cons_zero, List.set_cons_succ]
          clear FB FE FL
          generalize X2.alloc (.cells #[.int .i64 0, .int .i64 0, .int .i64 0, .string ⟨#[]⟩] 32) = X3 at FE2 FL2 FP2 FB2 hHeld ⊢
          generalize X2.heap.size = bP at FP2 hP ⊢
          have FE := FE2
          clear FE2
          have FL := FL2
          clear FL2
          have FP := FP2
          clear FP2
          have FB := FB2
          clear FB2
          refine wpAnyH_ready (rs := [2]) (by as_aux_lemma => kernel_rfl) (by simp) ?_
          refine AllReadyH.cons (o := { dst := some 37, op := Op.call { callee := Callee.builtin Builtin.append, args := #[Operand.tmp 35, Operand.tmp 36], argTypes := #[22, 22] }, type := 22, pos := "law.go:68", after := #[{ on := 0, ground := Ground.data }, { on := 1, ground := Ground.data }], guard := none }) rfl (fun Kx hK => ?_) AllReadyH.nil
          · skip
            refine step_append_L sesOK rfl (.tmp 35) (.tmp 36) rfl W.heap.size (.slice (some ⟨bE, 0, none⟩) 0 0) [] (by simp [Act.eval]; done) (own_fresh FE.out hE) ⟨bl, ol, none⟩ l.length cap l (by simp [Act.eval]; done) rfl (srcS_up SV.out FB.out) h0 hlm FB.out.size ?_
            intro v1 X4 hout
            have FA2 : Hid (OwnSes X4 W.heap.size v1 l) := Lib.hid hout.1
            have FB2 := Lib.hid (FB.out.trans hout.2.2.1)
            have FL2 := Lib.hid (lone_keep FL.out (hout.2.2.2 bL FL.out.lt (lone_ne FL.out FE.out)))
            have FP2 := Lib.hid ((hout.2.2.2 bP (Array.getElem?_eq_some_iff.1 FP.out).1 (own_ne_ty (own_fresh FE.out hE) FP.out (by decide))).trans FP.out)
            go_simp
            refine hK.out _ _ ?_ (fun hHeld2 => ?_)
            · exact six_low FB2.out hwW hS0
            clear hK Kx hHeld
            have hHeld := hHeld2
            clear hHeld2
            try simp only [Act.put, List.setIfInBounds_toArray, List.set_cons_zero, List.set_cons_succ]
            clear FB FE hout FL FP
            have FL := FL2
            clear FL2
            have FP := FP2
            clear FP2
            have FA := FA2
            clear FA2
            have FB := FB2
            clear FB2
            refine wpAnyH_ready (rs := [5]) (by as_aux_lemma => kernel_rfl) (by simp) ?_
            refine AllReadyH.cons (o := { dst := some 40, op := Op.call { callee := Callee.builtin Builtin.append, args := #[Operand.tmp 37, Operand.tmp 39], argTypes := #[22, 22] }, type := 22, pos := "law.go:68", after := #[{ on := 2, ground := Ground.data }, { on := 4, ground := Ground.data }, { on := 2, ground := Ground.chain }], guard := none }) rfl (fun Kx hK => ?_) AllReadyH.nil
            · skip
              refine step_append_L sesOK rfl (.tmp 37) (.tmp 39) rfl W.heap.size v1 l (by simp [Act.eval]; done) FA.out ⟨bL, 0, none⟩ 1 1 [⟨kn, ki, ⟨ka, kb, kc, ks⟩⟩] (by simp [Act.eval]; done) rfl FL.out.src (by simp) hlm2 FB.out.size ?_
              intro v2 X5 hout
              have FC2 : Hid (OwnSes X5 W.heap.size v2 (l ++ [⟨kn, ki, ⟨ka, kb, kc, ks⟩⟩])) := Lib.hid hout.1
              have FB2 := Lib.hid (FB.out.trans hout.2.2.1)
              have FP2 := Lib.hid ((hout.2.2.2 bP (Array.getElem?_eq_some_iff.1 FP.out).1 (own_ne_ty FA.out FP.out (by decide))).trans FP.out)
              go_simp
              refine hK.out _ _ ?_ (fun hHeld2 => ?_)
              · exact six_low FB2.out hwW hS0
              clear hK Kx hHeld
              have hHeld := hHeld2
              clear hHeld2
              try simp only [Act.put, List.setIfInBounds_toArray, List.set_cons_zero, List.set_cons_succ]
              clear FB FA FL hout FP
              have FP := FP2
              clear FP2
              have FC := FC2
              clear FC2
              have FB := FB2
              clear FB2
              refine wpAnyH_ready (rs := [6]) (by as_aux_lemma => kernel_rfl) (by simp) ?_
              refine AllReadyH.cons (o := { dst := some 41, op := Op.call { callee := Callee.value (Operand.func 32), args := #[Operand.tmp 40], argTypes := #[22] }, type := 44, pos := "law.go:68", after := #[{ on := 5, ground := Ground.data }, { on := 5, ground := Ground.chain }], guard := none }) rfl (fun Kx hK => ?_) AllReadyH.nil
              · skip
                go_simp
                refine (C2.out _ _ (FC.out.rd sesOK)).mono ?_
                rintro e X6 ⟨rfl, b9⟩
                have FB2 := Lib.hid (FB.out.trans (b9.mono FB.out.size))
                have FP2 := Lib.hid ((b9.block bP (Array.getElem?_eq_some_iff.1 FP.out).1).trans FP.out)
                go_wp2_with fail
                refine hK.out _ _ ?_ (fun hHeld2 => ?_)
                · exact six_low FB2.out hwW hS0
                clear hK Kx hHeld
                have hHeld := hHeld2
                clear hHeld2
                try simp only [Act.put, List.setIfInBounds_toArray, List.set_cons_zero, List.set_cons_succ]
                clear FB FC b9 FP
                have FP := FP2
                clear FP2
                have FB := FB2
                clear FB2
                refine wpAnyH_take (i := 7) (oi := { dst := some 34, op := Op.move (Operand.tmp 41), type := 44, pos := "law.go:68", after := #[{ on := 6, ground := Ground.data }], guard := none }) (v := ?_) rfl (by as_aux_lemma => kernel_rfl) (by as_aux_lemma => kernel_rfl) (by as_aux_lemma => kernel_rfl) (fun _ _ _ h => h) (Or.inl ⟨by rfl, ?_⟩) (by assumption) ?_
                rotate_left
                · intro w' hSw
                  try dsimp only at hSw
                  go_simp
                  try with_reducible rfl
                try simp only [Act.put, List.setIfInBounds_toArray, List.set_cons_zero, List.set_cons_succ]
                refine wpAnyH_take (i := 8) (oi := { dst := some 42, op := Op.extract (Operand.tmp 34) 0, type := 32, pos := "law.go:68", after := #[{ on := 7, ground := Ground.data }], guard := none }) (v := ?_) rfl (by as_aux_lemma => kernel_rfl) (by as_aux_lemma => kernel_rfl) (by as_aux_lemma => kernel_rfl) (fun _ _ _ h => h) (Or.inl ⟨by rfl, ?_⟩) (by assumption) ?_
                rotate_left
                · intro w' hSw
                  try dsimp only at hSw
                  go_simp
                  try with_reducible rfl
                try simp only [Act.put, List.setIfInBounds_toArray, List.set_cons_zero, List.set_cons_succ]
                refine wpAnyH_take (i := 9) (oi := { dst := some 43, op := Op.extract (Operand.tmp 34) 1, type := 4, pos := "law.go:68", after := #[{ on := 7, ground := Ground.data }, { on := 11, ground := Ground.gcOnly Departure.lateStores }], guard := none }) (v := ?_) rfl (by as_aux_lemma => kernel_rfl) (by as_aux_lemma => kernel_rfl) (by as_aux_lemma => kernel_rfl) (fun _ _ _ h => h) (Or.inl ⟨by rfl, ?_⟩) (by assumption) ?_
                rotate_left
                · intro w' hSw
                  try dsimp only at hSw
                  go_simp
                  try with_reducible rfl
                try simp only [Act.put, List.setIfInBounds_toArray, List.set_cons_zero, List.set_cons_succ]
                obtain ⟨p0, p1, p2, p3⟩ := row4 FP.out
                obtain ⟨g0, g1, g2, g3⟩ := free4 FP.out
                have FQ := Lib.hid (store4_cells (x0 := .int .i64 qa) (x1 := .int .i64 qb) (x2 := .int .i64 qc) (x3 := .string ⟨qs.toArray⟩) FP.out)
                have FB2 : Hid (Below W.heap.size W ((((X6.setCell ⟨bP, 0, none⟩ (.int .i64 qa)).setCell ⟨bP, 1, none⟩ (.int .i64 qb)).setCell ⟨bP, 2, none⟩ (.int .i64 qc)).setCell ⟨bP, 3, none⟩ (.string ⟨qs.toArray⟩))) := Lib.hid ((((FB.out.setCell hP _).setCell hP _).setCell hP _).setCell hP _)
                refine wpAnyH_ready (rs := [11]) (by as_aux_lemma => kernel_rfl) (by simp) ?_
                refine AllReadyH.cons (o := { dst := none, op := Op.store 32 (Operand.tmp 7) (Operand.tmp 42), type := 0, pos := "law.go:68", after := #[{ on := 10, ground := Ground.data }, { on := 8, ground := Ground.data }, { on := 6, ground := Ground.chain }, { on := 0, ground := Ground.phase }, { on := 1, ground := Ground.phase }, { on := 2, ground := Ground.phase }, { on := 3, ground := Ground.phase }, { on := 4, ground := Ground.phase }, { on := 5, ground := Ground.phase }, { on := 6, ground := Ground.phase }, { on := 7, ground := Ground.phase }, { on := 8, ground := Ground.phase }, { on := 9, ground := Ground.textOnly Departure.lateStores }, { on := 10, ground := Ground.phase }], guard := none }) rfl (fun Kx hK => ?_) AllReadyH.nil
                go_simp
                refine hK.out _ _ ?_ (fun hHeld2 => ?_)
                · exact six_low FB2.out hwW hS0
                clear hK Kx hHeld
                have hHeld := hHeld2
                clear hHeld2
                try simp only [Act.put, List.setIfInBounds_toArray, List.set_cons_zero, List.set_cons_succ]
                refine wpAnyH_take (i := 12) (oi := { dst := some 8, op := Op.assign (Operand.tmp 43), type := 4, pos := "law.go:68", after := #[{ on := 9, ground := Ground.data }, { on := 11, ground := Ground.chain }, { on := 0, ground := Ground.phase }, { on := 1, ground := Ground.phase }, { on := 2, ground := Ground.phase }, { on := 3, ground := Ground.phase }, { on := 4, ground := Ground.phase }, { on := 5, ground := Ground.phase }, { on := 6, ground := Ground.phase }, { on := 7, ground := Ground.phase }, { on := 8, ground := Ground.phase }, { on := 9, ground := Ground.phase }, { on := 10, ground := Ground.phase }, { on := 11, ground := Ground.phase }], guard := none }) (v := ?_) rfl (by as_aux_lemma => kernel_rfl) (by as_aux_lemma => kernel_rfl) (by as_aux_lemma => kernel_rfl) (fun _ _ _ h => h) (Or.inl ⟨by rfl, ?_⟩) (by assumption) ?_
                rotate_left
                · intro w' hSw
                  try dsimp only at hSw
                  go_simp
                  try with_reducible rfl
                try simp only [Act.put, List.setIfInBounds_toArray, List.set_cons_zero, List.set_cons_succ]
                refine wpAnyH_done (by kernel_rfl) ?_ _
                go_wp2_with fail
                go_meet
                exact ⟨bP, rfl, rfl, FQ, FB2⟩
      · skip
        go_simp
        have FL2 := Lib.hid (FL.out.later (bl_newZ X1 (.cells #[.int .i64 0, .int .i64 0, .int .i64 0, .string ⟨#[]⟩] 32)))
        have FB2 : Hid (Below W.heap.size W (X1.alloc (.cells #[.int .i64 0, .int .i64 0, .int .i64 0, .string ⟨#[]⟩] 32))) := Lib.hid (FB.out.alloc FB.out.size _)
        have FP2 : Hid ((X1.alloc (.cells #[.int .i64 0, .int .i64 0, .int .i64 0, .string ⟨#[]⟩] 32)).heap[X1.heap.size]? = some (.cells #[.int .i64 0, .int .i64 0, .int .i64 0, .string ⟨#[]⟩] 32 (0, 0))) := Lib.hid (heap_alloc_new X1 _)
        have hP : W.heap.size ≤ X1.heap.size := FB.out.size
        refine hK.out _ _ ?_ (fun hHeld2 => ?_)
        · exact six_low FB2.out hwW hS0
        clear hK Kx hHeld
        have hHeld := hHeld2
        clear hHeld2
        try simp only [Act.put, List.setIfInBounds_toArray, List.set_cons_zero, List.set_cons_succ]
        clear FB FL
        generalize X1.alloc (.cells #[.int .i64 0, .int .i64 0, .int .i64 0, .string ⟨#[]⟩] 32) = X2 at FL2 FP2 FB2 hHeld ⊢
        generalize X1.heap.size = bP at FP2 hP ⊢
        have FL := FL2
        clear FL2
        have FP := FP2
        clear FP2
        have FB := FB2
        clear FB2
        refine wpAnyH_ready (rs := [0]) (by as_aux_lemma => kernel_rfl) (by simp) ?_
        refine AllReadyH.cons (o := { dst := some 35, op := Op.buildSlice 22 0 #[], type := 22, pos := "law.go:68", after := #[], guard := none }) rfl (fun Kx hK => ?_) AllReadyH.nil
        · skip
          go_simp
          have FL2 := Lib.hid (FL.out.later (bl_newZ X2 (.cells #[] 34)))
          have FP2 := Lib.hid (at_old (o := .cells #[] 34) FP.out)
          have FB2 : Hid (Below W.heap.size W (X2.alloc (.cells #[] 34))) := Lib.hid (FB.out.alloc FB.out.size _)
          have FE2 : Hid ((X2.alloc (.cells #[] 34)).heap[X2.heap.size]? = some (.cells #[] 34 (0, 0))) := Lib.hid (heap_alloc_new X2 _)
          have hE : W.heap.size ≤ X2.heap.size := FB.out.size
          refine hK.out _ _ ?_ (fun hHeld2 => ?_)
          · exact six_low FB2.out hwW hS0
          clear hK Kx hHeld
          have hHeld := hHeld2
          clear hHeld2
          try simp only [Act.put, List.setIfInBounds_toArray, List.set_cons_zero, List.set_cons_succ]
          clear FB FL FP
          generalize X2.alloc (.cells #[] 34) = X3 at FE2 FL2 FP2 FB2 hHeld ⊢
          generalize X2.heap.size = bE at FE2 hE ⊢
          have FE := FE2
          clear FE2
          have FL := FL2
          clear FL2
          have FP := FP2
          clear FP2
          have FB := FB2
          clear FB2
          refine wpAnyH_ready (rs := [2]) (by as_aux_lemma => kernel_rfl) (by simp) ?_
          refine AllReadyH.cons (o := { dst := some 37, op := Op.call { callee := Callee.builtin Builtin.append, args := #[Operand.tmp 35, Operand.tmp 36], argTypes := #[22, 22] }, type := 22, pos := "law.go:68", after := #[{ on := 0, ground := Ground.data }, { on := 1, ground := Ground.data }], guard := none }) rfl (fun Kx hK => ?_) AllReadyH.nil
          · skip
            refine step_append_L sesOK rfl (.tmp 35) (.tmp 36) rfl W.heap.size (.slice (some ⟨bE, 0, none⟩) 0 0) [] (by simp [Act.eval]; done) (own_fresh FE.out hE) ⟨bl, ol, none⟩ l.length cap l (by simp [Act.eval]; done) rfl (srcS_up SV.out FB.out) h0 hlm FB.out.size ?_
            intro v1 X4 hout
            have FA2 : Hid (OwnSes X4 W.heap.size v1 l) := Lib.hid hout.1
            have FB2 := Lib.hid (FB.out.trans hout.2.2.1)
            have FL2 := Lib.hid (lone_keep FL.out (hout.2.2.2 bL FL.out.lt (lone_ne FL.out FE.out)))
            have FP2 := Lib.hid ((hout.2.2.2 bP (Array.getElem?_eq_some_iff.1 FP.out).1 (own_ne_ty (own_fresh FE.out hE) FP.out (by decide))).trans FP.out)
            go_simp
            refine hK.out _ _ ?_ (fun hHeld2 => ?_)
            · exact six_low FB2.out hwW hS0
            clear hK Kx hHeld
            have hHeld := hHeld2
            clear hHeld2
            try simp only [Act.put, List.setIfInBounds_toArray, List.set_cons_zero, List.set_cons_succ]
            clear FB FE hout FL FP
            have FL := FL2
            clear FL2
            have FP := FP2
            clear FP2
            have FA := FA2
            clear FA2
            have FB := FB2
            clear FB2
            refine wpAnyH_ready (rs := [5]) (by as_aux_lemma => kernel_rfl) (by simp) ?_
            refine AllReadyH.cons (o := { dst := some 40, op := Op.call { callee := Callee.builtin Builtin.append, args := #[Operand.tmp 37, Operand.tmp 39], argTypes := #[22, 22] }, type := 22, pos := "law.go:68", after := #[{ on := 2, ground := Ground.data }, { on := 4, ground := Ground.data }, { on := 2, ground := Ground.chain }], guard := none }) rfl (fun Kx hK => ?_) AllReadyH.nil
            · skip
              refine step_append_L sesOK rfl (.tmp 37) (.tmp 39) rfl W.heap.size v1 l (by simp [Act.eval]; done) FA.out ⟨bL, 0, none⟩ 1 1 [⟨kn, ki, ⟨ka, kb, kc, ks⟩⟩] (by simp [Act.eval]; done) rfl FL.out.src (by simp) hlm2 FB.out.size ?_
              intro v2 X5 hout
              have FC2 : Hid (OwnSes X5 W.heap.size v2 (l ++ [⟨kn, ki, ⟨ka, kb, kc, ks⟩⟩])) := Lib.hid hout.1
              have FB2 := Lib.hid (FB.out.trans hout.2.2.1)
              have FP2 := Lib.hid ((hout.2.2.2 bP (Array.getElem?_eq_some_iff.1 FP.out).1 (own_ne_ty FA.out FP.out (by decide))).trans FP.out)
              go_simp
              refine hK.out _ _ ?_ (fun hHeld2 => ?_)
              · exact six_low FB2.out hwW hS0
              clear hK Kx hHeld
              have hHeld := hHeld2
              clear hHeld2
              try simp only [Act.put, List.setIfInBounds_toArray, List.set_cons_zero, List.set_cons_succ]
              clear FB FA FL hout FP
              have FP := FP2
              clear FP2
              have FC := FC2
              clear FC2
              have FB := FB2
              clear FB2
              refine wpAnyH_ready (rs := [6]) (by as_aux_lemma => kernel_rfl) (by simp) ?_
              refine AllReadyH.cons (o := { dst := some 41, op := Op.call { callee := Callee.value (Operand.func 32), args := #[Operand.tmp 40], argTypes := #[22] }, type := 44, pos := "law.go:68", after := #[{ on := 5, ground := Ground.data }, { on := 5, ground := Ground.chain }], guard := none }) rfl (fun Kx hK => ?_) AllReadyH.nil
              · skip
                go_simp
                refine (C2.out _ _ (FC.out.rd sesOK)).mono ?_
                rintro e X6 ⟨rfl, b9⟩
                have FB2 := Lib.hid (FB.out.trans (b9.mono FB.out.size))
                have FP2 := Lib.hid ((b9.block bP (Array.getElem?_eq_some_iff.1 FP.out).1).trans FP.out)
                go_wp2_with fail
                refine hK.out _ _ ?_ (fun hHeld2 => ?_)
                · exact six_low FB2.out hwW hS0
                clear hK Kx hHeld
                have hHeld := hHeld2
                clear hHeld2
                try simp only [Act.put, List.setIfInBounds_toArray, List.set_cons_zero, List.set_cons_succ]
                clear FB FC b9 FP
                have FP := FP2
                clear FP2
                have FB := FB2
                clear FB2
                refine wpAnyH_take (i := 7) (oi := { dst := some 34, op := Op.move (Operand.tmp 41), type := 44, pos := "law.go:68", after := #[{ on := 6, ground := Ground.data }], guard := none }) (v := ?_) rfl (by as_aux_lemma => kernel_rfl) (by as_aux_lemma => kernel_rfl) (by as_aux_lemma => kernel_rfl) (fun _ _ _ h => h) (Or.inl ⟨by rfl, ?_⟩) (by assumption) ?_
                rotate_left
                · intro w' hSw
                  try dsimp only at hSw
                  go_simp
                  try with_reducible rfl
                try simp only [Act.put, List.setIfInBounds_toArray, List.set_cons_zero, List.set_cons_succ]
                refine wpAnyH_take (i := 8) (oi := { dst := some 42, op := Op.extract (Operand.tmp 34) 0, type := 32, pos := "law.go:68", after := #[{ on := 7, ground := Ground.data }], guard := none }) (v := ?_) rfl (by as_aux_lemma => kernel_rfl) (by as_aux_lemma => kernel_rfl) (by as_aux_lemma => kernel_rfl) (fun _ _ _ h => h) (Or.inl ⟨by rfl, ?_⟩) (by assumption) ?_
                rotate_left
                · intro w' hSw
                  try dsimp only at hSw
                  go_simp
                  try with_reducible rfl
                try simp only [Act.put, List.setIfInBounds_toArray, List.set_cons_zero, List.set_cons_succ]
                refine wpAnyH_take (i := 9) (oi := { dst := some 43, op := Op.extract (Operand.tmp 34) 1, type := 4, pos := "law.go:68", after := #[{ on := 7, ground := Ground.data }, { on := 11, ground := Ground.gcOnly Departure.lateStores }], guard := none }) (v := ?_) rfl (by as_aux_lemma => kernel_rfl) (by as_aux_lemma => kernel_rfl) (by as_aux_lemma => kernel_rfl) (fun _ _ _ h => h) (Or.inl ⟨by rfl, ?_⟩) (by assumption) ?_
                rotate_left
                · intro w' hSw
                  try dsimp only at hSw
                  go_simp
                  try with_reducible rfl
                try simp only [Act.put, List.setIfInBounds_toArray, List.set_cons_zero, List.set_cons_succ]
                obtain ⟨p0, p1, p2, p3⟩ := row4 FP.out
                obtain ⟨g0, g1, g2, g3⟩ := free4 FP.out
                have FQ := Lib.hid (store4_cells (x0 := .int .i64 qa) (x1 := .int .i64 qb) (x2 := .int .i64 qc) (x3 := .string ⟨qs.toArray⟩) FP.out)
                have FB2 : Hid (Below W.heap.size W ((((X6.setCell ⟨bP, 0, none⟩ (.int .i64 qa)).setCell ⟨bP, 1, none⟩ (.int .i64 qb)).setCell ⟨bP, 2, none⟩ (.int .i64 qc)).setCell ⟨bP, 3, none⟩ (.string ⟨qs.toArray⟩))) := Lib.hid ((((FB.out.setCell hP _).setCell hP _).setCell hP _).setCell hP _)
                refine wpAnyH_ready (rs := [11]) (by as_aux_lemma => kernel_rfl) (by simp) ?_
                refine AllReadyH.cons (o := { dst := none, op := Op.store 32 (Operand.tmp 7) (Operand.tmp 42), type := 0, pos := "law.go:68", after := #[{ on := 10, ground := Ground.data }, { on := 8, ground := Ground.data }, { on := 6, ground := Ground.chain }, { on := 0, ground := Ground.phase }, { on := 1, ground := Ground.phase }, { on := 2, ground := Ground.phase }, { on := 3, ground := Ground.phase }, { on := 4, ground := Ground.phase }, { on := 5, ground := Ground.phase }, { on := 6, ground := Ground.phase }, { on := 7, ground := Ground.phase }, { on := 8, ground := Ground.phase }, { on := 9, ground := Ground.textOnly Departure.lateStores }, { on := 10, ground := Ground.phase }], guard := none }) rfl (fun Kx hK => ?_) AllReadyH.nil
                go_simp
                refine hK.out _ _ ?_ (fun hHeld2 => ?_)
                · exact six_low FB2.out hwW hS0
                clear hK Kx hHeld
                have hHeld := hHeld2
                clear hHeld2
                try simp only [Act.put, List.setIfInBounds_toArray, List.set_cons_zero, List.set_cons_succ]
                refine wpAnyH_take (i := 12) (oi := { dst := some 8, op := Op.assign (Operand.tmp 43), type := 4, pos := "law.go:68", after := #[{ on := 9, ground := Ground.data }, { on := 11, ground := Ground.chain }, { on := 0, ground := Ground.phase }, { on := 1, ground := Ground.phase }, { on := 2, ground := Ground.phase }, { on := 3, ground := Ground.phase }, { on := 4, ground := Ground.phase }, { on := 5, ground := Ground.phase }, { on := 6, ground := Ground.phase }, { on := 7, ground := Ground.phase }, { on := 8, ground := Ground.phase }, { on := 9, ground := Ground.phase }, { on := 10, ground := Ground.phase }, { on := 11, ground := Ground.phase }], guard := none }) (v := ?_) rfl (by as_aux_lemma => kernel_rfl) (by as_aux_lemma => kernel_rfl) (by as_aux_lemma => kernel_rfl) (fun _ _ _ h => h) (Or.inl ⟨by rfl, ?_⟩) (by assumption) ?_
                rotate_left
                · intro w' hSw
                  try dsimp only at hSw
                  go_simp
                  try with_reducible rfl
                try simp only [Act.put, List.setIfInBounds_toArray, List.set_cons_zero, List.set_cons_succ]
                refine wpAnyH_done (by kernel_rfl) ?_ _
                go_wp2_with fail
                go_meet
                exact ⟨bP, rfl, rfl, FQ, FB2⟩
    · skip
      go_simp
      have FB2 : Hid (Below W.heap.size W (X0.alloc (.cells #[.int .i64 0, .int .i64 0, .int .i64 0, .string ⟨#[]⟩] 32))) := Lib.hid (FB.out.alloc FB.out.size _)
      have FP2 : Hid ((X0.alloc (.cells #[.int .i64 0, .int .i64 0, .int .i64 0, .string ⟨#[]⟩] 32)).heap[X0.heap.size]? = some (.cells #[.int .i64 0, .int .i64 0, .int .i64 0, .string ⟨#[]⟩] 32 (0, 0))) := Lib.hid (heap_alloc_new X0 _)
      have hP : W.heap.size ≤ X0.heap.size := FB.out.size
      refine hK.out _ _ ?_ (fun hHeld2 => ?_)
      · exact six_low FB2.out hwW hS0
      clear hK Kx hHeld
      have hHeld := hHeld2
      clear hHeld2
      try simp only [Act.put, List.setIfInBounds_toArray, List.set_cons_zero, List.set_cons_succ]
      clear FB 
      generalize X0.alloc (.cells #[.int .i64 0, .int .i64 0, .int .i64 0, .string ⟨#[]⟩] 32) = X1 at FP2 FB2 hHeld ⊢
      generalize X0.heap.size = bP at FP2 hP ⊢
      have FP := FP2
      clear FP2
      have FB := FB2
      clear FB2
      refine wpAnyH_ready (rs := [0, 4]) (by as_aux_lemma => kernel_rfl) (by simp) ?_
      refine AllReadyH.cons (o := { dst := some 35, op := Op.buildSlice 22 0 #[], type := 22, pos := "law.go:68", after := #[], guard := none }) rfl (fun Kx hK => ?_) (AllReadyH.cons (o := { dst := some 39, op := Op.buildSlice 22 1 #[(0, Operand.tmp 38)], type := 22, pos := "law.go:68", after := #[{ on := 3, ground := Ground.data }], guard := none }) rfl (fun Kx hK => ?_) AllReadyH.nil)
      · skip
        go_simp
        have FP2 := Lib.hid (at_old (o := .cells #[] 34) FP.out)
        have FB2 : Hid (Below W.heap.size W (X1.alloc (.cells #[] 34))) := Lib.hid (FB.out.alloc FB.out.size _)
        have FE2 : Hid ((X1.alloc (.cells #[] 34)).heap[X1.heap.size]? = some (.cells #[] 34 (0, 0))) := Lib.hid (heap_alloc_new X1 _)
        have hE : W.heap.size ≤ X1.heap.size := FB.out.size
        refine hK.out _ _ ?_ (fun hHeld2 => ?_)
        · exact six_low FB2.out hwW hS0
        clear hK Kx hHeld
        have hHeld := hHeld2
        clear hHeld2
        try simp only [Act.put, List.setIfInBounds_toArray, List.set_cons_zero, List.set_cons_succ]
        clear FB FP
        generalize X1.alloc (.cells #[] 34) = X2 at FE2 FP2 FB2 hHeld ⊢
        generalize X1.heap.size = bE at FE2 hE ⊢
        have FE := FE2
        clear FE2
        have FP := FP2
        clear FP2
        have FB := FB2
        clear FB2
        refine wpAnyH_ready (rs := [2, 4]) (by as_aux_lemma => kernel_rfl) (by simp) ?_
        refine AllReadyH.cons (o := { dst := some 37, op := Op.call { callee := Callee.builtin Builtin.append, args := #[Operand.tmp 35, Operand.tmp 36], argTypes := #[22, 22] }, type := 22, pos := "law.go:68", after := #[{ on := 0, ground := Ground.data }, { on := 1, ground := Ground.data }], guard := none }) rfl (fun Kx hK => ?_) (AllReadyH.cons (o := { dst := some 39, op := Op.buildSlice 22 1 #[(0, Operand.tmp 38)], type := 22, pos := "law.go:68", after := #[{ on := 3, ground := Ground.data }], guard := none }) rfl (fun Kx hK => ?_) AllReadyH.nil)
        · skip
          refine step_append_L sesOK rfl (.tmp 35) (.tmp 36) rfl W.heap.size (.slice (some ⟨bE, 0, none⟩) 0 0) [] (by simp [Act.eval]; done) (own_fresh FE.out hE) ⟨bl, ol, none⟩ l.length cap l (by simp [Act.eval]; done) rfl (srcS_up SV.out FB.out) h0 hlm FB.out.size ?_
          intro v1 X3 hout
          have FA2 : Hid (OwnSes X3 W.heap.size v1 l) := Lib.hid hout.1
          have FB2 := Lib.hid (FB.out.trans hout.2.2.1)
          have FP2 := Lib.hid ((hout.2.2.2 bP (Array.getElem?_eq_some_iff.1 FP.out).1 (own_ne_ty (own_fresh FE.out hE) FP.out (by decide))).trans FP.out)
          go_simp
          refine hK.out _ _ ?_ (fun hHeld2 => ?_)
          · exact six_low FB2.out hwW hS0
          clear hK Kx hHeld
          have hHeld := hHeld2
          clear hHeld2
          try simp only [Act.put, List.setIfInBounds_toArray, List.set_cons_zero, List.set_cons_succ]
          clear FB FE hout FP
          have FP := FP2
          clear FP2
          have FA := FA2
          clear FA2
          have FB := FB2
          clear FB2
          refine wpAnyH_ready (rs := [4]) (by as_aux_lemma => kernel_rfl) (by simp) ?_
          refine AllReadyH.cons (o := { dst := some 39, op := Op.buildSlice 22 1 #[(0, Operand.tmp 38)], type := 22, pos := "law.go:68", after := #[{ on := 3, ground := Ground.data }], guard := none }) rfl (fun Kx hK => ?_) AllReadyH.nil
          · skip
            go_simp
            have FP2 := Lib.hid (at_old (o := .cells #[.string ⟨kn.toArray⟩, .int .i64 ki, .int .i64 ka, .int .i64 kb, .int .i64 kc, .string ⟨ks.toArray⟩] 34) FP.out)
            have FA2 := Lib.hid (FA.out.alloc (.cells #[.string ⟨kn.toArray⟩, .int .i64 ki, .int .i64 ka, .int .i64 kb, .int .i64 kc, .string ⟨ks.toArray⟩] 34))
            have FB2 : Hid (Below W.heap.size W (X3.alloc (.cells #[.string ⟨kn.toArray⟩, .int .i64 ki, .int .i64 ka, .int .i64 kb, .int .i64 kc, .string ⟨ks.toArray⟩] 34))) := Lib.hid (FB.out.alloc FB.out.size _)
            have FL2 : Hid (LoneS sesVals 34 (X3.alloc (.cells #[.string ⟨kn.toArray⟩, .int .i64 ki, .int .i64 ka, .int .i64 kb, .int .i64 kc, .string ⟨ks.toArray⟩] 34)) X3.heap.size ⟨kn, ki, ⟨ka, kb, kc, ks⟩⟩) := Lib.hid (loneS_new rfl rfl)
            have hL : W.heap.size ≤ X3.heap.size := FB.out.size
            refine hK.out _ _ ?_ (fun hHeld2 => ?_)
            · exact six_low FB2.out hwW hS0
            clear hK Kx hHeld
            have hHeld := hHeld2
            clear hHeld2
            try simp only [Act.put, List.setIfInBounds_toArray, List.set_cons_zero, List.set_cons_succ]
            clear FB FP FA
            generalize X3.alloc (.cells #[.string ⟨kn.toArray⟩, .int .i64 ki, .int .i64 ka, .int .i64 kb, .int .i64 kc, .string ⟨ks.toArray⟩] 34) = X4 at FL2 FP2 FA2 FB2 hHeld ⊢
            generalize X3.heap.size = bL at FL2 hL ⊢
            have FL := FL2
            clear FL2
            have FP := FP2
            clear FP2
            have FA := FA2
            clear FA2
            have FB := FB2
            clear FB2
            refine wpAnyH_ready (rs := [5]) (by as_aux_lemma => kernel_rfl) (by simp) ?_
            refine AllReadyH.cons (o := { dst := some 40, op := Op.call { callee := Callee.builtin Builtin.append, args := #[Operand.tmp 37, Operand.tmp 39], argTypes := #[22, 22] }, type := 22, pos := "law.go:68", after := #[{ on := 2, ground := Ground.data }, { on := 4, ground := Ground.data }, { on := 2, ground := Ground.chain }], guard := none }) rfl (fun Kx hK => ?_) AllReadyH.nil
            · skip
              refine step_append_L sesOK rfl (.tmp 37) (.tmp 39) rfl W.heap.size v1 l (by simp [Act.eval]; done) FA.out ⟨bL, 0, none⟩ 1 1 [⟨kn, ki, ⟨ka, kb, kc, ks⟩⟩] (by simp [Act.eval]; done) rfl FL.out.src (by simp) hlm2 FB.out.size ?_
              intro v2 X5 hout
              have FC2 : Hid (OwnSes X5 W.heap.size v2 (l ++ [⟨kn, ki, ⟨ka, kb, kc, ks⟩⟩])) := Lib.hid hout.1
              have FB2 := Lib.hid (FB.out.trans hout.2.2.1)
              have FP2 := Lib.hid ((hout.2.2.2 bP (Array.getElem?_eq_some_iff.1 FP.out).1 (own_ne_ty FA.out FP.out (by decide))).trans FP.out)
              go_simp
              refine hK.out _ _ ?_ (fun hHeld2 => ?_)
              · exact six_low FB2.out hwW hS0
              clear hK Kx hHeld
              have hHeld := hHeld2
              clear hHeld2
              try simp only [Act.put, List.setIfInBounds_toArray, List.set_cons_zero, List.set_cons_succ]
              clear FB FA FL hout FP
              have FP := FP2
              clear FP2
              have FC := FC2
              clear FC2
              have FB := FB2
              clear FB2
              refine wpAnyH_ready (rs := [6]) (by as_aux_lemma => kernel_rfl) (by simp) ?_
              refine AllReadyH.cons (o := { dst := some 41, op := Op.call { callee := Callee.value (Operand.func 32), args := #[Operand.tmp 40], argTypes := #[22] }, type := 44, pos := "law.go:68", after := #[{ on := 5, ground := Ground.data }, { on := 5, ground := Ground.chain }], guard := none }) rfl (fun Kx hK => ?_) AllReadyH.nil
              · skip
                go_simp
                refine (C2.out _ _ (FC.out.rd sesOK)).mono ?_
                rintro e X6 ⟨rfl, b9⟩
                have FB2 := Lib.hid (FB.out.trans (b9.mono FB.out.size))
                have FP2 := Lib.hid ((b9.block bP (Array.getElem?_eq_some_iff.1 FP.out).1).trans FP.out)
                go_wp2_with fail
                refine hK.out _ _ ?_ (fun hHeld2 => ?_)
                · exact six_low FB2.out hwW hS0
                clear hK Kx hHeld
                have hHeld := hHeld2
                clear hHeld2
                try simp only [Act.put, List.setIfInBounds_toArray, List.set_cons_zero, List.set_cons_succ]
                clear FB FC b9 FP
                have FP := FP2
                clear FP2
                have FB := FB2
                clear FB2
                refine wpAnyH_take (i := 7) (oi := { dst := some 34, op := Op.move (Operand.tmp 41), type := 44, pos := "law.go:68", after := #[{ on := 6, ground := Ground.data }], guard := none }) (v := ?_) rfl (by as_aux_lemma => kernel_rfl) (by as_aux_lemma => kernel_rfl) (by as_aux_lemma => kernel_rfl) (fun _ _ _ h => h) (Or.inl ⟨by rfl, ?_⟩) (by assumption) ?_
                rotate_left
                · intro w' hSw
                  try dsimp only at hSw
                  go_simp
                  try with_reducible rfl
                try simp only [Act.put, List.setIfInBounds_toArray, List.set_cons_zero, List.set_cons_succ]
                refine wpAnyH_take (i := 8) (oi := { dst := some 42, op := Op.extract (Operand.tmp 34) 0, type := 32, pos := "law.go:68", after := #[{ on := 7, ground := Ground.data }], guard := none }) (v := ?_) rfl (by as_aux_lemma => kernel_rfl) (by as_aux_lemma => kernel_rfl) (by as_aux_lemma => kernel_rfl) (fun _ _ _ h => h) (Or.inl ⟨by rfl, ?_⟩) (by assumption) ?_
                rotate_left
                · intro w' hSw
                  try dsimp only at hSw
                  go_simp
                  try with_reducible rfl
                try simp only [Act.put, List.setIfInBounds_toArray, List.set_cons_zero, List.set_cons_succ]
                refine wpAnyH_take (i := 9) (oi := { dst := some 43, op := Op.extract (Operand.tmp 34) 1, type := 4, pos := "law.go:68", after := #[{ on := 7, ground := Ground.data }, { on := 11, ground := Ground.gcOnly Departure.lateStores }], guard := none }) (v := ?_) rfl (by as_aux_lemma => kernel_rfl) (by as_aux_lemma => kernel_rfl) (by as_aux_lemma => kernel_rfl) (fun _ _ _ h => h) (Or.inl ⟨by rfl, ?_⟩) (by assumption) ?_
                rotate_left
                · intro w' hSw
                  try dsimp only at hSw
                  go_simp
                  try with_reducible rfl
                try simp only [Act.put, List.setIfInBounds_toArray, List.set_cons_zero, List.set_cons_succ]
                obtain ⟨p0, p1, p2, p3⟩ := row4 FP.out
                obtain ⟨g0, g1, g2, g3⟩ := free4 FP.out
                have FQ := Lib.hid (store4_cells (x0 := .int .i64 qa) (x1 := .int .i64 qb) (x2 := .int .i64 qc) (x3 := .string ⟨qs.toArray⟩) FP.out)
                have FB2 : Hid (Below W.heap.size W ((((X6.setCell ⟨bP, 0, none⟩ (.int .i64 qa)).setCell ⟨bP, 1, none⟩ (.int .i64 qb)).setCell ⟨bP, 2, none⟩ (.int .i64 qc)).setCell ⟨bP, 3, none⟩ (.string ⟨qs.toArray⟩))) := Lib.hid ((((FB.out.setCell hP _).setCell hP _).setCell hP _).setCell hP _)
                refine wpAnyH_ready (rs := [11]) (by as_aux_lemma => kernel_rfl) (by simp) ?_
                refine AllReadyH.cons (o := { dst := none, op := Op.store 32 (Operand.tmp 7) (Operand.tmp 42), type := 0, pos := "law.go:68", after := #[{ on := 10, ground := Ground.data }, { on := 8, ground := Ground.data }, { on := 6, ground := Ground.chain }, { on := 0, ground := Ground.phase }, { on := 1, ground := Ground.phase }, { on := 2, ground := Ground.phase }, { on := 3, ground := Ground.phase }, { on := 4, ground := Ground.phase }, { on := 5, ground := Ground.phase }, { on := 6, ground := Ground.phase }, { on := 7, ground := Ground.phase }, { on := 8, ground := Ground.phase }, { on := 9, ground := Ground.textOnly Departure.lateStores }, { on := 10, ground := Ground.phase }], guard := none }) rfl (fun Kx hK => ?_) AllReadyH.nil
                go_simp
                refine hK.out _ _ ?_ (fun hHeld2 => ?_)
                · exact six_low FB2.out hwW hS0
                clear hK Kx hHeld
                have hHeld := hHeld2
                clear hHeld2
                try simp only [Act.put, List.setIfInBounds_toArray, List.set_cons_zero, List.set_cons_succ]
                refine wpAnyH_take (i := 12) (oi := { dst := some 8, op := Op.assign (Operand.tmp 43), type := 4, pos := "law.go:68", after := #[{ on := 9, ground := Ground.data }, { on := 11, ground := Ground.chain }, { on := 0, ground := Ground.phase }, { on := 1, ground := Ground.phase }, { on := 2, ground := Ground.phase }, { on := 3, ground := Ground.phase }, { on := 4, ground := Ground.phase }, { on := 5, ground := Ground.phase }, { on := 6, ground := Ground.phase }, { on := 7, ground := Ground.phase }, { on := 8, ground := Ground.phase }, { on := 9, ground := Ground.phase }, { on := 10, ground := Ground.phase }, { on := 11, ground := Ground.phase }], guard := none }) (v := ?_) rfl (by as_aux_lemma => kernel_rfl) (by as_aux_lemma => kernel_rfl) (by as_aux_lemma => kernel_rfl) (fun _ _ _ h => h) (Or.inl ⟨by rfl, ?_⟩) (by assumption) ?_
                rotate_left
                · intro w' hSw
                  try dsimp only at hSw
                  go_simp
                  try with_reducible rfl
                try simp only [Act.put, List.setIfInBounds_toArray, List.set_cons_zero, List.set_cons_succ]
                refine wpAnyH_done (by kernel_rfl) ?_ _
                go_wp2_with fail
                go_meet
                exact ⟨bP, rfl, rfl, FQ, FB2⟩
        · skip
          go_simp
          have FE2 := Lib.hid (at_old (o := .cells #[.string ⟨kn.toArray⟩, .int .i64 ki, .int .i64 ka, .int .i64 kb, .int .i64 kc, .string ⟨ks.toArray⟩] 34) FE.out)
          have FP2 := Lib.hid (at_old (o := .cells #[.string ⟨kn.toArray⟩, .int .i64 ki, .int .i64 ka, .int .i64 kb, .int .i64 kc, .string ⟨ks.toArray⟩] 34) FP.out)
          have FB2 : Hid (Below W.heap.size W (X2.alloc (.cells #[.string ⟨kn.toArray⟩, .int .i64 ki, .int .i64 ka, .int .i64 kb, .int .i64 kc, .string ⟨ks.toArray⟩] 34))) := Lib.hid (FB.out.alloc FB.out.size _)
          have FL2 : Hid (LoneS sesVals 34 (X2.alloc (.cells #[.string ⟨kn.toArray⟩, .int .i64 ki, .int .i64 ka, .int .i64 kb, .int .i64 kc, .string ⟨ks.toArray⟩] 34)) X2.heap.size ⟨kn, ki, ⟨ka, kb, kc, ks⟩⟩) := Lib.hid (loneS_new rfl rfl)
          have hL : W.heap.size ≤ X2.heap.size := FB.out.size
          refine hK.out _ _ ?_ (fun hHeld2 => ?_)
          · exact six_low FB2.out hwW hS0
          clear hK Kx hHeld
          have hHeld := hHeld2
          clear hHeld2
          try simp only [Act.put, List.setIfInBounds_toArray, List.set_cons_zero, List.set_cons_succ]
          clear FB FE FP
          generalize X2.alloc (.cells #[.string ⟨kn.toArray⟩, .int .i64 ki, .int .i64 ka, .int .i64 kb, .int .i64 kc, .string ⟨ks.toArray⟩] 34) = X3 at FE2 FL2 FP2 FB2 hHeld ⊢
          generalize X2.heap.size = bL at FL2 hL ⊢
          have FE := FE2
          clear FE2
          have FL := FL2
          clear FL2
          have FP := FP2
          clear FP2
          have FB := FB2
          clear FB2
          refine wpAnyH_ready (rs := [2]) (by as_aux_lemma => kernel_rfl) (by simp) ?_
          refine AllReadyH.cons (o := { dst := some 37, op := Op.call { callee := Callee.builtin Builtin.append, args := #[Operand.tmp 35, Operand.tmp 36], argTypes := #[22, 22] }, type := 22, pos := "law.go:68", after := #[{ on := 0, ground := Ground.data }, { on := 1, ground := Ground.data }], guard := none }) rfl (fun Kx hK => ?_) AllReadyH.nil
          · skip
            refine step_append_L sesOK rfl (.tmp 35) (.tmp 36) rfl W.heap.size (.slice (some ⟨bE, 0, none⟩) 0 0) [] (by simp [Act.eval]; done) (own_fresh FE.out hE) ⟨bl, ol, none⟩ l.length cap l (by simp [Act.eval]; done) rfl (srcS_up SV.out FB.out) h0 hlm FB.out.size ?_
            intro v1 X4 hout
            have FA2 : Hid (OwnSes X4 W.heap.size v1 l) := Lib.hid hout.1
            have FB2 := Lib.hid (FB.out.trans hout.2.2.1)
            have FL2 := Lib.hid (lone_keep FL.out (hout.2.2.2 bL FL.out.lt (lone_ne FL.out FE.out)))
            have FP2 := Lib.hid ((hout.2.2.2 bP (Array.getElem?_eq_some_iff.1 FP.out).1 (own_ne_ty (own_fresh FE.out hE) FP.out (by decide))).trans FP.out)
            go_simp
            refine hK.out _ _ ?_ (fun hHeld2 => ?_)
            · exact six_low FB2.out hwW hS0
            clear hK Kx hHeld
            have hHeld := hHeld2
            clear hHeld2
            try simp only [Act.put, List.setIfInBounds_toArray, List.set_cons_zero, List.set_cons_succ]
            clear FB FE hout FL FP
            have FL := FL2
            clear FL2
            have FP := FP2
            clear FP2
            have FA := FA2
            clear FA2
            have FB := FB2
            clear FB2
            refine wpAnyH_ready (rs := [5]) (by as_aux_lemma => kernel_rfl) (by simp) ?_
            refine AllReadyH.cons (o := { dst := some 40, op := Op.call { callee := Callee.builtin Builtin.append, args := #[Operand.tmp 37, Operand.tmp 39], argTypes := #[22, 22] }, type := 22, pos := "law.go:68", after := #[{ on := 2, ground := Ground.data }, { on := 4, ground := Ground.data }, { on := 2, ground := Ground.chain }], guard := none }) rfl (fun Kx hK => ?_) AllReadyH.nil
            · skip
              refine step_append_L sesOK rfl (.tmp 37) (.tmp 39) rfl W.heap.size v1 l (by simp [Act.eval]; done) FA.out ⟨bL, 0, none⟩ 1 1 [⟨kn, ki, ⟨ka, kb, kc, ks⟩⟩] (by simp [Act.eval]; done) rfl FL.out.src (by simp) hlm2 FB.out.size ?_
              intro v2 X5 hout
              have FC2 : Hid (OwnSes X5 W.heap.size v2 (l ++ [⟨kn, ki, ⟨ka, kb, kc, ks⟩⟩])) := Lib.hid hout.1
              have FB2 := Lib.hid (FB.out.trans hout.2.2.1)
              have FP2 := Lib.hid ((hout.2.2.2 bP (Array.getElem?_eq_some_iff.1 FP.out).1 (own_ne_ty FA.out FP.out (by decide))).trans FP.out)
              go_simp
              refine hK.out _ _ ?_ (fun hHeld2 => ?_)
              · exact six_low FB2.out hwW hS0
              clear hK Kx hHeld
              have hHeld := hHeld2
              clear hHeld2
              try simp only [Act.put, List.setIfInBounds_toArray, List.set_cons_zero, List.set_cons_succ]
              clear FB FA FL hout FP
              have FP := FP2
              clear FP2
              have FC := FC2
              clear FC2
              have FB := FB2
              clear FB2
              refine wpAnyH_ready (rs := [6]) (by as_aux_lemma => kernel_rfl) (by simp) ?_
              refine AllReadyH.cons (o := { dst := some 41, op := Op.call { callee := Callee.value (Operand.func 32), args := #[Operand.tmp 40], argTypes := #[22] }, type := 44, pos := "law.go:68", after := #[{ on := 5, ground := Ground.data }, { on := 5, ground := Ground.chain }], guard := none }) rfl (fun Kx hK => ?_) AllReadyH.nil
              · skip
                go_simp
                refine (C2.out _ _ (FC.out.rd sesOK)).mono ?_
                rintro e X6 ⟨rfl, b9⟩
                have FB2 := Lib.hid (FB.out.trans (b9.mono FB.out.size))
                have FP2 := Lib.hid ((b9.block bP (Array.getElem?_eq_some_iff.1 FP.out).1).trans FP.out)
                go_wp2_with fail
                refine hK.out _ _ ?_ (fun hHeld2 => ?_)
                · exact six_low FB2.out hwW hS0
                clear hK Kx hHeld
                have hHeld := hHeld2
                clear hHeld2
                try simp only [Act.put, List.setIfInBounds_toArray, List.set_cons_zero, List.set_cons_succ]
                clear FB FC b9 FP
                have FP := FP2
                clear FP2
                have FB := FB2
                clear FB2
                refine wpAnyH_take (i := 7) (oi := { dst := some 34, op := Op.move (Operand.tmp 41), type := 44, pos := "law.go:68", after := #[{ on := 6, ground := Ground.data }], guard := none }) (v := ?_) rfl (by as_aux_lemma => kernel_rfl) (by as_aux_lemma => kernel_rfl) (by as_aux_lemma => kernel_rfl) (fun _ _ _ h => h) (Or.inl ⟨by rfl, ?_⟩) (by assumption) ?_
                rotate_left
                · intro w' hSw
                  try dsimp only at hSw
                  go_simp
                  try with_reducible rfl
                try simp only [Act.put, List.setIfInBounds_toArray, List.set_cons_zero, List.set_cons_succ]
                refine wpAnyH_take (i := 8) (oi := { dst := some 42, op := Op.extract (Operand.tmp 34) 0, type := 32, pos := "law.go:68", after := #[{ on := 7, ground := Ground.data }], guard := none }) (v := ?_) rfl (by as_aux_lemma => kernel_rfl) (by as_aux_lemma => kernel_rfl) (by as_aux_lemma => kernel_rfl) (fun _ _ _ h => h) (Or.inl ⟨by rfl, ?_⟩) (by assumption) ?_
                rotate_left
                · intro w' hSw
                  try dsimp only at hSw
                  go_simp
                  try with_reducible rfl
                try simp only [Act.put, List.setIfInBounds_toArray, List.set_cons_zero, List.set_cons_succ]
                refine wpAnyH_take (i := 9) (oi := { dst := some 43, op := Op.extract (Operand.tmp 34) 1, type := 4, pos := "law.go:68", after := #[{ on := 7, ground := Ground.data }, { on := 11, ground := Ground.gcOnly Departure.lateStores }], guard := none }) (v := ?_) rfl (by as_aux_lemma => kernel_rfl) (by as_aux_lemma => kernel_rfl) (by as_aux_lemma => kernel_rfl) (fun _ _ _ h => h) (Or.inl ⟨by rfl, ?_⟩) (by assumption) ?_
                rotate_left
                · intro w' hSw
                  try dsimp only at hSw
                  go_simp
                  try with_reducible rfl
                try simp only [Act.put, List.setIfInBounds_toArray, List.set_cons_zero, List.set_cons_succ]
                obtain ⟨p0, p1, p2, p3⟩ := row4 FP.out
                obtain ⟨g0, g1, g2, g3⟩ := free4 FP.out
                have FQ := Lib.hid (store4_cells (x0 := .int .i64 qa) (x1 := .int .i64 qb) (x2 := .int .i64 qc) (x3 := .string ⟨qs.toArray⟩) FP.out)
                have FB2 : Hid (Below W.heap.size W ((((X6.setCell ⟨bP, 0, none⟩ (.int .i64 qa)).setCell ⟨bP, 1, none⟩ (.int .i64 qb)).setCell ⟨bP, 2, none⟩ (.int .i64 qc)).setCell ⟨bP, 3, none⟩ (.string ⟨qs.toArray⟩))) := Lib.hid ((((FB.out.setCell hP _).setCell hP _).setCell hP _).setCell hP _)
                refine wpAnyH_ready (rs := [11]) (by as_aux_lemma => kernel_rfl) (by simp) ?_
                refine AllReadyH.cons (o := { dst := none, op := Op.store 32 (Operand.tmp 7) (Operand.tmp 42), type := 0, pos := "law.go:68", after := #[{ on := 10, ground := Ground.data }, { on := 8, ground := Ground.data }, { on := 6, ground := Ground.chain }, { on := 0, ground := Ground.phase }, { on := 1, ground := Ground.phase }, { on := 2, ground := Ground.phase }, { on := 3, ground := Ground.phase }, { on := 4, ground := Ground.phase }, { on := 5, ground := Ground.phase }, { on := 6, ground := Ground.phase }, { on := 7, ground := Ground.phase }, { on := 8, ground := Ground.phase }, { on := 9, ground := Ground.textOnly Departure.lateStores }, { on := 10, ground := Ground.phase }], guard := none }) rfl (fun Kx hK => ?_) AllReadyH.nil
                go_simp
                refine hK.out _ _ ?_ (fun hHeld2 => ?_)
                · exact six_low FB2.out hwW hS0
                clear hK Kx hHeld
                have hHeld := hHeld2
                clear hHeld2
                try simp only [Act.put, List.setIfInBounds_toArray, List.set_cons_zero, List.set_cons_succ]
                refine wpAnyH_take (i := 12) (oi := { dst := some 8, op := Op.assign (Operand.tmp 43), type := 4, pos := "law.go:68", after := #[{ on := 9, ground := Ground.data }, { on := 11, ground := Ground.chain }, { on := 0, ground := Ground.phase }, { on := 1, ground := Ground.phase }, { on := 2, ground := Ground.phase }, { on := 3, ground := Ground.phase }, { on := 4, ground := Ground.phase }, { on := 5, ground := Ground.phase }, { on := 6, ground := Ground.phase }, { on := 7, ground := Ground.phase }, { on := 8, ground := Ground.phase }, { on := 9, ground := Ground.phase }, { on := 10, ground := Ground.phase }, { on := 11, ground := Ground.phase }], guard := none }) (v := ?_) rfl (by as_aux_lemma => kernel_rfl) (by as_aux_lemma => kernel_rfl) (by as_aux_lemma => kernel_rfl) (fun _ _ _ h => h) (Or.inl ⟨by rfl, ?_⟩) (by assumption) ?_
                rotate_left
                · intro w' hSw
                  try dsimp only at hSw
                  go_simp
                  try with_reducible rfl
                try simp only [Act.put, List.setIfInBounds_toArray, List.set_cons_zero, List.set_cons_succ]
                refine wpAnyH_done (by kernel_rfl) ?_ _
                go_wp2_with fail
                go_meet
                exact ⟨bP, rfl, rfl, FQ, FB2⟩
      · skip
        go_simp
        have FP2 := Lib.hid (at_old (o := .cells #[.string ⟨kn.toArray⟩, .int .i64 ki, .int .i64 ka, .int .i64 kb, .int .i64 kc, .string ⟨ks.toArray⟩] 34) FP.out)
        have FB2 : Hid (Below W.heap.size W (X1.alloc (.cells #[.string ⟨kn.toArray⟩, .int .i64 ki, .int .i64 ka, .int .i64 kb, .int .i64 kc, .string ⟨ks.toArray⟩] 34))) := Lib.hid (FB.out.alloc FB.out.size _)
        have FL2 : Hid (LoneS sesVals 34 (X1.alloc (.cells #[.string ⟨kn.toArray⟩, .int .i64 ki, .int .i64 ka, .int .i64 kb, .int .i64 kc, .string ⟨ks.toArray⟩] 34)) X1.heap.size ⟨kn, ki, ⟨ka, kb, kc, ks⟩⟩) := Lib.hid (loneS_new rfl rfl)
        have hL : W.heap.size ≤ X1.heap.size := FB.out.size
        refine hK.out _ _ ?_ (fun hHeld2 => ?_)
        · exact six_low FB2.out hwW hS0
        clear hK Kx hHeld
        have hHeld := hHeld2
        clear hHeld2
        try simp only [Act.put, List.setIfInBounds_toArray, List.set_cons_zero, List.set_cons_succ]
        clear FB FP
        generalize X1.alloc (.cells #[.string ⟨kn.toArray⟩, .int .i64 ki, .int .i64 ka, .int .i64 kb, .int .i64 kc, .string ⟨ks.toArray⟩] 34) = X2 at FL2 FP2 FB2 hHeld ⊢
        generalize X1.heap.size = bL at FL2 hL ⊢
        have FL := FL2
        clear FL2
        have FP := FP2
        clear FP2
        have FB := FB2
        clear FB2
        refine wpAnyH_ready (rs := [0]) (by as_aux_lemma => kernel_rfl) (by simp) ?_
        refine AllReadyH.cons (o := { dst := some 35, op := Op.buildSlice 22 0 #[], type := 22, pos := "law.go:68", after := #[], guard := none }) rfl (fun Kx hK => ?_) AllReadyH.nil
        · skip
          go_simp
          have FL2 := Lib.hid (FL.out.later (bl_newZ X2 (.cells #[] 34)))
          have FP2 := Lib.hid (at_old (o := .cells #[] 34) FP.out)
          have FB2 : Hid (Below W.heap.size W (X2.alloc (.cells #[] 34))) := Lib.hid (FB.out.alloc FB.out.size _)
          have FE2 : Hid ((X2.alloc (.cells #[] 34)).heap[X2.heap.size]? = some (.cells #[] 34 (0, 0))) := Lib.hid (heap_alloc_new X2 _)
          have hE : W.heap.size ≤ X2.heap.size := FB.out.size
          refine hK.out _ _ ?_ (fun hHeld2 => ?_)
          · exact six_low FB2.out hwW hS0
          clear hK Kx hHeld
          have hHeld := hHeld2
          clear hHeld2
          try simp only [Act.put, List.setIfInBounds_toArray, List.set_cons_zero, List.set_cons_succ]
          clear FB FL FP
          generalize X2.alloc (.cells #[] 34) = X3 at FE2 FL2 FP2 FB2 hHeld ⊢
          generalize X2.heap.size = bE at FE2 hE ⊢
          have FE := FE2
          clear FE2
          have FL := FL2
          clear FL2
          have FP := FP2
          clear FP2
          have FB := FB2
          clear FB2
          refine wpAnyH_ready (rs := [2]) (by as_aux_lemma => kernel_rfl) (by simp) ?_
          refine AllReadyH.cons (o := { dst := some 37, op := Op.call { callee := Callee.builtin Builtin.append, args := #[Operand.tmp 35, Operand.tmp 36], argTypes := #[22, 22] }, type := 22, pos := "law.go:68", after := #[{ on := 0, ground := Ground.data }, { on := 1, ground := Ground.data }], guard := none }) rfl (fun Kx hK => ?_) AllReadyH.nil
          · skip
            refine step_append_L sesOK rfl (.tmp 35) (.tmp 36) rfl W.heap.size (.slice (some ⟨bE, 0, none⟩) 0 0) [] (by simp [Act.eval]; done) (own_fresh FE.out hE) ⟨bl, ol, none⟩ l.length cap l (by simp [Act.eval]; done) rfl (srcS_up SV.out FB.out) h0 hlm FB.out.size ?_
            intro v1 X4 hout
            have FA2 : Hid (OwnSes X4 W.heap.size v1 l) := Lib.hid hout.1
            have FB2 := Lib.hid (FB.out.trans hout.2.2.1)
            have FL2 := Lib.hid (lone_keep FL.out (hout.2.2.2 bL FL.out.lt (lone_ne FL.out FE.out)))
            have FP2 := Lib.hid ((hout.2.2.2 bP (Array.getElem?_eq_some_iff.1 FP.out).1 (own_ne_ty (own_fresh FE.out hE) FP.out (by decide))).trans FP.out)
            go_simp
            refine hK.out _ _ ?_ (fun hHeld2 => ?_)
            · exact six_low FB2.out hwW hS0
            clear hK Kx hHeld
            have hHeld := hHeld2
            clear hHeld2
            try simp only [Act.put, List.setIfInBounds_toArray, List.set_cons_zero, List.set_cons_succ]
            clear FB FE hout FL FP
            have FL := FL2
            clear FL2
            have FP := FP2
            clear FP2
            have FA := FA2
            clear FA2
            have FB := FB2
            clear FB2
            refine wpAnyH_ready (rs := [5]) (by as_aux_lemma => kernel_rfl) (by simp) ?_
            refine AllReadyH.cons (o := { dst := some 40, op := Op.call { callee := Callee.builtin Builtin.append, args := #[Operand.tmp 37, Operand.tmp 39], argTypes := #[22, 22] }, type := 22, pos := "law.go:68", after := #[{ on := 2, ground := Ground.data }, { on := 4, ground := Ground.data }, { on := 2, ground := Ground.chain }], guard := none }) rfl (fun Kx hK => ?_) AllReadyH.nil
            · skip
              refine step_append_L sesOK rfl (.tmp 37) (.tmp 39) rfl W.heap.size v1 l (by simp [Act.eval]; done) FA.out ⟨bL, 0, none⟩ 1 1 [⟨kn, ki, ⟨ka, kb, kc, ks⟩⟩] (by simp [Act.eval]; done) rfl FL.out.src (by simp) hlm2 FB.out.size ?_
              intro v2 X5 hout
              have FC2 : Hid (OwnSes X5 W.heap.size v2 (l ++ [⟨kn, ki, ⟨ka, kb, kc, ks⟩⟩])) := Lib.hid hout.1
              have FB2 := Lib.hid (FB.out.trans hout.2.2.1)
              have FP2 := Lib.hid ((hout.2.2.2 bP (Array.getElem?_eq_some_iff.1 FP.out).1 (own_ne_ty FA.out FP.out (by decide))).trans FP.out)
              go_simp
              refine hK.out _ _ ?_ (fun hHeld2 => ?_)
              · exact six_low FB2.out hwW hS0
              clear hK Kx hHeld
              have hHeld := hHeld2
              clear hHeld2
              try simp only [Act.put, List.setIfInBounds_toArray, List.set_cons_zero, List.set_cons_succ]
              clear FB FA FL hout FP
              have FP := FP2
              clear FP2
              have FC := FC2
              clear FC2
              have FB := FB2
              clear FB2
              refine wpAnyH_ready (rs := [6]) (by as_aux_lemma => kernel_rfl) (by simp) ?_
              refine AllReadyH.cons (o := { dst := some 41, op := Op.call { callee := Callee.value (Operand.func 32), args := #[Operand.tmp 40], argTypes := #[22] }, type := 44, pos := "law.go:68", after := #[{ on := 5, ground := Ground.data }, { on := 5, ground := Ground.chain }], guard := none }) rfl (fun Kx hK => ?_) AllReadyH.nil
              · skip
                go_simp
                refine (C2.out _ _ (FC.out.rd sesOK)).mono ?_
                rintro e X6 ⟨rfl, b9⟩
                have FB2 := Lib.hid (FB.out.trans (b9.mono FB.out.size))
                have FP2 := Lib.hid ((b9.block bP (Array.getElem?_eq_some_iff.1 FP.out).1).trans FP.out)
                go_wp2_with fail
                refine hK.out _ _ ?_ (fun hHeld2 => ?_)
                · exact six_low FB2.out hwW hS0
                clear hK Kx hHeld
                have hHeld := hHeld2
                clear hHeld2
                try simp only [Act.put, List.setIfInBounds_toArray, List.set_cons_zero, List.set_cons_succ]
                clear FB FC b9 FP
                have FP := FP2
                clear FP2
                have FB := FB2
                clear FB2
                refine wpAnyH_take (i := 7) (oi := { dst := some 34, op := Op.move (Operand.tmp 41), type := 44, pos := "law.go:68", after := #[{ on := 6, ground := Ground.data }], guard := none }) (v := ?_) rfl (by as_aux_lemma => kernel_rfl) (by as_aux_lemma => kernel_rfl) (by as_aux_lemma => kernel_rfl) (fun _ _ _ h => h) (Or.inl ⟨by rfl, ?_⟩) (by assumption) ?_
                rotate_left
                · intro w' hSw
                  try dsimp only at hSw
                  go_simp
                  try with_reducible rfl
                try simp only [Act.put, List.setIfInBounds_toArray, List.set_cons_zero, List.set_cons_succ]
                refine wpAnyH_take (i := 8) (oi := { dst := some 42, op := Op.extract (Operand.tmp 34) 0, type := 32, pos := "law.go:68", after := #[{ on := 7, ground := Ground.data }], guard := none }) (v := ?_) rfl (by as_aux_lemma => kernel_rfl) (by as_aux_lemma => kernel_rfl) (by as_aux_lemma => kernel_rfl) (fun _ _ _ h => h) (Or.inl ⟨by rfl, ?_⟩) (by assumption) ?_
                rotate_left
                · intro w' hSw
                  try dsimp only at hSw
                  go_simp
                  try with_reducible rfl
                try simp only [Act.put, List.setIfInBounds_toArray, List.set_cons_zero, List.set_cons_succ]
                refine wpAnyH_take (i := 9) (oi := { dst := some 43, op := Op.extract (Operand.tmp 34) 1, type := 4, pos := "law.go:68", after := #[{ on := 7, ground := Ground.data }, { on := 11, ground := Ground.gcOnly Departure.lateStores }], guard := none }) (v := ?_) rfl (by as_aux_lemma => kernel_rfl) (by as_aux_lemma => kernel_rfl) (by as_aux_lemma => kernel_rfl) (fun _ _ _ h => h) (Or.inl ⟨by rfl, ?_⟩) (by assumption) ?_
                rotate_left
                · intro w' hSw
                  try dsimp only at hSw
                  go_simp
                  try with_reducible rfl
                try simp only [Act.put, List.setIfInBounds_toArray, List.set_cons_zero, List.set_cons_succ]
                obtain ⟨p0, p1, p2, p3⟩ := row4 FP.out
                obtain ⟨g0, g1, g2, g3⟩ := free4 FP.out
                have FQ := Lib.hid (store4_cells (x0 := .int .i64 qa) (x1 := .int .i64 qb) (x2 := .int .i64 qc) (x3 := .string ⟨qs.toArray⟩) FP.out)
                have FB2 : Hid (Below W.heap.size W ((((X6.setCell ⟨bP, 0, none⟩ (.int .i64 qa)).setCell ⟨bP, 1, none⟩ (.int .i64 qb)).setCell ⟨bP, 2, none⟩ (.int .i64 qc)).setCell ⟨bP, 3, none⟩ (.string ⟨qs.toArray⟩))) := Lib.hid ((((FB.out.setCell hP _).setCell hP _).setCell hP _).setCell hP _)
                refine wpAnyH_ready (rs := [11]) (by as_aux_lemma => kernel_rfl) (by simp) ?_
                refine AllReadyH.cons (o := { dst := none, op := Op.store 32 (Operand.tmp 7) (Operand.tmp 42), type := 0, pos := "law.go:68", after := #[{ on := 10, ground := Ground.data }, { on := 8, ground := Ground.data }, { on := 6, ground := Ground.chain }, { on := 0, ground := Ground.phase }, { on := 1, ground := Ground.phase }, { on := 2, ground := Ground.phase }, { on := 3, ground := Ground.phase }, { on := 4, ground := Ground.phase }, { on := 5, ground := Ground.phase }, { on := 6, ground := Ground.phase }, { on := 7, ground := Ground.phase }, { on := 8, ground := Ground.phase }, { on := 9, ground := Ground.textOnly Departure.lateStores }, { on := 10, ground := Ground.phase }], guard := none }) rfl (fun Kx hK => ?_) AllReadyH.nil
                go_simp
                refine hK.out _ _ ?_ (fun hHeld2 => ?_)
                · exact six_low FB2.out hwW hS0
                clear hK Kx hHeld
                have hHeld := hHeld2
                clear hHeld2
                try simp only [Act.put, List.setIfInBounds_toArray, List.set_cons_zero, List.set_cons_succ]
                refine wpAnyH_take (i := 12) (oi := { dst := some 8, op := Op.assign (Operand.tmp 43), type := 4, pos := "law.go:68", after := #[{ on := 9, ground := Ground.data }, { on := 11, ground := Ground.chain }, { on := 0, ground := Ground.phase }, { on := 1, ground := Ground.phase }, { on := 2, ground := Ground.phase }, { on := 3, ground := Ground.phase }, { on := 4, ground := Ground.phase }, { on := 5, ground := Ground.phase }, { on := 6, ground := Ground.phase }, { on := 7, ground := Ground.phase }, { on := 8, ground := Ground.phase }, { on := 9, ground := Ground.phase }, { on := 10, ground := Ground.phase }, { on := 11, ground := Ground.phase }], guard := none }) (v := ?_) rfl (by as_aux_lemma => kernel_rfl) (by as_aux_lemma => kernel_rfl) (by as_aux_lemma => kernel_rfl) (fun _ _ _ h => h) (Or.inl ⟨by rfl, ?_⟩) (by assumption) ?_
                rotate_left
                · intro w' hSw
                  try dsimp only at hSw
                  go_simp
                  try with_reducible rfl
                try simp only [Act.put, List.setIfInBounds_toArray, List.set_cons_zero, List.set_cons_succ]
                refine wpAnyH_done (by kernel_rfl) ?_ _
                go_wp2_with fail
                go_meet
                exact ⟨bP, rfl, rfl, FQ, FB2⟩
  case rest =>
    obtain ⟨B', rfl, rfl, H7, HN⟩ := hcut
    replace HV := Lib.hid (HV.out.later HN.out)
    replace HP := Lib.hid (HP.out.later HN.out)
    replace BB := Lib.hid (below2Z BB.out HN.out)
    obtain ⟨p0, p1, p2, p3⟩ := cells4v HP.out
    obtain ⟨q0, q1, q2, q3⟩ := cells4v H7.out
    simp only [Nat.zero_add] at p0 p1 p2 p3 q0 q1 q2 q3
    have hmk := fun w => run_makeMap (P := Try.prog) 46 w
    clear HN HS
    go_wp2_with fail
    have hwM : w.heap.size ≤ wc.heap.size := BB.out.size
    have hPM : P5 < wc.heap.size := World.block_lt_of_cell? _ _ (HP.out 0 _ rfl)
    have bm := bl_newZ wc (.map #[] 0)
    have HM := Lib.hid (setI_made wc)
    replace HV := Lib.hid (HV.out.later bm)
    replace HP := Lib.hid (HP.out.later bm)
    replace BB := Lib.hid (below2Z BB.out bm)
    have hsM : wc.heap.size + 1 ≤ (wc.alloc (.map #[] 0)).heap.size := Nat.le_of_eq (World.size_alloc _ _).symm
    clear bm H7 p0 p1 p2 p3 q0 q1 q2 q3
    generalize wc.alloc (.map #[] 0) = W4 at HV HP BB HM hsM ⊢
    generalize wc.heap.size = M at HM hsM hwM hPM ⊢
    go_loopw [9, 11] (fun o t wr => ∃ (k : Nat) (z : Int), k ≤ l.length ∧ t = .int .i64 z ∧ Hid (z = (l.length : Int) - k - 1) ∧ Hid (OwnS sesVals 6 34 wr (M + 1) o (l.reverse.take k)) ∧ Hid (SetI wr M ((l.reverse.take k).map Ses.id)) ∧ Hid (Below M W4 wr)) (fun _ t _ => (intOf t + 1).toNat)
    case atStart => exact ⟨0, (l.length : Int) - 1, by omega, rfl, by show _ = _; omega, ownS_nil _ _, HM, Below.refl _ _⟩
    case round =>
      clear HM
      obtain ⟨k, z, hk, rfl, HZ, HO, HM, HN⟩ := hrel
      have hsN := HN.out.size
      by_cases hlt : k < l.length
      · obtain ⟨m, hm⟩ : ∃ m : Nat, m = l.length - 1 - k := ⟨_, rfl⟩
        obtain rfl : z = (m : Int) := by have := HZ.out; omega
        have HMk := Lib.hid hm
        have hml : m < l.length := by omega
        have BW := Lib.hid (BB.out.trans (HN.out.mono hwM))
        obtain ⟨bd, od, ead, hc⟩ := HV0.out.row BW.out m hml
        rw [Option.some.injEq, Addr.mk.injEq] at ead
        obtain ⟨rfl, rfl, -⟩ := ead
        rw [show l.getD m Ses.zero = sat l m from rfl] at hc
        have hnx := back_next hlt
        rw [← hm] at hnx
        have hfit := HF.out _ (sat_mem hml)
        obtain ⟨⟨xn, xi, ⟨xa, xb, xc, xs⟩⟩, hx⟩ : ∃ s, sat l m = s := ⟨_, rfl⟩
        rw [hx] at hc hnx hfit
        have HNX := Lib.hid hnx
        have HXI : Hid ((Lit.int .i64 xi).wf = true) := Lib.hid hfit.id
        obtain ⟨s0, s1, s2, s3, s4, s5⟩ := cells6 hc
        try simp only at s0 s1 s2 s3 s4 s5
        have HC := Lib.hid hc
        have O2 := Lib.hid (HO.out.alloc (.cells #[.string ⟨xn.toArray⟩, .int .i64 xi, .int .i64 xa, .int .i64 xb, .int .i64 xc, .string ⟨xs.toArray⟩] 34))
        have C4 := Lib.hid (srcS_new (vals := sesVals) (w := wr) (r := ⟨xn, xi, ⟨xa, xb, xc, xs⟩⟩) (cs := #[.string ⟨xn.toArray⟩, .int .i64 xi, .int .i64 xa, .int .i64 xb, .int .i64 xc, .string ⟨xs.toArray⟩]) (e := 34) rfl (B := wr.heap.size) rfl)
        have hl7 : (l.reverse.take k).length + [(⟨xn, xi, ⟨xa, xb, xc, xs⟩⟩ : Ses)].length < 4294967296 := by
          rw [List.length_take, List.length_reverse]
          simp
          omega
        have hl8 : ((l.reverse.take k).map Ses.id).length ≤ 1000 := by
          rw [List.length_map, List.length_take, List.length_reverse]
          omega
        have hMlt := HM.out.lt
        have hbs : M + 1 ≤ (wr.alloc (.cells #[.string ⟨xn.toArray⟩, .int .i64 xi, .int .i64 xa, .int .i64 xb, .int .i64 xc, .string ⟨xs.toArray⟩] 34)).heap.size := by rw [World.size_alloc]; omega
        have t5 : (0 : Int) ≤ (m : Int) := by omega
        have t6 : (m : Int) < (l.length : Int) := by omega
        clear hx hc hnx hfit hm
        have hbd : bl < w.heap.size := by
          obtain ⟨b', o', e', hc'⟩ := HV0.out.row (Below.refl _ _) m hml
          rw [Option.some.injEq, Addr.mk.injEq] at e'
          rw [e'.1]
          exact World.block_lt_of_cell? w _ (hc' 0 _ rfl)
        go_wp2_with (at_builtin; refine wpList_append_S sesOK rfl _ _ rfl (M + 1) _ (l.reverse.take k) rfl O2.out (some ⟨wr.heap.size, 0, none⟩) 1 1 [⟨xn, xi, ⟨xa, xb, xc, xs⟩⟩] rfl rfl (fun e => by cases e) C4.out hl7 hbs ?_)
        intro v' w' hown hb
        rw [← HNX.out] at hown
        have b5 : Below (M + 1) wr w' := ((Below.refl (M + 1) wr).alloc (by omega) (.cells #[.string ⟨xn.toArray⟩, .int .i64 xi, .int .i64 xa, .int .i64 xb, .int .i64 xc, .string ⟨xs.toArray⟩] 34)).trans hb
        have HM2 := Lib.hid (HM.out.kept (b5.block M (by omega)))
        have N2 := Lib.hid (HN.out.trans (b5.mono (by omega)))
        have O3 := Lib.hid hown
        obtain ⟨y0, y1, y2, y3, y4, y5⟩ := cells6 (HC.out.block (b5.block bl (by omega)))
        try simp only at y0 y1 y2 y3 y4 y5
        have hsz' := b5.size
        clear hown hb b5 O2 C4 s0 s1 s2 s3 s4 s5 HC HO HM HN BW
        go_wp2_with (at_mapUpdate; refine wpList_int_add rfl _ _ _ rfl M ((l.reverse.take k).map Ses.id) rfl HM2.out hl8 xi HXI.out rfl rfl ?_; intro w7 hs7 hg7)
        have O7 := Lib.hid (O3.out.blocks (w' := w7) fun g n c e => hg7.block g (OwnS.gblock O3.out e).1 (by have := (OwnS.gblock O3.out e).2.1; intro e2; injection e2 with e2; omega))
        have N7 := Lib.hid (N2.out.grown hg7 (by omega) (fun i e => by injection e with e; omega))
        have S7 : Hid (SetI w7 M ((l.reverse.take (k + 1)).map Ses.id)) := by
          show SetI _ _ _
          rw [HNX.out, List.map_append]
          exact hs7
        clear hs7 hg7 O3 N2 HM2 y0 y1 y2 y3 y4 y5
        go_roundw
        case rel => exact ⟨k + 1, (m : Int) - 1, by omega, by go_num, by have := HZ.out; show _ = _; omega, O7, S7, N7⟩
        case measure => simp [intOf] <;> omega
      · obtain rfl : k = l.length := by omega
        obtain rfl : z = -1 := by have := HZ.out; omega
        have ho := HO.out
        have hs := HM.out
        rw [List.take_of_length_le (by rw [List.length_reverse]; exact Nat.le_refl _)] at ho hs
        have RO := Lib.hid (ho.rd sesOK)
        have HP2 := Lib.hid (HP.out.block (HN.out.block P5 hPM))
        have BW := Lib.hid (BB.out.trans (HN.out.mono hwM))
        have HM2 := Lib.hid hs
        clear ho hs HO HM HN HZ HP BB
        go_wp2_with fail
        refine (C3.out _ _ RO.out).mono ?_
        rintro e w8 ⟨rfl, b8⟩
        have b9 := below2Z b8 (bl_newZ w8 (.cells #[.int .i64 ra, .int .i64 rb, .int .i64 rc, .string ⟨rs.toArray⟩] 32))
        have hln := (HM2.out.later b9).len 3
        have HP3 := Lib.hid (HP2.out.later b9)
        have BW2 := Lib.hid (below2Z BW.out b9)
        have HR := Lib.hid (cellsAt_made (w := w8) (cs := #[.int .i64 ra, .int .i64 rb, .int .i64 rc, .string ⟨rs.toArray⟩]) (vs := [.int .i64 ra, .int .i64 rb, .int .i64 rc, .string ⟨rs.toArray⟩]) rfl 32 rfl)
        clear b8 b9 HM2 HP2 BW
        obtain ⟨c, hc⟩ : ∃ c, (uniq (l.reverse.map Ses.id)).length = c := ⟨_, rfl⟩
        rw [hc] at hln
        obtain ⟨p0, p1, p2, p3⟩ := cells4v HP3.out
        obtain ⟨q0, q1, q2, q3⟩ := cells4v HR.out
        simp only [Nat.zero_add] at p0 p1 p2 p3 q0 q1 q2 q3
        by_cases hcl : c = l.length
        · have hvv := HUn.out (hc.trans hcl)
          simp only [Val.mk.injEq] at hvv
          obtain ⟨rfl, rfl, rfl, rfl⟩ := hvv
          have e1 : ∀ w, (binOp .eql 32 (.agg #[.int .i64 ra, .int .i64 rb, .int .i64 rc, .string ⟨rs.toArray⟩]) (.agg #[.int .i64 ra, .int .i64 rb, .int .i64 rc, .string ⟨rs.toArray⟩])).run Try.prog w = .ok (.bool true) w := fun w => by rw [val_eql, valSame_iff.2 rfl]
          have t9 : ((c : Int) != (l.length : Int)) = false := by rw [hcl]; simp
          clear hcl hc
          go_wp2_with fail
          refine (live11 _).mono ?_
          rintro e w9 ⟨rfl, b9⟩
          have BW3 := Lib.hid (below2Z BW2.out b9)
          clear b9
          go_wp2_with fail
          go_ret
          exact ⟨rfl, BW3.out⟩
        · have t9 : ((c : Int) != (l.length : Int)) = true := by rw [bne_iff_ne]; omega
          clear hcl hc
          go_wp2_with fail
          refine (live11 _).mono ?_
          rintro e w9 ⟨rfl, b9⟩
          have BW3 := Lib.hid (below2Z BW2.out b9)
          clear b9
          go_wp2_with fail
          go_ret
          exact ⟨rfl, BW3.out⟩

set_option maxHeartbeats 800000 in
set_option maxRecDepth 100000 in
theorem bmore_1 {w : World} {v : Value} {l : List Ses} (hv : Sess w v l) (kn ks : List UInt8) (ki ka kb kc : Int) (hw : fewSes l = false) :
    Calls Try.prog 8 #[v, .agg #[.string ⟨kn.toArray⟩, .int .i64 ki, .int .i64 ka, .int .i64 kb, .int .i64 kc, .string ⟨ks.toArray⟩]] w fun e w' => e = .returned (.bool true) ∧ Below w.heap.size w w' := by
  have hb1 := bl_newZ w (.cells #[.string ⟨kn.toArray⟩, .int .i64 ki, .int .i64 ka, .int .i64 kb, .int .i64 kc, .string ⟨ks.toArray⟩] 34)
  have HF1 := Lib.hid (few09_eq (hv.later hb1) hw)
  have BB := Lib.hid hb1
  obtain ⟨ao, cap, rfl, hm1⟩ := hv.open'
  clear hv hb1 hw
  go_enter Try.func8, Try.ntmps8
  go_wp2_with fail
  refine HF1.out.mono ?_
  rintro e w1 ⟨rfl, rfl⟩
  go_wp2_with fail
  refine (live11 _).mono ?_
  rintro e w3 ⟨rfl, b1⟩
  replace BB := Lib.hid (below2Z BB.out b1)
  clear b1
  go_wp2_with fail
  go_ret
  exact ⟨rfl, BB.out⟩

set_option maxHeartbeats 800000 in
set_option maxRecDepth 100000 in
theorem bmore_2 {w : World} {v : Value} {l : List Ses} (hv : Sess w v l) (kn ks : List UInt8) (ki ka kb kc : Int) (hw : fewSes l = true) (hw' : fewSes [⟨kn, ki, ⟨ka, kb, kc, ks⟩⟩] = false) :
    Calls Try.prog 8 #[v, .agg #[.string ⟨kn.toArray⟩, .int .i64 ki, .int .i64 ka, .int .i64 kb, .int .i64 kc, .string ⟨ks.toArray⟩]] w fun e w' => e = .returned (.bool true) ∧ Below w.heap.size w w' := by
  have hb1 := bl_newZ w (.cells #[.string ⟨kn.toArray⟩, .int .i64 ki, .int .i64 ka, .int .i64 kb, .int .i64 kc, .string ⟨ks.toArray⟩] 34)
  have HF1 := Lib.hid (few09_eq (hv.later hb1) hw)
  have HS := Lib.hid (cellsAt_made (w := w) (cs := #[.string ⟨kn.toArray⟩, .int .i64 ki, .int .i64 ka, .int .i64 kb, .int .i64 kc, .string ⟨ks.toArray⟩]) (vs := sesVals ⟨kn, ki, ⟨ka, kb, kc, ks⟩⟩) rfl 34 rfl)
  obtain ⟨s0, s1, s2, s3, s4, s5⟩ := cells6 HS.out
  simp only [Nat.zero_add] at s0 s1 s2 s3 s4 s5
  have hC2 : Calls Try.prog 15 #[.slice (some ⟨w.heap.size + 1, 0, none⟩) 1 1] ((w.alloc (.cells #[.string ⟨kn.toArray⟩, .int .i64 ki, .int .i64 ka, .int .i64 kb, .int .i64 kc, .string ⟨ks.toArray⟩] 34)).alloc (.cells #[.string ⟨kn.toArray⟩, .int .i64 ki, .int .i64 ka, .int .i64 kb, .int .i64 kc, .string ⟨ks.toArray⟩] 34)) fun e w'' => e = .returned (.bool false) ∧ (w.alloc (.cells #[.string ⟨kn.toArray⟩, .int .i64 ki, .int .i64 ka, .int .i64 kb, .int .i64 kc, .string ⟨ks.toArray⟩] 34)).alloc (.cells #[.string ⟨kn.toArray⟩, .int .i64 ki, .int .i64 ka, .int .i64 kb, .int .i64 kc, .string ⟨ks.toArray⟩] 34) = w'' := few09_eq (rdS_made sesOK (l := [⟨kn, ki, ⟨ka, kb, kc, ks⟩⟩]) rfl (by simp) (World.size_alloc _ _).symm) hw'
  have BB := Lib.hid hb1
  obtain ⟨ao, cap, rfl, hm1⟩ := hv.open'
  clear hv hb1 hw
  go_enter Try.func8, Try.ntmps8
  go_wp2_with fail
  refine HF1.out.mono ?_
  rintro e w1 ⟨rfl, rfl⟩
  go_wp2_with fail
  refine hC2.mono ?_
  rintro e w1 ⟨rfl, rfl⟩
  replace BB := Lib.hid (below2Z BB.out (bl_newZ (w.alloc (.cells #[.string ⟨kn.toArray⟩, .int .i64 ki, .int .i64 ka, .int .i64 kb, .int .i64 kc, .string ⟨ks.toArray⟩] 34)) (.cells #[.string ⟨kn.toArray⟩, .int .i64 ki, .int .i64 ka, .int .i64 kb, .int .i64 kc, .string ⟨ks.toArray⟩] 34)))
  go_wp2_with fail
  refine (live11 _).mono ?_
  rintro e w3 ⟨rfl, b1⟩
  replace BB := Lib.hid (below2Z BB.out b1)
  clear b1
  go_wp2_with fail
  go_ret
  exact ⟨rfl, BB.out⟩

set_option maxHeartbeats 800000 in
set_option maxRecDepth 100000 in
theorem bmore_3 {w : World} {v : Value} {l : List Ses} (hv : Sess w v l) (kn ks : List UInt8) (ki ka kb kc : Int) (hw : fewSes l = true) (hw' : fewSes [⟨kn, ki, ⟨ka, kb, kc, ks⟩⟩] = true) (h3 : l = []) :
    Calls Try.prog 8 #[v, .agg #[.string ⟨kn.toArray⟩, .int .i64 ki, .int .i64 ka, .int .i64 kb, .int .i64 kc, .string ⟨ks.toArray⟩]] w fun e w' => e = .returned (.bool true) ∧ Below w.heap.size w w' := by
  have hb1 := bl_newZ w (.cells #[.string ⟨kn.toArray⟩, .int .i64 ki, .int .i64 ka, .int .i64 kb, .int .i64 kc, .string ⟨ks.toArray⟩] 34)
  have HF1 := Lib.hid (few09_eq (hv.later hb1) hw)
  have HS := Lib.hid (cellsAt_made (w := w) (cs := #[.string ⟨kn.toArray⟩, .int .i64 ki, .int .i64 ka, .int .i64 kb, .int .i64 kc, .string ⟨ks.toArray⟩]) (vs := sesVals ⟨kn, ki, ⟨ka, kb, kc, ks⟩⟩) rfl 34 rfl)
  obtain ⟨s0, s1, s2, s3, s4, s5⟩ := cells6 HS.out
  simp only [Nat.zero_add] at s0 s1 s2 s3 s4 s5
  have hC2 : Calls Try.prog 15 #[.slice (some ⟨w.heap.size + 1, 0, none⟩) 1 1] ((w.alloc (.cells #[.string ⟨kn.toArray⟩, .int .i64 ki, .int .i64 ka, .int .i64 kb, .int .i64 kc, .string ⟨ks.toArray⟩] 34)).alloc (.cells #[.string ⟨kn.toArray⟩, .int .i64 ki, .int .i64 ka, .int .i64 kb, .int .i64 kc, .string ⟨ks.toArray⟩] 34)) fun e w'' => e = .returned (.bool true) ∧ (w.alloc (.cells #[.string ⟨kn.toArray⟩, .int .i64 ki, .int .i64 ka, .int .i64 kb, .int .i64 kc, .string ⟨ks.toArray⟩] 34)).alloc (.cells #[.string ⟨kn.toArray⟩, .int .i64 ki, .int .i64 ka, .int .i64 kb, .int .i64 kc, .string ⟨ks.toArray⟩] 34) = w'' := few09_eq (rdS_made sesOK (l := [⟨kn, ki, ⟨ka, kb, kc, ks⟩⟩]) rfl (by simp) (World.size_alloc _ _).symm) hw'
  have BB := Lib.hid hb1
  obtain ⟨ao, cap, rfl, hm1⟩ := hv.open'
  subst h3
  simp only [List.length_nil] at HF1 ⊢
  clear hv hb1 hw
  go_enter Try.func8, Try.ntmps8
  go_wp2_with fail
  refine HF1.out.mono ?_
  rintro e w1 ⟨rfl, rfl⟩
  go_wp2_with fail
  refine hC2.mono ?_
  rintro e w1 ⟨rfl, rfl⟩
  replace BB := Lib.hid (below2Z BB.out (bl_newZ (w.alloc (.cells #[.string ⟨kn.toArray⟩, .int .i64 ki, .int .i64 ka, .int .i64 kb, .int .i64 kc, .string ⟨ks.toArray⟩] 34)) (.cells #[.string ⟨kn.toArray⟩, .int .i64 ki, .int .i64 ka, .int .i64 kb, .int .i64 kc, .string ⟨ks.toArray⟩] 34)))
  go_wp2_with fail
  refine (live11 _).mono ?_
  rintro e w3 ⟨rfl, b1⟩
  replace BB := Lib.hid (below2Z BB.out b1)
  clear b1
  go_wp2_with fail
  go_ret
  exact ⟨rfl, BB.out⟩

theorem walkBestMore {w : World} {v : Value} {l : List Ses} (hv : Sess w v l) (hf : ∀ s ∈ l, SesFit s) (s : Ses) (hs : SesFit s) :
    Calls Try.prog 8 #[v, .agg #[.string ⟨s.u.toArray⟩, .int .i64 s.id, .int .i64 s.v.sh, .int .i64 s.v.pr, .int .i64 s.v.si, .string ⟨s.v.st.toArray⟩]] w fun e w' => e = .returned (.bool true) ∧ Below w.heap.size w w' := by
  cases hw : fewSes l with
  | false => exact bmore_1 hv _ _ _ _ _ _ hw
  | true =>
    cases hw' : fewSes [s] with
    | false => exact bmore_2 hv s.u s.v.st s.id s.v.sh s.v.pr s.v.si hw hw'
    | true =>
      by_cases h3 : l = []
      · exact bmore_3 hv s.u s.v.st s.id s.v.sh s.v.pr s.v.si hw hw' h3
      · exact bmore_few hv hf s.u s.v.st s.id s.v.sh s.v.pr s.v.si hs hw hw' (List.length_pos_iff.2 h3)

end Go.Proofs.Ytkmbnpjnjlcjmaa
