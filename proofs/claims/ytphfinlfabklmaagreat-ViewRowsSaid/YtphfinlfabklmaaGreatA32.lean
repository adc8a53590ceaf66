/-
  TEXTS OF THE PROOF, one behind the other: ViewRof, ViewBet, IdLive, NumRow, PairKey, RosItems, StaAll.
-/
import Derived.Test.YtphfinlfabklmaaGreatA28
import Derived.Test.YtphfinlfabklmaaGreatA29
import Derived.Test.YtphfinlfabklmaaGreatA31
import Derived.Deep.DeepCutAuto
import Derived.Deep.CutBlock
import Derived.Test.YtphfinlfabklmaaGreatA30
import Derived.Test.YtphfinlfabklmaaGreatA02
import Derived.Test.YtphfinlfabklmaaGreatA16
import Derived.Test.YtphfinlfabklmaaGreatA10
import Derived.Test.YtphfinlfabklmaaGreatProg
import Derived.DeepKeys4
import Derived.Maps.OwnSet
import Derived.Test.YtphfinlfabklmaaGreatA23
import Derived.Test.YtphfinlfabklmaaGreatA15
import Derived.Test.YtphfinlfabklmaaGreatA13

section

/-
  LAYER 15: the document's Of.
-/
namespace Go.Proofs.YtphfinlfabklmaaGreat
open Go.RowKit Go.Deep

/-- A few blocks, and one cell of a row. -/
def heldD (X : World) (bs : List (Nat × List Value)) (b off : Nat) (v : Value) : Prop := heldB X bs ∧ X.cell? ⟨b, off, none⟩ = some v

theorem heldD_up {W X : World} {bs : List (Nat × List Value)} {b off : Nat} {v : Value} (hb : Below W.heap.size W X) (h : heldD W bs b off v) : heldD X bs b off v :=
  ⟨heldB_up hb h.1, cell_later h.2 hb⟩

/-- 'out = append(out, r)' as one step of a region that draws its order. -/
theorem step_append_rows {ops : Array Oper} {o : Oper} {a : Act} {w : World} {K : Act → World → Prop} {Q : Exit → Act → World → Prop} {E : Prop}
    (hg : o.guard = none) (s x : Operand) (ho : o.op = .call { callee := .builtin .append, args := #[s, x], argTypes := #[34, 34] })
    (base : Nat) (v : Value) (t : List Row) (hs : a.eval s = v) (hown : OwnR w base v t) (r : Row) (B : Nat) (hx : a.eval x = .slice (some ⟨B, 0, none⟩) 1 1)
    (hcell : ∀ ad, some (⟨B, 0, none⟩ : Addr) = some ad → ∀ j u, (cellsOf [r])[j]? = some u → w.cell? (ad.add j) = some u)
    (hlen : t.length < 4294967) (hbase : base ≤ w.heap.size)
    (hK : ∀ v' w', OwnR w' base v' (t ++ [r]) → Below base w w' → K (a.put o.dst v') w') :
    if Region.wanted o (yielded ops a.tmps) = true then Oper.wp Tryz.prog o a w K Q else E := by
  have hw : Region.wanted o (yielded ops a.tmps) = true := by simp [Region.wanted, hg]
  rw [if_pos hw]
  obtain ⟨i, hi, hz, hsize, hby⟩ := info_parts Tryz.infoSeen
  refine wp_append_own w s x 34 ho base 45 i _ 5 56 Tryz.underlying34 hi hz hsize hby rfl (by decide) v t.length (cellsOf t) hs hown ⟨B, 0, none⟩ 1 1 (cellsOf [r]) hx (cellsOf_len [r]) (hcell _ rfl) (cellsOf_single [r])
    (by unfold maxLen; omega) (by omega) hbase ?_
  intro v' w' hown' hgrow _
  refine hK v' w' ?_ ((Below.refl base w).grown hgrow hbase (fun k hk => (World.ownsRow.lt hown k hk).1))
  unfold OwnR
  rw [cellsOf_append, List.length_append]
  exact hown'

/-- Four stores into a block of four cells. -/
theorem set4V {w : World} {b : Nat} {x0 x1 x2 x3 y0 y1 y2 y3 : Value} {T : TypeId} (h : w.heap[b]? = some (.cells #[x0, x1, x2, x3] T (0, 0))) :
    ((((w.setCell ⟨b, 0, none⟩ y0).setCell ⟨b, 1, none⟩ y1).setCell ⟨b, 2, none⟩ y2).setCell ⟨b, 3, none⟩ y3).cell? ⟨b, 0, none⟩ = some y0 ∧
    ((((w.setCell ⟨b, 0, none⟩ y0).setCell ⟨b, 1, none⟩ y1).setCell ⟨b, 2, none⟩ y2).setCell ⟨b, 3, none⟩ y3).cell? ⟨b, 1, none⟩ = some y1 ∧
    ((((w.setCell ⟨b, 0, none⟩ y0).setCell ⟨b, 1, none⟩ y1).setCell ⟨b, 2, none⟩ y2).setCell ⟨b, 3, none⟩ y3).cell? ⟨b, 2, none⟩ = some y2 ∧
    ((((w.setCell ⟨b, 0, none⟩ y0).setCell ⟨b, 1, none⟩ y1).setCell ⟨b, 2, none⟩ y2).setCell ⟨b, 3, none⟩ y3).cell? ⟨b, 3, none⟩ = some y3 := by
  have h1 := heap_setCell_same w b 0 _ _ y0 h
  have h2 := heap_setCell_same _ b 1 _ _ y1 h1
  have h3 := heap_setCell_same _ b 2 _ _ y2 h2
  have h4 := heap_setCell_same _ b 3 _ _ y3 h3
  exact ⟨cell_of_row _ b 0 _ _ (0, 0) h4, cell_of_row _ b 1 _ _ (0, 0) h4, cell_of_row _ b 2 _ _ (0, 0) h4, cell_of_row _ b 3 _ _ (0, 0) h4⟩

theorem cellsAt_four {X : World} {B : Nat} {a b c d : Value} (h0 : X.cell? ⟨B, 0, none⟩ = some a) (h1 : X.cell? ⟨B, 1, none⟩ = some b) (h2 : X.cell? ⟨B, 2, none⟩ = some c) (h3 : X.cell? ⟨B, 3, none⟩ = some d) : CellsAt X B 0 [a, b, c, d] := by
  intro j u hu
  match j, hu with
  | 0, hu => simp only [List.getElem?_cons_zero, Option.some.injEq] at hu; subst hu; exact h0
  | 1, hu => simp only [List.getElem?_cons_succ, List.getElem?_cons_zero, Option.some.injEq] at hu; subst hu; exact h1
  | 2, hu => simp only [List.getElem?_cons_succ, List.getElem?_cons_zero, Option.some.injEq] at hu; subst hu; exact h2
  | 3, hu => simp only [List.getElem?_cons_succ, List.getElem?_cons_zero, Option.some.injEq] at hu; subst hu; exact h3
  | j + 4, hu => simp at hu

theorem fourV {X : World} {B : Nat} {a b c d : Value} (h : CellsAt X B 0 [a, b, c, d]) : X.cell? ⟨B, 0, none⟩ = some a ∧ X.cell? ⟨B, 1, none⟩ = some b ∧ X.cell? ⟨B, 2, none⟩ = some c ∧ X.cell? ⟨B, 3, none⟩ = some d := by
  have h0 := h 0 _ rfl
  have h1 := h 1 _ rfl
  have h2 := h 2 _ rfl
  have h3 := h 3 _ rfl
  simp only [Nat.zero_add] at h0 h1 h2 h3
  exact ⟨h0, h1, h2, h3⟩

theorem roOf_len16 {t : Sta} (hm : stMay t = true) (w : List UInt8) : (roOf t.e w).length ≤ 16 := by
  by_cases h : ∃ e ∈ t.e, e.o = w
  · obtain ⟨e, he, rfl⟩ := h
    exact ((stMay_parts hm).1.2 e he).2.2.2.1
  · have : roOf t.e w = [] := List.eq_nil_iff_forall_not_mem.2 fun c hc => by
      obtain ⟨e, he, ho, _⟩ := roOf_mem.1 hc
      exact h ⟨e, he, ho⟩
    rw [this]
    exact Nat.zero_le _

theorem texts_shape {w : World} {v : Value} {ls : List (List UInt8)} {n : Nat} (h : Texts w v ls) (hn : ls.length = n) : ∃ a c, v = .slice a n c := by
  obtain ⟨a', c', e, _⟩ := h
  exact ⟨a', c', by rw [← hn]; exact e⟩

set_option maxHeartbeats 1600000 in
set_option maxRecDepth 100000 in
theorem rvwof_no {w : World} {x y : Value} {t : Sta} (h : StAt w x y t) (hok : ShortE t.e ∧ ShortS t.s) (hl : t.e.length ≤ 4294967) (u : List UInt8) (hm : stMay t = false) :
    Calls Tryz.prog 19 #[.agg #[x, y], .string ⟨u.toArray⟩] w fun e w' => ∃ v, e = .returned v ∧ Tab w' v [] ∧ Below w.heap.size w w' := by
  have b0 := bl_newZ w (.cells #[x, y] 25)
  have HB := Lib.hid b0
  have H := Lib.hid (h.later b0)
  have F := Lib.hid (heap_newT w (.cells #[x, y] 25))
  have HOK := Lib.hid hok
  have HM := Lib.hid hm
  clear b0 h hok hm
  obtain ⟨c0, c1, -, -⟩ := two_T F.out
  go_enter Tryz.func19, Tryz.ntmps19
  go_wp2_with fail
  refine (rstmay_any H.out HOK.out.1 hl HOK.out.2 HM).mono ?_
  rintro e w1 ⟨rfl, b1⟩
  replace HB := Lib.hid (below2Z HB.out b1)
  clear b1 c0 c1
  go_wp2_with fail
  go_ret
  exact ⟨_, rfl, (ownR_nil _ 0).tab, HB.out⟩

set_option maxHeartbeats 6400000 in
set_option maxRecDepth 100000 in
theorem rvwof_yes {w : World} {x y : Value} {t : Sta} (h : StAt w x y t) (hok : ShortE t.e ∧ ShortS t.s) (hl : t.e.length ≤ 4294967) (u : List UInt8) (hm : stMay t = true) :
    Calls Tryz.prog 19 #[.agg #[x, y], .string ⟨u.toArray⟩] w fun e w' => ∃ v, e = .returned v ∧ Tab w' v (vwRows t u) ∧ Below w.heap.size w w' := by
  have b0 := bl_newZ w (.cells #[x, y] 25)
  have HB := Lib.hid b0
  have H := Lib.hid (h.later b0)
  have F := Lib.hid (heap_newT w (.cells #[x, y] 25))
  have HOK := Lib.hid hok
  have HM := Lib.hid hm
  have hle : t.s.length ≤ 1000 := by have := len_of_may hm; omega
  have h16 := roOf_len16 hm u
  have HRI := Lib.hid (roOf_rise (stMay_parts hm).1.1 u)
  obtain ⟨n1, hn1⟩ : ∃ m, (roOf t.e u).length = m := ⟨_, rfl⟩
  have hn16 : n1 ≤ 16 := by omega
  have HN1 := Lib.hid hn1
  clear b0 h hok hm hn1
  obtain ⟨c0, c1, -, -⟩ := two_T F.out
  go_enter Tryz.func19, Tryz.ntmps19
  go_wp2_with fail
  refine (rstmay_any H.out HOK.out.1 hl HOK.out.2 HM).mono ?_
  rintro e w1 ⟨rfl, b1⟩
  replace HB := Lib.hid (below2Z HB.out b1)
  replace H := Lib.hid (H.out.later b1)
  replace F := Lib.hid (upT F.out b1)
  clear b1 c0 c1
  obtain ⟨c0, c1, -, -⟩ := two_T F.out
  go_wp2_with fail
  refine (rof_any H.out.1 hl u).mono ?_
  rintro e w2 ⟨v2, rfl, o2, b2⟩
  replace HB := Lib.hid (below2Z HB.out b2)
  replace H := Lib.hid (H.out.later b2)
  replace F := Lib.hid (upT F.out b2)
  have T2 := Lib.hid o2.texts
  clear b2 o2 c0 c1
  go_wp2_with fail
  refine (irmerge_any T2.out (texts_nil _) (by omega) (by simp)).mono ?_
  rintro e w3 ⟨v3, rfl, t3, b3⟩
  rw [mrg_rise_self HRI.out] at t3
  replace HB := Lib.hid (below2Z HB.out b3)
  replace H := Lib.hid (H.out.later b3)
  replace F := Lib.hid (upT F.out b3)
  obtain ⟨a3, c3, rfl⟩ := texts_shape t3 HN1.out
  have T3 := Lib.hid t3
  clear b3 t3 T2
  go_wp2_with fail
  go_loopw [6, 7] (fun s i wr => ∃ k : Nat, k ≤ n1 ∧ i = .int .i64 k ∧ Hid (OwnR wr w3.heap.size s (vwRowsAt t u k)) ∧ Hid (Below w3.heap.size w3 wr)) (fun _ i _ => n1 - (intOf i).toNat)
  case atStart => exact ⟨0, by omega, rfl, ownR_nil _ _, Below.refl _ _⟩
  case round =>
    obtain ⟨k, hk, rfl, HO, HN⟩ := hrel
    by_cases hlt : k < n1
    · obtain ⟨b, off, rfl, hc⟩ := T3.out.cell HN.out k (by rw [HN1.out]; exact hlt)
      have HNX := Lib.hid (vwRowsAt_next (t := t) (u := u) (k := k) (by rw [HN1.out]; exact hlt))
      have hrl := vwRowsAt_len t u k
      obtain ⟨cc, hcc⟩ : ∃ c, (roOf t.e u).getD k [] = c := ⟨_, rfl⟩
      rw [hcc] at hc
      replace HNX : Hid (vwRowsAt t u (k + 1) = vwRowsAt t u k ++ (vwRow t u cc).toList) := Lib.hid (by rw [HNX.out, hcc])
      obtain ⟨⟨⟨va, vb, vc, vs⟩, q⟩, hv⟩ : ∃ p, vwVal t u cc = p := ⟨_, rfl⟩
      have HV := Lib.hid hv
      have FW := Lib.hid (upT F.out HN.out)
      have HW := Lib.hid (H.out.later HN.out)
      have CC := Lib.hid hc
      have hkn : (0 : Int) ≤ (k : Int) := by omega
      have hki : (k : Int) < (n1 : Int) := by omega
      clear hcc hv hc
      go_upto_region 8 with fail
      go_cut [8, 9] from 24 to 33 (fun p z wx => ∃ B, p = .pointer (some ⟨B, 0, none⟩) ∧ z = .bool q ∧ Hid (CellsAt wx B 0 [.int .i64 va, .int .i64 vb, .int .i64 vc, .string ⟨vs.toArray⟩]) ∧ Hid (Below wr.heap.size wr wx))
      case first =>
        obtain ⟨BS, hBS⟩ : ∃ BS : List (Nat × List Value), BS = [(w.heap.size, [x, y])] := ⟨_, rfl⟩
        have D0 := Lib.hid (show heldD wr BS b (off + k) (.string ⟨cc.toArray⟩) from ⟨by rw [hBS]; exact heldB_cons (cellsAt_block FW.out) (heldB_nil _), CC.out⟩)
        have hq0 : ∀ X, heldD X BS b (off + k) (.string ⟨cc.toArray⟩) → X.cell? ⟨w.heap.size, 0, none⟩ = some (x) := fun X hx => heldB_get (vs := [x, y]) hx.1 (by rw [hBS]; simp) rfl
        have hq1 : ∀ X, heldD X BS b (off + k) (.string ⟨cc.toArray⟩) → X.cell? ⟨w.heap.size, 1, none⟩ = some (y) := fun X hx => heldB_get (vs := [x, y]) hx.1 (by rw [hBS]; simp) rfl
        have hqt : ∀ X, heldD X BS b (off + k) (.string ⟨cc.toArray⟩) → X.cell? ⟨b, off + k, none⟩ = some (.string ⟨cc.toArray⟩) := fun X hx => hx.2
        clear hBS
        have K0 : Hid (Below wr.heap.size wr wr.drew) := Lib.hid (Below.refl _ _).drew
        refine wp_region_held_drew (S := (fun X => heldD X BS b (off + k) (.string ⟨cc.toArray⟩))) (by kernel_rfl) ?_ (fun hHeld => ?_)
        · exact heldD_up K0.out D0.out
        generalize wr.drew = z0 at K0 hHeld ⊢
        refine wpAnyH_take (i := 0) (oi := { dst := some 25, op := Op.load 25 (Operand.tmp 2), type := 25, pos := "ref.go:38", after := #[], guard := none }) (v := ?_) rfl (by as_aux_lemma => kernel_rfl) (by as_aux_lemma => kernel_rfl) (by as_aux_lemma => kernel_rfl) (fun _ _ _ h => h) (Or.inl ⟨by rfl, ?_⟩) (by assumption) ?_
        rotate_left
        · intro w' hSw
          try dsimp only at hSw
          go_simp
          try with_reducible rfl
        try simp only [Act.put, List.setIfInBounds_toArray, List.set_cons_zero, List.set_cons_succ]
        refine wpAnyH_take (i := 1) (oi := { dst := some 26, op := Op.move (Operand.tmp 1), type := 9, pos := "ref.go:38", after := #[], guard := none }) (v := ?_) rfl (by as_aux_lemma => kernel_rfl) (by as_aux_lemma => kernel_rfl) (by as_aux_lemma => kernel_rfl) (fun _ _ _ h => h) (Or.inl ⟨by rfl, ?_⟩) (by assumption) ?_
        rotate_left
        · intro w' hSw
          try dsimp only at hSw
          go_simp
          try with_reducible rfl
        try simp only [Act.put, List.setIfInBounds_toArray, List.set_cons_zero, List.set_cons_succ]
        refine wpAnyH_take (i := 2) (oi := { dst := some 27, op := Op.move (Operand.tmp 5), type := 37, pos := "ref.go:38", after := #[], guard := none }) (v := ?_) rfl (by as_aux_lemma => kernel_rfl) (by as_aux_lemma => kernel_rfl) (by as_aux_lemma => kernel_rfl) (fun _ _ _ h => h) (Or.inl ⟨by rfl, ?_⟩) (by assumption) ?_
        rotate_left
        · intro w' hSw
          try dsimp only at hSw
          go_simp
          try with_reducible rfl
        try simp only [Act.put, List.setIfInBounds_toArray, List.set_cons_zero, List.set_cons_succ]
        refine wpAnyH_take (i := 3) (oi := { dst := some 28, op := Op.move (Operand.tmp 7), type := 3, pos := "ref.go:38", after := #[], guard := none }) (v := ?_) rfl (by as_aux_lemma => kernel_rfl) (by as_aux_lemma => kernel_rfl) (by as_aux_lemma => kernel_rfl) (fun _ _ _ h => h) (Or.inl ⟨by rfl, ?_⟩) (by assumption) ?_
        rotate_left
        · intro w' hSw
          try dsimp only at hSw
          go_simp
          try with_reducible rfl
        try simp only [Act.put, List.setIfInBounds_toArray, List.set_cons_zero, List.set_cons_succ]
        refine wpAnyH_take (i := 4) (oi := { dst := some 29, op := Op.indexAddr 37 (Operand.tmp 27) (Operand.tmp 28), type := 0, pos := "ref.go:38", after := #[{ on := 2, ground := Ground.data }, { on := 3, ground := Ground.data }], guard := none }) (v := ?_) rfl (by as_aux_lemma => kernel_rfl) (by as_aux_lemma => kernel_rfl) (by as_aux_lemma => kernel_rfl) (fun _ _ _ h => h) (Or.inl ⟨by rfl, ?_⟩) (by assumption) ?_
        rotate_left
        · intro w' hSw
          try dsimp only at hSw
          go_simp
          try with_reducible rfl
        try simp only [Act.put, List.setIfInBounds_toArray, List.set_cons_zero, List.set_cons_succ]
        refine wpAnyH_take (i := 5) (oi := { dst := some 30, op := Op.load 9 (Operand.tmp 29), type := 9, pos := "ref.go:38", after := #[{ on := 4, ground := Ground.data }], guard := none }) (v := ?_) rfl (by as_aux_lemma => kernel_rfl) (by as_aux_lemma => kernel_rfl) (by as_aux_lemma => kernel_rfl) (fun _ _ _ h => h) (Or.inl ⟨by rfl, ?_⟩) (by assumption) ?_
        rotate_left
        · intro w' hSw
          try dsimp only at hSw
          go_simp
          try with_reducible rfl
        try simp only [Act.put, List.setIfInBounds_toArray, List.set_cons_zero, List.set_cons_succ]
        refine wpAnyH_ready (rs := [6, 10]) (by as_aux_lemma => kernel_rfl) (by simp) ?_
        refine AllReadyH.cons (o := { dst := some 31, op := Op.call { callee := Callee.value (Operand.func 66), args := #[Operand.tmp 25, Operand.tmp 26, Operand.tmp 30], argTypes := #[25, 9, 9] }, type := 31, pos := "ref.go:38", after := #[{ on := 0, ground := Ground.data }, { on := 1, ground := Ground.data }, { on := 5, ground := Ground.data }], guard := none }) rfl (fun Kx hK => ?_) (AllReadyH.cons (o := { dst := some 8, op := Op.alloc 30, type := 0, pos := "ref.go:38", after := #[], guard := none }) rfl (fun Kx hK => ?_) (AllReadyH.nil))
        · go_simp
          refine (rvalue15_any (HW.out.later K0.out) hle u cc HV).mono ?_
          rintro e z1 ⟨rfl, bz1⟩
          have K1 := Lib.hid (below2Z K0.out bz1)
          have D1 := Lib.hid (heldD_up K1.out D0.out)
          clear bz1
          go_wp2_with fail
          refine hK.out _ _ ?_ (fun hHeld2 => ?_)
          · exact D1.out
          clear hK Kx hHeld
          have hHeld := hHeld2
          clear hHeld2
          try simp only [Act.put, List.setIfInBounds_toArray, List.set_cons_zero, List.set_cons_succ]
          refine wpAnyH_take (i := 7) (oi := { dst := some 24, op := Op.move (Operand.tmp 31), type := 31, pos := "ref.go:38", after := #[{ on := 6, ground := Ground.data }], guard := none }) (v := ?_) rfl (by as_aux_lemma => kernel_rfl) (by as_aux_lemma => kernel_rfl) (by as_aux_lemma => kernel_rfl) (fun _ _ _ h => h) (Or.inl ⟨by rfl, ?_⟩) (by assumption) ?_
          rotate_left
          · intro w' hSw
            try dsimp only at hSw
            go_simp
            try with_reducible rfl
          try simp only [Act.put, List.setIfInBounds_toArray, List.set_cons_zero, List.set_cons_succ]
          refine wpAnyH_take (i := 8) (oi := { dst := some 32, op := Op.extract (Operand.tmp 24) 0, type := 30, pos := "ref.go:38", after := #[{ on := 7, ground := Ground.data }], guard := none }) (v := ?_) rfl (by as_aux_lemma => kernel_rfl) (by as_aux_lemma => kernel_rfl) (by as_aux_lemma => kernel_rfl) (fun _ _ _ h => h) (Or.inl ⟨by rfl, ?_⟩) (by assumption) ?_
          rotate_left
          · intro w' hSw
            try dsimp only at hSw
            go_simp
            try with_reducible rfl
          try simp only [Act.put, List.setIfInBounds_toArray, List.set_cons_zero, List.set_cons_succ]
          refine wpAnyH_take (i := 9) (oi := { dst := some 33, op := Op.extract (Operand.tmp 24) 1, type := 4, pos := "ref.go:38", after := #[{ on := 7, ground := Ground.data }, { on := 11, ground := Ground.gcOnly Departure.lateStores }], guard := none }) (v := ?_) rfl (by as_aux_lemma => kernel_rfl) (by as_aux_lemma => kernel_rfl) (by as_aux_lemma => kernel_rfl) (fun _ _ _ h => h) (Or.inl ⟨by rfl, ?_⟩) (by assumption) ?_
          rotate_left
          · intro w' hSw
            try dsimp only at hSw
            go_simp
            try with_reducible rfl
          try simp only [Act.put, List.setIfInBounds_toArray, List.set_cons_zero, List.set_cons_succ]
          refine wpAnyH_ready (rs := [10]) (by as_aux_lemma => kernel_rfl) (by simp) ?_
          refine AllReadyH.cons (o := { dst := some 8, op := Op.alloc 30, type := 0, pos := "ref.go:38", after := #[], guard := none }) rfl (fun Kx hK => ?_) AllReadyH.nil
          go_simp
          refine hK.out _ _ ?_ (fun hHeld2 => ?_)
          · exact heldD_up (below2Z K1.out (bl_newZ _ _)) D0.out
          clear hK Kx hHeld
          have hHeld := hHeld2
          clear hHeld2
          try simp only [Act.put, List.setIfInBounds_toArray, List.set_cons_zero, List.set_cons_succ]
          have bz2 := bl_newZ z1 (.cells #[.int .i64 0, .int .i64 0, .int .i64 0, .string ⟨#[]⟩] 30)
          have K2 := Lib.hid (below2Z K1.out bz2)
          have D2 := Lib.hid (heldD_up K2.out D0.out)
          have nz2 := Lib.hid ((MapKept.heap_alloc z1 (.cells #[.int .i64 0, .int .i64 0, .int .i64 0, .string ⟨#[]⟩] 30)).1)
          have hB2 : wr.heap.size ≤ z1.heap.size := (K1.out).size
          clear bz2
          generalize z1.alloc (.cells #[.int .i64 0, .int .i64 0, .int .i64 0, .string ⟨#[]⟩] 30) = z2 at K2 D2 nz2 hHeld ⊢
          generalize z1.heap.size = B2 at nz2 hB2  ⊢
          obtain ⟨⟨r0, r1, r2, r3⟩, ⟨g0, g1, g2, g3⟩⟩ := res4_cells (show Res4 z2 B2 from nz2.out)
          refine wpAnyH_ready (rs := [11]) (by as_aux_lemma => kernel_rfl) (by simp) ?_
          refine AllReadyH.cons (o := { dst := none, op := Op.store 30 (Operand.tmp 8) (Operand.tmp 32), type := 0, pos := "ref.go:38", after := #[{ on := 10, ground := Ground.data }, { on := 8, ground := Ground.data }, { on := 6, ground := Ground.chain }, { on := 0, ground := Ground.phase }, { on := 1, ground := Ground.phase }, { on := 2, ground := Ground.phase }, { on := 3, ground := Ground.phase }, { on := 4, ground := Ground.phase }, { on := 5, ground := Ground.phase }, { on := 6, ground := Ground.phase }, { on := 7, ground := Ground.phase }, { on := 8, ground := Ground.phase }, { on := 9, ground := Ground.textOnly Departure.lateStores }, { on := 10, ground := Ground.phase }], guard := none }) rfl (fun Kx hK => ?_) AllReadyH.nil
          go_simp
          clear r0 r1 r2 r3 g0 g1 g2 g3
          obtain ⟨y0, y1, y2, y3⟩ := set4V (y0 := .int .i64 va) (y1 := .int .i64 vb) (y2 := .int .i64 vc) (y3 := .string ⟨vs.toArray⟩) nz2.out
          have KE := Lib.hid (((((K2.out).setCell (p := ⟨B2, 0, none⟩) hB2 (.int .i64 va)).setCell (p := ⟨B2, 1, none⟩) hB2 (.int .i64 vb)).setCell (p := ⟨B2, 2, none⟩) hB2 (.int .i64 vc)).setCell (p := ⟨B2, 3, none⟩) hB2 (.string ⟨vs.toArray⟩))
          refine hK.out _ _ ?_ (fun hHeld2 => ?_)
          · exact heldD_up KE.out D0.out
          clear hK Kx hHeld
          have hHeld := hHeld2
          clear hHeld2
          refine wpAnyH_take (i := 12) (oi := { dst := some 9, op := Op.assign (Operand.tmp 33), type := 4, pos := "ref.go:38", after := #[{ on := 9, ground := Ground.data }, { on := 11, ground := Ground.chain }, { on := 0, ground := Ground.phase }, { on := 1, ground := Ground.phase }, { on := 2, ground := Ground.phase }, { on := 3, ground := Ground.phase }, { on := 4, ground := Ground.phase }, { on := 5, ground := Ground.phase }, { on := 6, ground := Ground.phase }, { on := 7, ground := Ground.phase }, { on := 8, ground := Ground.phase }, { on := 9, ground := Ground.phase }, { on := 10, ground := Ground.phase }, { on := 11, ground := Ground.phase }], guard := none }) (v := ?_) rfl (by as_aux_lemma => kernel_rfl) (by as_aux_lemma => kernel_rfl) (by as_aux_lemma => kernel_rfl) (fun _ _ _ h => h) (Or.inl ⟨by rfl, ?_⟩) (by assumption) ?_
          rotate_left
          · intro w' hSw
            try dsimp only at hSw
            go_simp
            try with_reducible rfl
          try simp only [Act.put, List.setIfInBounds_toArray, List.set_cons_zero, List.set_cons_succ]
          refine wpAnyH_done (by kernel_rfl) ?_ _
          go_wp2_with fail
          go_meet
          exact ⟨B2, rfl, rfl, Lib.hid (cellsAt_four y0 y1 y2 y3), KE⟩
        · go_simp
          refine hK.out _ _ ?_ (fun hHeld2 => ?_)
          · exact heldD_up (below2Z K0.out (bl_newZ _ _)) D0.out
          clear hK Kx hHeld
          have hHeld := hHeld2
          clear hHeld2
          try simp only [Act.put, List.setIfInBounds_toArray, List.set_cons_zero, List.set_cons_succ]
          have bz4 := bl_newZ z0 (.cells #[.int .i64 0, .int .i64 0, .int .i64 0, .string ⟨#[]⟩] 30)
          have K4 := Lib.hid (below2Z K0.out bz4)
          have D4 := Lib.hid (heldD_up K4.out D0.out)
          have nz4 := Lib.hid ((MapKept.heap_alloc z0 (.cells #[.int .i64 0, .int .i64 0, .int .i64 0, .string ⟨#[]⟩] 30)).1)
          have hB4 : wr.heap.size ≤ z0.heap.size := (K0.out).size
          clear bz4
          generalize z0.alloc (.cells #[.int .i64 0, .int .i64 0, .int .i64 0, .string ⟨#[]⟩] 30) = z4 at K4 D4 nz4 hHeld ⊢
          generalize z0.heap.size = B4 at nz4 hB4  ⊢
          refine wpAnyH_ready (rs := [6]) (by as_aux_lemma => kernel_rfl) (by simp) ?_
          refine AllReadyH.cons (o := { dst := some 31, op := Op.call { callee := Callee.value (Operand.func 66), args := #[Operand.tmp 25, Operand.tmp 26, Operand.tmp 30], argTypes := #[25, 9, 9] }, type := 31, pos := "ref.go:38", after := #[{ on := 0, ground := Ground.data }, { on := 1, ground := Ground.data }, { on := 5, ground := Ground.data }], guard := none }) rfl (fun Kx hK => ?_) AllReadyH.nil
          go_simp
          refine (rvalue15_any (HW.out.later K4.out) hle u cc HV).mono ?_
          rintro e z5 ⟨rfl, bz5⟩
          have K5 := Lib.hid (below2Z K4.out bz5)
          have D5 := Lib.hid (heldD_up K5.out D0.out)
          replace nz4 := Lib.hid (((bz5).block _ (Array.getElem?_eq_some_iff.1 (nz4.out)).1).trans (nz4.out))
          clear bz5
          go_wp2_with fail
          refine hK.out _ _ ?_ (fun hHeld2 => ?_)
          · exact D5.out
          clear hK Kx hHeld
          have hHeld := hHeld2
          clear hHeld2
          try simp only [Act.put, List.setIfInBounds_toArray, List.set_cons_zero, List.set_cons_succ]
          refine wpAnyH_take (i := 7) (oi := { dst := some 24, op := Op.move (Operand.tmp 31), type := 31, pos := "ref.go:38", after := #[{ on := 6, ground := Ground.data }], guard := none }) (v := ?_) rfl (by as_aux_lemma => kernel_rfl) (by as_aux_lemma => kernel_rfl) (by as_aux_lemma => kernel_rfl) (fun _ _ _ h => h) (Or.inl ⟨by rfl, ?_⟩) (by assumption) ?_
          rotate_left
          · intro w' hSw
            try dsimp only at hSw
            go_simp
            try with_reducible rfl
          try simp only [Act.put, List.setIfInBounds_toArray, List.set_cons_zero, List.set_cons_succ]
          refine wpAnyH_take (i := 8) (oi := { dst := some 32, op := Op.extract (Operand.tmp 24) 0, type := 30, pos := "ref.go:38", after := #[{ on := 7, ground := Ground.data }], guard := none }) (v := ?_) rfl (by as_aux_lemma => kernel_rfl) (by as_aux_lemma => kernel_rfl) (by as_aux_lemma => kernel_rfl) (fun _ _ _ h => h) (Or.inl ⟨by rfl, ?_⟩) (by assumption) ?_
          rotate_left
          · intro w' hSw
            try dsimp only at hSw
            go_simp
            try with_reducible rfl
          try simp only [Act.put, List.setIfInBounds_toArray, List.set_cons_zero, List.set_cons_succ]
          refine wpAnyH_take (i := 9) (oi := { dst := some 33, op := Op.extract (Operand.tmp 24) 1, type := 4, pos := "ref.go:38", after := #[{ on := 7, ground := Ground.data }, { on := 11, ground := Ground.gcOnly Departure.lateStores }], guard := none }) (v := ?_) rfl (by as_aux_lemma => kernel_rfl) (by as_aux_lemma => kernel_rfl) (by as_aux_lemma => kernel_rfl) (fun _ _ _ h => h) (Or.inl ⟨by rfl, ?_⟩) (by assumption) ?_
          rotate_left
          · intro w' hSw
            try dsimp only at hSw
            go_simp
            try with_reducible rfl
          try simp only [Act.put, List.setIfInBounds_toArray, List.set_cons_zero, List.set_cons_succ]
          obtain ⟨⟨r0, r1, r2, r3⟩, ⟨g0, g1, g2, g3⟩⟩ := res4_cells (show Res4 z5 B4 from nz4.out)
          refine wpAnyH_ready (rs := [11]) (by as_aux_lemma => kernel_rfl) (by simp) ?_
          refine AllReadyH.cons (o := { dst := none, op := Op.store 30 (Operand.tmp 8) (Operand.tmp 32), type := 0, pos := "ref.go:38", after := #[{ on := 10, ground := Ground.data }, { on := 8, ground := Ground.data }, { on := 6, ground := Ground.chain }, { on := 0, ground := Ground.phase }, { on := 1, ground := Ground.phase }, { on := 2, ground := Ground.phase }, { on := 3, ground := Ground.phase }, { on := 4, ground := Ground.phase }, { on := 5, ground := Ground.phase }, { on := 6, ground := Ground.phase }, { on := 7, ground := Ground.phase }, { on := 8, ground := Ground.phase }, { on := 9, ground := Ground.textOnly Departure.lateStores }, { on := 10, ground := Ground.phase }], guard := none }) rfl (fun Kx hK => ?_) AllReadyH.nil
          go_simp
          clear r0 r1 r2 r3 g0 g1 g2 g3
          obtain ⟨y0, y1, y2, y3⟩ := set4V (y0 := .int .i64 va) (y1 := .int .i64 vb) (y2 := .int .i64 vc) (y3 := .string ⟨vs.toArray⟩) nz4.out
          have KE := Lib.hid (((((K5.out).setCell (p := ⟨B4, 0, none⟩) hB4 (.int .i64 va)).setCell (p := ⟨B4, 1, none⟩) hB4 (.int .i64 vb)).setCell (p := ⟨B4, 2, none⟩) hB4 (.int .i64 vc)).setCell (p := ⟨B4, 3, none⟩) hB4 (.string ⟨vs.toArray⟩))
          refine hK.out _ _ ?_ (fun hHeld2 => ?_)
          · exact heldD_up KE.out D0.out
          clear hK Kx hHeld
          have hHeld := hHeld2
          clear hHeld2
          refine wpAnyH_take (i := 12) (oi := { dst := some 9, op := Op.assign (Operand.tmp 33), type := 4, pos := "ref.go:38", after := #[{ on := 9, ground := Ground.data }, { on := 11, ground := Ground.chain }, { on := 0, ground := Ground.phase }, { on := 1, ground := Ground.phase }, { on := 2, ground := Ground.phase }, { on := 3, ground := Ground.phase }, { on := 4, ground := Ground.phase }, { on := 5, ground := Ground.phase }, { on := 6, ground := Ground.phase }, { on := 7, ground := Ground.phase }, { on := 8, ground := Ground.phase }, { on := 9, ground := Ground.phase }, { on := 10, ground := Ground.phase }, { on := 11, ground := Ground.phase }], guard := none }) (v := ?_) rfl (by as_aux_lemma => kernel_rfl) (by as_aux_lemma => kernel_rfl) (by as_aux_lemma => kernel_rfl) (fun _ _ _ h => h) (Or.inl ⟨by rfl, ?_⟩) (by assumption) ?_
          rotate_left
          · intro w' hSw
            try dsimp only at hSw
            go_simp
            try with_reducible rfl
          try simp only [Act.put, List.setIfInBounds_toArray, List.set_cons_zero, List.set_cons_succ]
          refine wpAnyH_done (by kernel_rfl) ?_ _
          go_wp2_with fail
          go_meet
          exact ⟨B4, rfl, rfl, Lib.hid (cellsAt_four y0 y1 y2 y3), KE⟩
      case rest =>
        obtain ⟨Bv, rfl, rfl, KV, KB⟩ := hcut
        have NB := Lib.hid (below2Z HN.out KB.out)
        have OB := Lib.hid (HO.out.later KB.out)
        have hcc := cell_later CC.out KB.out
        clear KB HO CC FW HW
        cases q with
        | false =>
          have O3 : Hid (OwnR wc w3.heap.size u6 (vwRowsAt t u (k + 1))) := Lib.hid (by rw [HNX.out, vwRow_no (by rw [HV.out]), Option.toList_none, List.append_nil]; exact OB.out)
          clear HNX HV OB hcc KV hkn hki
          go_wp2_with fail
          go_roundw
          case rel => exact ⟨k + 1, by omega, by go_num, O3, NB⟩
          case measure => simp [intOf]; omega
        | true =>
          have HX : Hid (vwRowsAt t u (k + 1) = vwRowsAt t u k ++ [⟨cc, ⟨va, vb, vc, vs⟩⟩]) := Lib.hid (by rw [HNX.out, vwRow_yes HV.out, Option.toList_some])
          have OA := Lib.hid ((World.ownsRow.drew OB.out : OwnR wc.drew w3.heap.size u6 (vwRowsAt t u k)).alloc (.cells #[.string ⟨cc.toArray⟩, .int .i64 va, .int .i64 vb, .int .i64 vc, .string ⟨vs.toArray⟩] 45))
          have NC := Lib.hid (bl_allocS NB.out.drew (.cells #[.string ⟨cc.toArray⟩, .int .i64 va, .int .i64 vb, .int .i64 vc, .string ⟨vs.toArray⟩] 45))
          have hz4 := NC.out.size
          have CR := Lib.hid (new_row (w := wc.drew) (r := ⟨cc, ⟨va, vb, vc, vs⟩⟩) (e := 45) rfl)
          obtain ⟨v0, v1, v2, v3⟩ := fourV KV.out
          have hrl' : (vwRowsAt t u k).length < 4294967 := by omega
          clear HNX HV OB KV
          go_wp2_with fail
          go_region_law (refine step_append_rows rfl (.tmp 35) (.tmp 42) rfl w3.heap.size u6 (vwRowsAt t u k) (by simp [Act.eval]) (by exact OA.out) ⟨cc, ⟨va, vb, vc, vs⟩⟩ wc.heap.size (by simp [Act.eval]) (by exact CR.out) hrl' hz4 ?_; intro v' w' hown' hb')
          all_goals
            rw [← HX.out] at hown'
            have O4 := Lib.hid hown'
            have N4 : Hid (Below w3.heap.size w3 w') := Lib.hid (NC.out.trans hb')
            clear hown' hb' OA CR
            go_wp2_with fail
            go_roundw
            case rel => exact ⟨k + 1, by omega, by go_num, O4, N4⟩
            case measure => simp [intOf]; omega
    · obtain rfl : k = n1 := by omega
      have HT : Hid (OwnR wr w3.heap.size u6 (vwRows t u)) := Lib.hid (by have := HO.out; rw [← HN1.out, vwRowsAt_end] at this; exact this)
      clear HO
      go_wp2_with fail
      go_ret
      exact ⟨_, rfl, HT.out.tab, below2Z HB.out HN.out⟩

/-- P15.2, the document's. -/
theorem rvwof_any {w : World} {x y : Value} {t : Sta} (h : StAt w x y t) (hok : ShortE t.e ∧ ShortS t.s) (hl : t.e.length ≤ 4294967) (u : List UInt8) :
    Calls Tryz.prog 19 #[.agg #[x, y], .string ⟨u.toArray⟩] w fun e w' => ∃ v, e = .returned v ∧ Tab w' v (vwOf t u) ∧ Below w.heap.size w w' := by
  cases hm : stMay t with
  | false =>
    have e : vwOf t u = [] := by unfold vwOf; rw [if_neg (by rw [hm]; simp)]
    rw [e]
    exact rvwof_no h hok hl u hm
  | true =>
    have e : vwOf t u = vwRows t u := by unfold vwOf vwRows; rw [if_pos hm]
    rw [e]
    exact rvwof_yes h hok hl u hm

end Go.Proofs.YtphfinlfabklmaaGreat

end

section

/-
  LAYER 15: what changes between two states, the code's and the document's.
-/
namespace Go.Proofs.YtphfinlfabklmaaGreat
open Go.RowKit

theorem row_short {r : Row} (h : rowOk r = true) : r.c.length ≤ 4294967296 ∧ r.v.st.length ≤ 4294967296 := by
  unfold rowOk at h
  rw [Bool.and_eq_true] at h
  have h1 := (idIs_parts h.1).2.1
  have h2 := h.2
  unfold vaMay stOk at h2
  simp only [Bool.and_eq_true, decide_eq_true_eq] at h2
  have h3 := h2.2.1
  omega

theorem diMay_short {t : List Row} (h : diMay t = true) : Short t := fun r hr => row_short ((diMay_iff.1 h).2.1 r hr)

theorem vwOf_short (t : Sta) (u : List UInt8) : Short (vwOf t u) := by
  cases hm : stMay t with
  | false =>
    have e : vwOf t u = [] := by unfold vwOf; rw [if_neg (by rw [hm]; simp)]
    rw [e]
    intro r hr
    cases hr
  | true => exact diMay_short (vwOf_may hm u)

theorem vwOf_100 (t : Sta) (u : List UInt8) : (vwOf t u).length ≤ 16 := by
  cases hm : stMay t with
  | false =>
    have e : vwOf t u = [] := by unfold vwOf; rw [if_neg (by rw [hm]; simp)]
    rw [e]
    exact Nat.zero_le _
  | true => exact vwOf_len hm u

set_option maxHeartbeats 3200000 in
set_option maxRecDepth 100000 in
theorem vwbetween_any {w : World} {x y p q : Value} {s t : Sta} (h : StAt w x y s) (k : StAt w p q t) (hok : ShortE s.e ∧ ShortS s.s) (kok : ShortE t.e ∧ ShortS t.s) (hl : s.e.length ≤ 4294967) (kl : t.e.length ≤ 4294967) (u : List UInt8) :
    Calls Tryz.prog 24 #[.agg #[x, y], .agg #[p, q], .string ⟨u.toArray⟩] w fun e w' => ∃ v, e = .returned v ∧ Chgs w' v (vwBetween s t u) ∧ Below w.heap.size w w' := by
  have b0 := bl_newZ w (.cells #[x, y] 25)
  have b1 := bl_newZ (w.alloc (.cells #[x, y] 25)) (.cells #[p, q] 25)
  have HB := Lib.hid (below2Z b0 b1)
  have H := Lib.hid ((h.later b0).later b1)
  have K := Lib.hid ((k.later b0).later b1)
  have F := Lib.hid (upT (heap_newT w (.cells #[x, y] 25)) b1)
  have G := heap_newT (w.alloc (.cells #[x, y] 25)) (.cells #[p, q] 25)
  rw [World.size_alloc] at G
  replace G := Lib.hid G
  have HOK := Lib.hid hok
  have KOK := Lib.hid kok
  clear b0 b1 h k hok kok
  go_enter Tryz.func24, Tryz.ntmps24
  go_upto_region 1 with fail
  generalize (w.alloc (.cells #[x, y] 25)).alloc (.cells #[p, q] 25) = W1 at F G H K HB ⊢
  obtain ⟨BS, hBS⟩ : ∃ BS : List (Nat × List Value), BS = [(w.heap.size, [x, y]), (w.heap.size + 1, [p, q])] := ⟨_, rfl⟩
  have D0 := Lib.hid (show heldB W1 BS from by rw [hBS]; exact heldB_cons (cellsAt_block F.out) (heldB_cons (cellsAt_block G.out) (heldB_nil _)))
  have hq0 : ∀ X, heldB X BS → X.cell? ⟨w.heap.size, 0, none⟩ = some (x) := fun X hx => heldB_get (vs := [x, y]) hx (by rw [hBS]; simp) rfl
  have hq1 : ∀ X, heldB X BS → X.cell? ⟨w.heap.size, 1, none⟩ = some (y) := fun X hx => heldB_get (vs := [x, y]) hx (by rw [hBS]; simp) rfl
  have hq2 : ∀ X, heldB X BS → X.cell? ⟨w.heap.size + 1, 0, none⟩ = some (p) := fun X hx => heldB_get (vs := [p, q]) hx (by rw [hBS]; simp) rfl
  have hq3 : ∀ X, heldB X BS → X.cell? ⟨w.heap.size + 1, 1, none⟩ = some (q) := fun X hx => heldB_get (vs := [p, q]) hx (by rw [hBS]; simp) rfl
  clear hBS
  have K0 : Hid (Below W1.heap.size W1 W1.drew) := Lib.hid (Below.refl _ _).drew
  refine wp_region_held_drew (S := (fun X => heldB X BS)) (by kernel_rfl) ?_ (fun hHeld => ?_)
  · exact heldB_up K0.out D0.out
  generalize W1.drew = z0 at K0 hHeld ⊢
  refine wpAnyH_take (i := 0) (oi := { dst := some 7, op := Op.load 25 (Operand.tmp 3), type := 25, pos := "view.go:49", after := #[], guard := none }) (v := ?_) rfl (by as_aux_lemma => kernel_rfl) (by as_aux_lemma => kernel_rfl) (by as_aux_lemma => kernel_rfl) (fun _ _ _ h => h) (Or.inl ⟨by rfl, ?_⟩) (by assumption) ?_
  rotate_left
  · intro w' hSw
    try dsimp only at hSw
    go_simp
    try with_reducible rfl
  try simp only [Act.put, List.setIfInBounds_toArray, List.set_cons_zero, List.set_cons_succ]
  refine wpAnyH_take (i := 1) (oi := { dst := some 8, op := Op.move (Operand.tmp 2), type := 9, pos := "view.go:49", after := #[], guard := none }) (v := ?_) rfl (by as_aux_lemma => kernel_rfl) (by as_aux_lemma => kernel_rfl) (by as_aux_lemma => kernel_rfl) (fun _ _ _ h => h) (Or.inl ⟨by rfl, ?_⟩) (by assumption) ?_
  rotate_left
  · intro w' hSw
    try dsimp only at hSw
    go_simp
    try with_reducible rfl
  try simp only [Act.put, List.setIfInBounds_toArray, List.set_cons_zero, List.set_cons_succ]
  refine wpAnyH_take (i := 3) (oi := { dst := some 10, op := Op.load 25 (Operand.tmp 4), type := 25, pos := "view.go:49", after := #[], guard := none }) (v := ?_) rfl (by as_aux_lemma => kernel_rfl) (by as_aux_lemma => kernel_rfl) (by as_aux_lemma => kernel_rfl) (fun _ _ _ h => h) (Or.inl ⟨by rfl, ?_⟩) (by assumption) ?_
  rotate_left
  · intro w' hSw
    try dsimp only at hSw
    go_simp
    try with_reducible rfl
  try simp only [Act.put, List.setIfInBounds_toArray, List.set_cons_zero, List.set_cons_succ]
  refine wpAnyH_take (i := 4) (oi := { dst := some 11, op := Op.move (Operand.tmp 2), type := 9, pos := "view.go:49", after := #[], guard := none }) (v := ?_) rfl (by as_aux_lemma => kernel_rfl) (by as_aux_lemma => kernel_rfl) (by as_aux_lemma => kernel_rfl) (fun _ _ _ h => h) (Or.inl ⟨by rfl, ?_⟩) (by assumption) ?_
  rotate_left
  · intro w' hSw
    try dsimp only at hSw
    go_simp
    try with_reducible rfl
  try simp only [Act.put, List.setIfInBounds_toArray, List.set_cons_zero, List.set_cons_succ]
  refine wpAnyH_ready (rs := [2]) (by as_aux_lemma => kernel_rfl) (by simp) ?_
  refine AllReadyH.cons (o := { dst := some 9, op := Op.call { callee := Callee.value (Operand.func 18), args := #[Operand.tmp 7, Operand.tmp 8], argTypes := #[25, 9] }, type := 34, pos := "view.go:49", after := #[{ on := 0, ground := Ground.data }, { on := 1, ground := Ground.data }], guard := none }) rfl (fun Kx hK => ?_) AllReadyH.nil
  go_simp
  refine (vwof_any (H.out.later K0.out) HOK.out hl u).mono ?_
  rintro e z1 ⟨v1, rfl, ho1, bz1⟩
  have K1 := Lib.hid (below2Z K0.out bz1)
  have D1 := Lib.hid (heldB_up K1.out D0.out)
  have T1 := Lib.hid ho1.tab
  clear ho1
  clear bz1
  go_wp2_with fail
  refine hK.out _ _ ?_ (fun hHeld2 => ?_)
  · exact D1.out
  clear hK Kx hHeld
  have hHeld := hHeld2
  clear hHeld2
  try simp only [Act.put, List.setIfInBounds_toArray, List.set_cons_zero, List.set_cons_succ]
  refine wpAnyH_ready (rs := [5]) (by as_aux_lemma => kernel_rfl) (by simp) ?_
  refine AllReadyH.cons (o := { dst := some 12, op := Op.call { callee := Callee.value (Operand.func 18), args := #[Operand.tmp 10, Operand.tmp 11], argTypes := #[25, 9] }, type := 34, pos := "view.go:49", after := #[{ on := 3, ground := Ground.data }, { on := 4, ground := Ground.data }, { on := 2, ground := Ground.chain }], guard := none }) rfl (fun Kx hK => ?_) AllReadyH.nil
  go_simp
  refine (vwof_any (K.out.later K1.out) KOK.out kl u).mono ?_
  rintro e z2 ⟨v2, rfl, ho2, bz2⟩
  have K2 := Lib.hid (below2Z K1.out bz2)
  have D2 := Lib.hid (heldB_up K2.out D0.out)
  replace T1 := Lib.hid (Tab.later T1.out bz2)
  have T2 := Lib.hid ho2.tab
  clear ho2
  clear bz2
  go_wp2_with fail
  refine hK.out _ _ ?_ (fun hHeld2 => ?_)
  · exact D2.out
  clear hK Kx hHeld
  have hHeld := hHeld2
  clear hHeld2
  try simp only [Act.put, List.setIfInBounds_toArray, List.set_cons_zero, List.set_cons_succ]
  refine wpAnyH_ready (rs := [6]) (by as_aux_lemma => kernel_rfl) (by simp) ?_
  refine AllReadyH.cons (o := { dst := some 13, op := Op.call { callee := Callee.value (Operand.func 73), args := #[Operand.tmp 9, Operand.tmp 12], argTypes := #[34, 34] }, type := 40, pos := "view.go:49", after := #[{ on := 2, ground := Ground.data }, { on := 5, ground := Ground.data }, { on := 5, ground := Ground.chain }], guard := none }) rfl (fun Kx hK => ?_) AllReadyH.nil
  go_simp
  refine (changes_any T1.out T2.out (vwOf_short s u) (vwOf_short t u) (by have := vwOf_100 s u; omega) (by have := vwOf_100 t u; omega)).mono ?_
  rintro e z3 ⟨v3, rfl, ho3, bz3⟩
  have K3 := Lib.hid (below2Z K2.out bz3)
  have D3 := Lib.hid (heldB_up K3.out D0.out)
  replace T1 := Lib.hid (Tab.later T1.out bz3)
  replace T2 := Lib.hid (Tab.later T2.out bz3)
  have T3 := Lib.hid ho3
  clear ho3
  clear bz3
  go_wp2_with fail
  refine hK.out _ _ ?_ (fun hHeld2 => ?_)
  · exact D3.out
  clear hK Kx hHeld
  have hHeld := hHeld2
  clear hHeld2
  try simp only [Act.put, List.setIfInBounds_toArray, List.set_cons_zero, List.set_cons_succ]
  refine wpAnyH_take (i := 7) (oi := { dst := some 6, op := Op.assign (Operand.tmp 13), type := 40, pos := "view.go:49", after := #[{ on := 6, ground := Ground.data }, { on := 6, ground := Ground.chain }, { on := 0, ground := Ground.phase }, { on := 1, ground := Ground.phase }, { on := 2, ground := Ground.phase }, { on := 3, ground := Ground.phase }, { on := 4, ground := Ground.phase }, { on := 5, ground := Ground.phase }, { on := 6, ground := Ground.phase }], guard := none }) (v := ?_) rfl (by as_aux_lemma => kernel_rfl) (by as_aux_lemma => kernel_rfl) (by as_aux_lemma => kernel_rfl) (fun _ _ _ h => h) (Or.inl ⟨by rfl, ?_⟩) (by assumption) ?_
  rotate_left
  · intro w' hSw
    try dsimp only at hSw
    go_simp
    try with_reducible rfl
  try simp only [Act.put, List.setIfInBounds_toArray, List.set_cons_zero, List.set_cons_succ]
  refine wpAnyH_done (by kernel_rfl) ?_ _
  replace HB := Lib.hid (below2Z HB.out K3.out)
  go_wp2_with fail
  go_ret
  exact ⟨_, rfl, T3.out, HB.out⟩

set_option maxHeartbeats 3200000 in
set_option maxRecDepth 100000 in
theorem rvwbetween_any {w : World} {x y p q : Value} {s t : Sta} (h : StAt w x y s) (k : StAt w p q t) (hok : ShortE s.e ∧ ShortS s.s) (kok : ShortE t.e ∧ ShortS t.s) (hl : s.e.length ≤ 4294967) (kl : t.e.length ≤ 4294967) (u : List UInt8) :
    Calls Tryz.prog 25 #[.agg #[x, y], .agg #[p, q], .string ⟨u.toArray⟩] w fun e w' => ∃ v, e = .returned v ∧ Chgs w' v (vwBetween s t u) ∧ Below w.heap.size w w' := by
  have b0 := bl_newZ w (.cells #[x, y] 25)
  have b1 := bl_newZ (w.alloc (.cells #[x, y] 25)) (.cells #[p, q] 25)
  have HB := Lib.hid (below2Z b0 b1)
  have H := Lib.hid ((h.later b0).later b1)
  have K := Lib.hid ((k.later b0).later b1)
  have F := Lib.hid (upT (heap_newT w (.cells #[x, y] 25)) b1)
  have G := heap_newT (w.alloc (.cells #[x, y] 25)) (.cells #[p, q] 25)
  rw [World.size_alloc] at G
  replace G := Lib.hid G
  have HOK := Lib.hid hok
  have KOK := Lib.hid kok
  clear b0 b1 h k hok kok
  go_enter Tryz.func25, Tryz.ntmps25
  go_upto_region 1 with fail
  generalize (w.alloc (.cells #[x, y] 25)).alloc (.cells #[p, q] 25) = W1 at F G H K HB ⊢
  obtain ⟨BS, hBS⟩ : ∃ BS : List (Nat × List Value), BS = [(w.heap.size, [x, y]), (w.heap.size + 1, [p, q])] := ⟨_, rfl⟩
  have D0 := Lib.hid (show heldB W1 BS from by rw [hBS]; exact heldB_cons (cellsAt_block F.out) (heldB_cons (cellsAt_block G.out) (heldB_nil _)))
  have hq0 : ∀ X, heldB X BS → X.cell? ⟨w.heap.size, 0, none⟩ = some (x) := fun X hx => heldB_get (vs := [x, y]) hx (by rw [hBS]; simp) rfl
  have hq1 : ∀ X, heldB X BS → X.cell? ⟨w.heap.size, 1, none⟩ = some (y) := fun X hx => heldB_get (vs := [x, y]) hx (by rw [hBS]; simp) rfl
  have hq2 : ∀ X, heldB X BS → X.cell? ⟨w.heap.size + 1, 0, none⟩ = some (p) := fun X hx => heldB_get (vs := [p, q]) hx (by rw [hBS]; simp) rfl
  have hq3 : ∀ X, heldB X BS → X.cell? ⟨w.heap.size + 1, 1, none⟩ = some (q) := fun X hx => heldB_get (vs := [p, q]) hx (by rw [hBS]; simp) rfl
  clear hBS
  have K0 : Hid (Below W1.heap.size W1 W1.drew) := Lib.hid (Below.refl _ _).drew
  refine wp_region_held_drew (S := (fun X => heldB X BS)) (by kernel_rfl) ?_ (fun hHeld => ?_)
  · exact heldB_up K0.out D0.out
  generalize W1.drew = z0 at K0 hHeld ⊢
  refine wpAnyH_take (i := 0) (oi := { dst := some 7, op := Op.load 25 (Operand.tmp 3), type := 25, pos := "ref.go:56", after := #[], guard := none }) (v := ?_) rfl (by as_aux_lemma => kernel_rfl) (by as_aux_lemma => kernel_rfl) (by as_aux_lemma => kernel_rfl) (fun _ _ _ h => h) (Or.inl ⟨by rfl, ?_⟩) (by assumption) ?_
  rotate_left
  · intro w' hSw
    try dsimp only at hSw
    go_simp
    try with_reducible rfl
  try simp only [Act.put, List.setIfInBounds_toArray, List.set_cons_zero, List.set_cons_succ]
  refine wpAnyH_take (i := 1) (oi := { dst := some 8, op := Op.move (Operand.tmp 2), type := 9, pos := "ref.go:56", after := #[], guard := none }) (v := ?_) rfl (by as_aux_lemma => kernel_rfl) (by as_aux_lemma => kernel_rfl) (by as_aux_lemma => kernel_rfl) (fun _ _ _ h => h) (Or.inl ⟨by rfl, ?_⟩) (by assumption) ?_
  rotate_left
  · intro w' hSw
    try dsimp only at hSw
    go_simp
    try with_reducible rfl
  try simp only [Act.put, List.setIfInBounds_toArray, List.set_cons_zero, List.set_cons_succ]
  refine wpAnyH_take (i := 3) (oi := { dst := some 10, op := Op.load 25 (Operand.tmp 4), type := 25, pos := "ref.go:56", after := #[], guard := none }) (v := ?_) rfl (by as_aux_lemma => kernel_rfl) (by as_aux_lemma => kernel_rfl) (by as_aux_lemma => kernel_rfl) (fun _ _ _ h => h) (Or.inl ⟨by rfl, ?_⟩) (by assumption) ?_
  rotate_left
  · intro w' hSw
    try dsimp only at hSw
    go_simp
    try with_reducible rfl
  try simp only [Act.put, List.setIfInBounds_toArray, List.set_cons_zero, List.set_cons_succ]
  refine wpAnyH_take (i := 4) (oi := { dst := some 11, op := Op.move (Operand.tmp 2), type := 9, pos := "ref.go:56", after := #[], guard := none }) (v := ?_) rfl (by as_aux_lemma => kernel_rfl) (by as_aux_lemma => kernel_rfl) (by as_aux_lemma => kernel_rfl) (fun _ _ _ h => h) (Or.inl ⟨by rfl, ?_⟩) (by assumption) ?_
  rotate_left
  · intro w' hSw
    try dsimp only at hSw
    go_simp
    try with_reducible rfl
  try simp only [Act.put, List.setIfInBounds_toArray, List.set_cons_zero, List.set_cons_succ]
  refine wpAnyH_ready (rs := [2]) (by as_aux_lemma => kernel_rfl) (by simp) ?_
  refine AllReadyH.cons (o := { dst := some 9, op := Op.call { callee := Callee.value (Operand.func 19), args := #[Operand.tmp 7, Operand.tmp 8], argTypes := #[25, 9] }, type := 34, pos := "ref.go:56", after := #[{ on := 0, ground := Ground.data }, { on := 1, ground := Ground.data }], guard := none }) rfl (fun Kx hK => ?_) AllReadyH.nil
  go_simp
  refine (rvwof_any (H.out.later K0.out) HOK.out hl u).mono ?_
  rintro e z1 ⟨v1, rfl, ho1, bz1⟩
  have K1 := Lib.hid (below2Z K0.out bz1)
  have D1 := Lib.hid (heldB_up K1.out D0.out)
  have T1 := Lib.hid ho1
  clear ho1
  clear bz1
  go_wp2_with fail
  refine hK.out _ _ ?_ (fun hHeld2 => ?_)
  · exact D1.out
  clear hK Kx hHeld
  have hHeld := hHeld2
  clear hHeld2
  try simp only [Act.put, List.setIfInBounds_toArray, List.set_cons_zero, List.set_cons_succ]
  refine wpAnyH_ready (rs := [5]) (by as_aux_lemma => kernel_rfl) (by simp) ?_
  refine AllReadyH.cons (o := { dst := some 12, op := Op.call { callee := Callee.value (Operand.func 19), args := #[Operand.tmp 10, Operand.tmp 11], argTypes := #[25, 9] }, type := 34, pos := "ref.go:56", after := #[{ on := 3, ground := Ground.data }, { on := 4, ground := Ground.data }, { on := 2, ground := Ground.chain }], guard := none }) rfl (fun Kx hK => ?_) AllReadyH.nil
  go_simp
  refine (rvwof_any (K.out.later K1.out) KOK.out kl u).mono ?_
  rintro e z2 ⟨v2, rfl, ho2, bz2⟩
  have K2 := Lib.hid (below2Z K1.out bz2)
  have D2 := Lib.hid (heldB_up K2.out D0.out)
  replace T1 := Lib.hid (Tab.later T1.out bz2)
  have T2 := Lib.hid ho2
  clear ho2
  clear bz2
  go_wp2_with fail
  refine hK.out _ _ ?_ (fun hHeld2 => ?_)
  · exact D2.out
  clear hK Kx hHeld
  have hHeld := hHeld2
  clear hHeld2
  try simp only [Act.put, List.setIfInBounds_toArray, List.set_cons_zero, List.set_cons_succ]
  refine wpAnyH_ready (rs := [6]) (by as_aux_lemma => kernel_rfl) (by simp) ?_
  refine AllReadyH.cons (o := { dst := some 13, op := Op.call { callee := Callee.value (Operand.func 74), args := #[Operand.tmp 9, Operand.tmp 12], argTypes := #[34, 34] }, type := 40, pos := "ref.go:56", after := #[{ on := 2, ground := Ground.data }, { on := 5, ground := Ground.data }, { on := 5, ground := Ground.chain }], guard := none }) rfl (fun Kx hK => ?_) AllReadyH.nil
  go_simp
  refine (rchanges_any T1.out T2.out (vwOf_short s u) (vwOf_short t u) (by have := vwOf_100 s u; omega) (by have := vwOf_100 t u; omega)).mono ?_
  rintro e z3 ⟨v3, rfl, ho3, bz3⟩
  have K3 := Lib.hid (below2Z K2.out bz3)
  have D3 := Lib.hid (heldB_up K3.out D0.out)
  replace T1 := Lib.hid (Tab.later T1.out bz3)
  replace T2 := Lib.hid (Tab.later T2.out bz3)
  have T3 := Lib.hid ho3
  clear ho3
  clear bz3
  go_wp2_with fail
  refine hK.out _ _ ?_ (fun hHeld2 => ?_)
  · exact D3.out
  clear hK Kx hHeld
  have hHeld := hHeld2
  clear hHeld2
  try simp only [Act.put, List.setIfInBounds_toArray, List.set_cons_zero, List.set_cons_succ]
  refine wpAnyH_take (i := 7) (oi := { dst := some 6, op := Op.assign (Operand.tmp 13), type := 40, pos := "ref.go:56", after := #[{ on := 6, ground := Ground.data }, { on := 6, ground := Ground.chain }, { on := 0, ground := Ground.phase }, { on := 1, ground := Ground.phase }, { on := 2, ground := Ground.phase }, { on := 3, ground := Ground.phase }, { on := 4, ground := Ground.phase }, { on := 5, ground := Ground.phase }, { on := 6, ground := Ground.phase }], guard := none }) (v := ?_) rfl (by as_aux_lemma => kernel_rfl) (by as_aux_lemma => kernel_rfl) (by as_aux_lemma => kernel_rfl) (fun _ _ _ h => h) (Or.inl ⟨by rfl, ?_⟩) (by assumption) ?_
  rotate_left
  · intro w' hSw
    try dsimp only at hSw
    go_simp
    try with_reducible rfl
  try simp only [Act.put, List.setIfInBounds_toArray, List.set_cons_zero, List.set_cons_succ]
  refine wpAnyH_done (by kernel_rfl) ?_ _
  replace HB := Lib.hid (below2Z HB.out K3.out)
  go_wp2_with fail
  go_ret
  exact ⟨_, rfl, T3.out, HB.out⟩

end Go.Proofs.YtphfinlfabklmaaGreat

end

section

/-
  THE CONTRACT OF live OF LAYER 3's STATEMENTS: it returns true.
-/
namespace Go.Proofs.YtphfinlfabklmaaGreat
open Go.RowKit

/-- A row of texts that is built with what it holds. -/
theorem texts_made (w : World) (T : TypeId) (B : Nat) (hB : B = w.heap.size) (ls : List (List UInt8)) (hl : ls.length ≤ 100) (A : Array Value) (hA : A = (ls.map encS).toArray) (n : Nat) (hn : n = ls.length) :
    Texts (w.alloc (.cells A T)) (.slice (some ⟨B, 0, none⟩) n n) ls := by
  subst hB hA hn
  refine ⟨_, _, rfl, Nat.le_refl _, by unfold maxLen; omega, (fun e => by cases e), .inr ⟨_, _, rfl, by simp, fun i hi => ?_⟩⟩
  rw [World.cell?_alloc_at _ _ _ _ rfl, Nat.zero_add]
  simp [List.getD, List.getElem?_eq_getElem hi]

theorem i1 : Hid (idFold [65, 110, 110, 45, 50] = ([97, 110, 110, 45, 50], true)) := by show _ = _; decide +kernel
theorem i2 : Hid (idFold [50, 97, 110, 110] = ([], false)) := by show _ = _; decide +kernel
theorem i3 : Hid (idPut [98, 111, 98] = ([3, 98, 111, 98], true)) := by show _ = _; decide +kernel
theorem i4 : Hid (idPut [66, 111, 98] = ([], false)) := by show _ = _; decide +kernel
theorem i5 : Hid (idTake [120, 3, 98, 111, 98] 1 = ([98, 111, 98], 5, 0)) := by show _ = _; kernel_rfl
end Go.Proofs.YtphfinlfabklmaaGreat

end

section

/-
  A ROW OF ERRORS' NUMBERS THAT IS MADE, AND WRITTEN ONE BY ONE; one that is read.
-/
namespace Go.Proofs.YtphfinlfabklmaaGreat
open Go.RowKit

/-- A row of numbers that may be written. -/
def RowN (w : World) (B : Nat) (u : List Int) : Prop := w.heap[B]? = some (.cells (u.map (Value.int .i64)).toArray 52 (0, 0))

theorem RowN.lt {w : World} {B : Nat} {u : List Int} (h : RowN w B u) : B < w.heap.size := (Array.getElem?_eq_some_iff.1 h).1

theorem RowN.at {w : World} {B : Nat} {u : List Int} (h : RowN w B u) (j : Nat) (hj : j < u.length) : w.cell? ⟨B, j, none⟩ = some (.int .i64 (u.getD j 0)) ∧ w.frozen? ⟨B, j, none⟩ = false := by
  refine ⟨?_, frozen_of_row w B j _ _ h⟩
  refine (cell_of_row w B j _ _ (0, 0) h).trans ?_
  simp [List.getD, hj]

theorem RowN.set {w : World} {B : Nat} {u : List Int} (h : RowN w B u) (j : Nat) (x : Int) : RowN (w.setCell ⟨B, j, none⟩ (.int .i64 x)) B (u.set j x) := by
  have := heap_setCell_same w B j _ _ (.int .i64 x) h
  unfold RowN
  rw [this]
  simp [List.map_set]

theorem RowN.later {w w' : World} {B : Nat} {u : List Int} (h : RowN w B u) (hb : Below w.heap.size w w') : RowN w' B u := (hb.block B h.lt).trans h

def numVals (n : Int) : List Value := [.int .i64 n]

theorem numOK : RowOK Tryz.prog numVals 1 0 52 99 (.int .i64 0) 8 where
  len _ := rfl
  one a u hu := by
    simp only [numVals, List.mem_cons, List.not_mem_nil, or_false] at hu
    rcases hu with rfl
    rfl
  pos := by decide
  small := by decide
  under := Tryz.underlying99
  info := by kernel_rfl
  zvals := rfl
  fits := by decide

/-- A slice of numbers that may be read. -/
abbrev Nums (w : World) (v : Value) (u : List Int) : Prop := RdS numVals 1 0 w v u

theorem Nums.at {w wr : World} {a : Option Addr} {n cap : Nat} {u : List Int} (h : Nums w (.slice a n cap) u) (hb : Below w.heap.size w wr) (k : Nat) (hk : k < u.length) :
    ∃ b off, a = some ⟨b, off, none⟩ ∧ wr.cell? ⟨b, off + k, none⟩ = some (.int .i64 (u.getD k 0)) := by
  obtain ⟨b, off, e, hc⟩ := RdS.row h hb k hk
  have h0 := hc 0 _ rfl
  rw [Nat.mul_one] at h0
  exact ⟨b, off, e, h0⟩

/-- The numbers up to k, and noughts behind. -/
def numAt (t : List Int) (k : Nat) : List Int := t.take k ++ List.replicate (t.length - k) 0

end Go.Proofs.YtphfinlfabklmaaGreat

end

section

/-
  KEYS THAT ARE TWO TEXTS: what a map's key of type [2]string stands for; unlike pairs have unlike keys.
-/
namespace Go.Proofs.YtphfinlfabklmaaGreat
open Go.RowKit Go.ChangeMaps Go.MapKept

def pkV (a b : List UInt8) : Value := .agg #[.string ⟨a.toArray⟩, .string ⟨b.toArray⟩]

/-- The literal of a pair. -/
def pkL (a b : List UInt8) : Lit := .string (keyBytes [.string a, .string b])

end Go.Proofs.YtphfinlfabklmaaGreat

end

section

/-
  LAYER 8: a map from pairs of names to items; what Do makes of the two items; for RostMay.
-/
namespace Go.Proofs.YtphfinlfabklmaaGreat
open Go.RowKit Go.ChangeMaps Go.MapKept

/-- How an item reads as a map's element. -/
def itData (i : It) : DataW Unit := .agg [.lit (.bool i.to), .lit (.bool i.fr), .lit (.bool i.out), .lit (.bool i.inn), .lit (.bool i.bl)]

def itElem : Value → Option (DataW Unit × List MemPlace)
  | .agg cs => match cs.toList with
    | [.bool a, .bool b, .bool c, .bool d, .bool e] => some (itData ⟨a, b, c, d, e⟩, [])
    | _ => none
  | _ => none

/-- Block B is a map that holds the item of each pair of names. -/
def ItemsAt (w : World) (B n : Nat) (g : List UInt8 → List UInt8 → It) : Prop :=
  ∃ m, ∃ D : DataW Unit, m ≤ n ∧ w.ownsMap Tryz.prog 26 itElem B m D ∧ ∀ a b : List UInt8, a.length ≤ 40 → b.length ≤ 40 → D.atKey (pkL a b) (itData It.zero) = itData (g a b)

theorem ItemsAt.lt {w : World} {B n : Nat} {g : List UInt8 → List UInt8 → It} (h : ItemsAt w B n g) : B < w.heap.size := by
  obtain ⟨_, _, _, h, _⟩ := h
  exact h.lt

theorem ItemsAt.later {w w' : World} {B n : Nat} {g : List UInt8 → List UInt8 → It} (h : ItemsAt w B n g) (hb : Below w.heap.size w w') : ItemsAt w' B n g := by
  have hlt := h.lt
  obtain ⟨m, D, h1, ⟨es, clock, h2, h3, h4, h5⟩, h6⟩ := h
  exact ⟨m, D, h1, ⟨es, clock, (hb.block B hlt).trans h2, h3, h4, h5⟩, h6⟩

theorem ItemsAt.isMap {w : World} {B n : Nat} {g : List UInt8 → List UInt8 → It} (h : ItemsAt w B n g) : ∃ es clock, w.heap[B]? = some (.map es clock) := by
  obtain ⟨_, _, _, ⟨es, clock, h2, _⟩, _⟩ := h
  exact ⟨es, clock, h2⟩

def layI (g : List UInt8 → List UInt8 → It) (a b : List UInt8) (i : It) : List UInt8 → List UInt8 → It := fun x y => if x = a ∧ y = b then i else g x y

/-- Entries stay where a map turns. -/
theorem Ents.grown {w w' : World} {v : Value} {l : List Ent} (h : Ents w v l) {B : Nat} (hm : ∃ es clock, w.heap[B]? = some (.map es clock)) (hg : w.grownBy w' (some B)) : Ents w' v l := by
  obtain ⟨es, clock, hm⟩ := hm
  obtain ⟨a, cap, h1, h2, h3, h4, h5⟩ := h
  refine ⟨a, cap, h1, h2, h3, h4, ?_⟩
  rcases h5 with h5 | ⟨b, off, e, hlt, hc⟩
  · exact .inl h5
  · refine .inr ⟨b, off, e, Nat.lt_of_lt_of_le hlt hg.size, fun i hi => ?_⟩
    have hbB : b ≠ B := by
      rintro rfl
      have := (hc i hi).1
      simp [World.cell?, hm] at this
    have hb := hg.block b hlt (fun e => hbB (by injection e))
    have key : ∀ j u, w.cell? ⟨b, j, none⟩ = some u → w'.cell? ⟨b, j, none⟩ = some u := by
      intro j u hu
      simp only [World.cell?, hb] at hu ⊢
      exact hu
    obtain ⟨g0, g1, g2, g3, g4, g5, g6⟩ := hc i hi
    exact ⟨key _ _ g0, key _ _ g1, key _ _ g2, key _ _ g3, key _ _ g4, key _ _ g5, key _ _ g6⟩

theorem roM_short {l : List Ent} (h : RoM l) : ShortE l := fun e he => by
  have h1 := (h.2 e he).1
  have h2 := (h.2 e he).2.1
  have k1 := (idIs_parts h1).2.1
  have k2 := (idIs_parts h2).2.1
  exact ⟨by omega, by omega⟩

theorem roDo_len2 {l m : List Ent} {k : Int} {u o : List UInt8} (h : roDo l k u o = (m, 0)) : m.length ≤ l.length + 2 := by
  obtain ⟨hm, _, _, _, _, _, a, b, _, _, rfl⟩ := roDo_ok h
  have hr : Rise l := hm.1
  have key : ∀ (t : List Ent) (x : Ent) (keep : Bool), Rise t → (roSet t x keep).length ≤ t.length + 1 := by
    intro t x keep ht
    cases keep with
    | true => rw [roSet_keep ht]; exact putO_le t x
    | false => rw [roSet_drop]; exact Nat.le_trans (dropO_le t x) (Nat.le_succ _)
  have h1 := key l ⟨u, o, a⟩ (!(suEmpty a && suEmpty b)) hr
  have h2 := key (roSet l ⟨u, o, a⟩ (!(suEmpty a && suEmpty b))) ⟨o, u, b⟩ (!(suEmpty a && suEmpty b)) (roSet_rise hr _ _)
  omega

end Go.Proofs.YtphfinlfabklmaaGreat

end

section

/-
  LAYER 14, THE CODE: All.
-/
namespace Go.Proofs.YtphfinlfabklmaaGreat
open Go.RowKit

/-- What the contracts of layer 14 want of a state. -/
def StOK (t : Sta) : Prop := ShortE t.e ∧ ShortS t.s

theorem seOne_st {s : Ses} (h : seOne s = true) : s.v.st.length ≤ 32 := by
  unfold seOne at h
  simp only [Bool.and_eq_true] at h
  have h2 : vaMay s.v = true := h.2.2.2
  unfold vaMay stOk at h2
  simp only [Bool.and_eq_true, decide_eq_true_eq] at h2
  exact h2.2.1

theorem seMay_short {l : List Ses} (h : seMay l = true) : ShortS l := fun s hs => by
  have h1 := (seMay_rise h).2.2 s hs
  unfold seOne at h1
  simp only [Bool.and_eq_true] at h1
  have h2 := (idIs_parts h1.1).2.1
  have h3 : s.v.st.length ≤ 32 := seOne_st ((seMay_rise h).2.2 s hs)
  exact ⟨by omega, by omega⟩

theorem stOK_may {t : Sta} (h : stMay t = true) : StOK t := by
  unfold stMay at h
  rw [Bool.and_eq_true] at h
  exact ⟨roM_short (roMay_iff.1 h.1), seMay_short h.2⟩

theorem stOK_next {t t' : Sta} {e : Ev} {n : Nat} (h : StOK t) (hd : stApply t e = (t', n)) : StOK t' := by
  by_cases hn : n = 0
  · subst hn
    exact stOK_may (stApply_may hd)
  · rw [stApply_err hd hn]
    exact h

theorem stLen_next {t t' : Sta} {e : Ev} {n : Nat} (hd : stApply t e = (t', n)) : t'.e.length ≤ t.e.length + 2 := by
  by_cases hn : n = 0
  · subst hn
    obtain ⟨_, h⟩ := stApply_ok hd
    rcases h with ⟨_, _, h, _⟩ | ⟨_, _, h⟩ | ⟨_, _, h⟩
    · exact roDo_len2 h
    · rw [h]; omega
    · rw [h]; omega
  · rw [stApply_err hd hn]
    omega

theorem stAll_take {t : Sta} {l : List Ev} {k : Nat} (hk : k < l.length) : (stAll t (l.take (k + 1))).1 = (stApply (stAll t (l.take k)).1 (l.getD k Ev.zero)).1 := by
  rw [List.take_add_one, List.getElem?_eq_getElem hk, List.getD_eq_getElem?_getD, List.getElem?_eq_getElem hk, Option.toList_some, stAll_snoc]
  rfl

/-- The numbers that All tells. -/
def numsOf (t : Sta) (l : List Ev) : List Int := (stAll t l).2.map fun (n : Nat) => (n : Int)

theorem numsOf_len (t : Sta) (l : List Ev) : (numsOf t l).length = l.length := by unfold numsOf; rw [List.length_map, stAll_len]

theorem eightAt {X : World} {B off : Nat} {k id a b c : Int} {u o st : List UInt8} (h : CellsAt X B off (evVals ⟨k, u, o, id, ⟨a, b, c, st⟩⟩)) :
    X.cell? ⟨B, off, none⟩ = some (.int .i64 k) ∧ X.cell? ⟨B, off + 1, none⟩ = some (.string ⟨u.toArray⟩) ∧ X.cell? ⟨B, off + 2, none⟩ = some (.string ⟨o.toArray⟩) ∧ X.cell? ⟨B, off + 3, none⟩ = some (.int .i64 id) ∧ X.cell? ⟨B, off + 4, none⟩ = some (.int .i64 a) ∧ X.cell? ⟨B, off + 5, none⟩ = some (.int .i64 b) ∧ X.cell? ⟨B, off + 6, none⟩ = some (.int .i64 c) ∧ X.cell? ⟨B, off + 7, none⟩ = some (.string ⟨st.toArray⟩) :=
  ⟨h 0 _ rfl, h 1 _ rfl, h 2 _ rfl, h 3 _ rfl, h 4 _ rfl, h 5 _ rfl, h 6 _ rfl, h 7 _ rfl⟩

/-- Texts that the contracts serve. -/
def evShort (e : Ev) : Prop := e.u.length ≤ 4294967296 ∧ e.o.length ≤ 4294967296 ∧ e.v.st.length ≤ 4294967296

theorem evgetD {l : List Ev} {i : Nat} (h : i < l.length) : l.getD i Ev.zero = l[i] := by
  rw [List.getD_eq_getElem?_getD, List.getElem?_eq_getElem h]; rfl

end Go.Proofs.YtphfinlfabklmaaGreat

end
