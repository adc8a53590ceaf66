/-
  TEXTS OF THE PROOF, one behind the other: LnkToldP, HeldC.
-/
import Derived.Test.YtndicdomdndjaaaGreatL10
import Derived.Test.YtndicdomdndjaaaGreatL05

section

/-
  LAYER 18, PLAIN: what a table comes to, frame by frame.
-/
namespace Go.Proofs.YtndicdomdndjaaaGreat
open Go.RowKit

/-- What is known of a frame that may be, by its kind. -/
theorem frMay_ways {f : Frm} (h : frMay f = true) (hk : f.k ≤ 3) :
    (f.k = 1 ∧ f.sum = 0 ∧ f.t = [] ∧ idIs f.c = true ∧ (if f.on = true then vaMay f.v else vSame f.v Val.zero) = true) ∨ (f.k = 2 ∧ f.on = false ∧ f.c = [] ∧ f.v = Val.zero ∧ f.t = []) ∨ (f.k = 3 ∧ f.on = false ∧ f.c = [] ∧ f.v = Val.zero ∧ f.sum = 0 ∧ diMay f.t = true) := by
  unfold frMay at h
  simp only [Bool.and_eq_true, decide_eq_true_eq] at h
  obtain ⟨⟨k1, _⟩, _, hr⟩ := h
  unfold frRest at hr
  by_cases e1 : f.k = 1
  · rw [if_pos e1] at hr
    simp only [Bool.and_eq_true, decide_eq_true_eq] at hr
    exact .inl ⟨e1, hr.1, List.length_eq_zero_iff.1 hr.2.1, hr.2.2.1, hr.2.2.2⟩
  · rw [if_neg e1] at hr
    by_cases e2 : f.k = 2
    · rw [if_pos e2] at hr
      simp only [Bool.and_eq_true, decide_eq_true_eq, Bool.not_eq_true', beq_iff_eq] at hr
      exact .inr (.inl ⟨e2, hr.1.1, hr.1.2.1, vSame_iff.1 hr.1.2.2, List.length_eq_zero_iff.1 hr.2⟩)
    · rw [if_neg e2] at hr
      have e3 : f.k = 3 := by omega
      rw [if_pos e3] at hr
      simp only [Bool.and_eq_true, decide_eq_true_eq, Bool.not_eq_true', beq_iff_eq] at hr
      exact .inr (.inr ⟨e3, hr.1.1, hr.1.2.1, vSame_iff.1 hr.1.2.2, hr.2.1, hr.2.2⟩)

theorem row_shortL {r : Row} (h : rowOk r = true) : r.c.length ≤ 4294967296 ∧ r.v.st.length ≤ 4294967296 := by
  unfold rowOk at h
  rw [Bool.and_eq_true] at h
  have h1 := (idIs_parts h.1).2.1
  have h2 := h.2
  unfold vaMay stOk at h2
  simp only [Bool.and_eq_true, decide_eq_true_eq] at h2
  have h3 := h2.2.1
  omega

theorem diMay_shortL {t : List Row} (h : diMay t = true) : Short t ∧ t.length ≤ 32 := ⟨fun r hr => row_shortL ((diMay_iff.1 h).2.1 r hr), (diMay_iff.1 h).1⟩

theorem chg_small {f : Frm} (h : idIs f.c = true) (h2 : (if f.on = true then vaMay f.v else vSame f.v Val.zero) = true) : f.c.length ≤ 60 ∧ f.v.st.length ≤ 100 := by
  have h1 := (idIs_parts h).2.1
  split at h2
  · unfold vaMay stOk at h2
    simp only [Bool.and_eq_true, decide_eq_true_eq] at h2
    have h3 := h2.2.1
    omega
  · have := vSame_iff.1 h2
    rw [this]
    exact ⟨by omega, by decide⟩

/-- One frame more. -/
theorem has_step {has : List Row} {f : Frm} {n : Nat} (hs : Short has) (hl : has.length ≤ 40 + n) (h : frMay f = true) (hk : f.k ≤ 3) : Short (lnHas has f) ∧ (lnHas has f).length ≤ 40 + (n + 1) := by
  unfold lnHas
  rcases frMay_ways h hk with ⟨k, _, _, i1, i2⟩ | ⟨k, _⟩ | ⟨k, _, _, _, _, d⟩
  · rw [if_neg (by omega), if_pos k]
    obtain ⟨c1, c2⟩ := chg_small i1 i2
    refine ⟨set_short hs c1 c2, ?_⟩
    have := setAll_len [(⟨f.c, f.on, f.v⟩ : Chg)] has
    simp only [setAll, List.foldl_cons, List.foldl_nil, List.length_cons, List.length_nil] at this
    omega
  · rw [if_neg (by omega), if_neg (by omega)]
    exact ⟨hs, by omega⟩
  · rw [if_pos k]
    obtain ⟨d1, d2⟩ := diMay_shortL d
    exact ⟨d1, by omega⟩

theorem has_take {fs : List Frm} {has : List Row} (hs : Short has) (hl : has.length ≤ 40) (hf : ∀ i, i < fs.length → frMay (fs.getD i Frm.zero) = true ∧ (fs.getD i Frm.zero).k ≤ 3) : ∀ j, j ≤ fs.length → Short ((fs.take j).foldl lnHas has) ∧ ((fs.take j).foldl lnHas has).length ≤ 40 + j
  | 0, _ => ⟨hs, hl⟩
  | j + 1, hj => by
    obtain ⟨h1, h2⟩ := has_take hs hl hf j (by omega)
    have e : fs.take (j + 1) = fs.take j ++ [fs.getD j Frm.zero] := by
      rw [List.take_succ_eq_append_getElem (show j < fs.length by omega), List.getD_eq_getElem?_getD, List.getElem?_eq_getElem (show j < fs.length by omega)]
      rfl
    rw [e, List.foldl_append, List.foldl_cons, List.foldl_nil]
    exact has_step h1 h2 (hf j (by omega)).1 (hf j (by omega)).2

theorem has_next {fs : List Frm} {has : List Row} {j : Nat} (hj : j < fs.length) : (fs.take (j + 1)).foldl lnHas has = lnHas ((fs.take j).foldl lnHas has) (fs.getD j Frm.zero) := by
  have e : fs.take (j + 1) = fs.take j ++ [fs.getD j Frm.zero] := by
    rw [List.take_succ_eq_append_getElem hj, List.getD_eq_getElem?_getD, List.getElem?_eq_getElem hj]
    rfl
  rw [e, List.foldl_append, List.foldl_cons, List.foldl_nil]

/-- How many rows there can be in the end. -/
theorem run_rows {c : Cfg} {view : List Row} {now : Int} : ∀ (n b : Nat) (l : Lnk) (has : List Row), view.length ≤ b → has.length ≤ b → ((lnRun c view now n l).2.foldl lnHas has).length + (lnRun c view now n l).1.q.l.length ≤ b + l.q.l.length
  | 0, b, l, has, _, h => by simp [lnRun]; exact h
  | n + 1, b, l, has, hv, h => by
    cases hs : lnStep c view now l with
    | none => rw [run_none hs]; simp; exact h
    | some p =>
      obtain ⟨f, m⟩ := p
      rw [run_some hs]
      simp only [List.foldl_cons]
      obtain ⟨f0, m0, hT, rfl, rfl, _, _⟩ := step_ways hs
      rcases tell_ways hT with ⟨_, rfl, rfl⟩ | ⟨_, x, r, hq, rfl, rfl⟩ | ⟨_, hq, _, rfl, rfl⟩
      · refine Nat.le_trans (run_rows n b _ _ hv ?_) ?_
        · exact hv
        · show b + 0 ≤ _
          omega
      · have hl := setAll_len [x] has
        simp only [setAll, List.foldl_cons, List.foldl_nil, List.length_cons, List.length_nil] at hl
        refine Nat.le_trans (run_rows n (b + 1) _ _ (by omega) ?_) ?_
        · show (diSet has x).length ≤ b + 1
          omega
        · rw [hq]
          show b + 1 + r.length ≤ b + (r.length + 1)
          omega
      · exact run_rows n b _ _ hv h

/-- All that the walk wants of what is told. -/
theorem told_all {c : Cfg} {l M : Lnk} {has view : List Row} {now : Int} {fs : List Frm} (h1 : lnMay c l = true) (hh : diMay has = true) (h2 : diMay view = true) (h3 : pcTime now = true) (hv : setAll has l.q.l = view) (hE : lnEmit c l view now = (M, fs)) :
    (∀ i, i < fs.length → frMay (fs.getD i Frm.zero) = true ∧ (fs.getD i Frm.zero).k ≤ 3 ∧ ((fs.getD i Frm.zero).k = 2 → (fs.getD i Frm.zero).sum = diSum ((fs.take i).foldl lnHas has))) ∧ fs.length ≤ 64 ∧
    setAll (fs.foldl lnHas has) M.q.l = view ∧ (fs.foldl lnHas has).length ≤ 60 ∧ lnMay c M = true := by
  rw [emit_run h1 h2 h3] at hE
  obtain ⟨r1, r2, r3, r4⟩ := run_may h2 h3 65 l h1
  obtain ⟨t1, t2⟩ := run_told (c := c) (now := now) 65 l has hv
  have hb := (pcLev_ge (now := now) (lnMay_iff.1 h1).1).2.1
  have h64 := (pcMay_iff.1 (pcOne_iff.1 (lnMay_iff.1 h1).1).1).2.2.2.1
  have hge := (pcLev_ge (now := now) (lnMay_iff.1 r1).1).1
  have hrows := run_rows (c := c) (now := now) 65 32 l has (diMay_iff.1 h2).1 (diMay_iff.1 hh).1
  have hql := (lnMay_short h1).2.1
  rw [hE] at r1 r3 r4 t1 t2 hrows hge
  simp only at r1 r3 r4 t1 t2 hrows hge
  refine ⟨fun i hi => ?_, by omega, t1, by omega, r1⟩
  have e : fs.getD i Frm.zero = fs[i] := by rw [List.getD_eq_getElem?_getD, List.getElem?_eq_getElem hi]; rfl
  rw [e]
  exact ⟨(r4 i hi).1, (r4 i hi).2.2, t2 i hi⟩

theorem has_short {fs : List Frm} {has : List Row} (hh : diMay has = true) (hf : ∀ i, i < fs.length → frMay (fs.getD i Frm.zero) = true ∧ (fs.getD i Frm.zero).k ≤ 3) {j : Nat} (hj : j ≤ fs.length) (h64 : fs.length ≤ 64) : Short ((fs.take j).foldl lnHas has) ∧ ((fs.take j).foldl lnHas has).length ≤ 1000 := by
  obtain ⟨d1, d2⟩ := diMay_shortL hh
  obtain ⟨a, b⟩ := has_take d1 (by omega) hf j hj
  exact ⟨a, by omega⟩

theorem setAll_short {t : List Row} {l : List Chg} (h : Short t) (hs : ∀ c ∈ l, c.c.length ≤ 60 ∧ c.v.st.length ≤ 100) : Short (setAll t l) := by
  induction l generalizing t with
  | nil => exact h
  | cons c r ih => exact ih (set_short h (hs c (by simp)).1 (hs c (by simp)).2) (fun d hd => hs d (by simp [hd]))

theorem setAll_all (fs : List Frm) (has : List Row) : (fs.take fs.length).foldl lnHas has = fs.foldl lnHas has := by rw [List.take_length]

theorem rset_eqL {w : World} {v : Value} {t : List Row} (hv : Tab w v t) (hl : t.length ≤ 1000) (c st : List UInt8) (on : Bool) (a b d : Int) :
    Calls Tryz.prog 31 #[v, .agg #[.string ⟨c.toArray⟩, .bool on, .int .i64 a, .int .i64 b, .int .i64 d, .string ⟨st.toArray⟩]] w fun e w' => ∃ u, e = .returned u ∧ Tab w' u (diSet t ⟨c, on, ⟨a, b, d, st⟩⟩) ∧ Below w.heap.size w w' :=
  (rset_any hv hl ⟨c, on, ⟨a, b, d, st⟩⟩).mono fun _ _ ⟨u, h1, h2, h3⟩ => ⟨u, h1, h2.tab, h3⟩

end Go.Proofs.YtndicdomdndjaaaGreat

end

section

/-
  A FEW CELLS THAT A DRAWN REGION READS, KEPT THROUGH ITS CALLS: over any program.
-/
namespace Go.Proofs.YtndicdomdndjaaaGreat
open Go.RowKit

/-- Cells that a drawn region reads. -/
def heldC (X : World) (cs : List (Nat × Nat × Value)) : Prop := ∀ p ∈ cs, X.cell? ⟨p.1, p.2.1, none⟩ = some p.2.2

theorem heldC_nil (X : World) : heldC X [] := fun p h => by cases h
theorem heldC_cons {X : World} {b o : Nat} {v : Value} {cs : List (Nat × Nat × Value)} (h : X.cell? ⟨b, o, none⟩ = some v) (ht : heldC X cs) : heldC X ((b, o, v) :: cs) := fun p hp => by
  rcases List.mem_cons.1 hp with rfl | hp
  · exact h
  · exact ht p hp
theorem heldC_up {W X : World} {cs : List (Nat × Nat × Value)} (hb : Below W.heap.size W X) (h : heldC W cs) : heldC X cs := fun p hp => cellLaterZ (h p hp) hb
theorem heldC_get {X : World} {cs : List (Nat × Nat × Value)} (h : heldC X cs) {b o : Nat} {v : Value} (hm : (b, o, v) ∈ cs) : X.cell? ⟨b, o, none⟩ = some v := h _ hm

end Go.Proofs.YtndicdomdndjaaaGreat

end
