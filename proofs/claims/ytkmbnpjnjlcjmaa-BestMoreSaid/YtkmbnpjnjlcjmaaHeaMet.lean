/-
  LAYER 10: ids that were met, as a map[int]bool; the last call of an id; a heap in which just these are put.
-/
import Derived.Test.YtkmbnpjnjlcjmaaHeaOps
import Derived.Test.YtkmbnpjnjlcjmaaHeaEq
namespace Go.Proofs.Ytkmbnpjnjlcjmaa
open Go.RowKit Go.ChangeMaps Go.MapKept

/-- Block M is a map of the ids that were met; k ids. -/
def MetAt (w : World) (M : Nat) (f : Int → Bool) (k : Nat) : Prop :=
  ∃ D : DataW Unit, w.ownsMap Try.prog 3 (plainElem Try.prog 4) M k D ∧ (∀ id : Int, D.atKey (.int .i64 id) (.lit (.bool false)) = .lit (.bool (f id)))

theorem metAt_made (w : World) : MetAt (w.alloc (.map #[] 0)) w.heap.size (fun _ => false) 0 :=
  ⟨.map [], World.ownsMap_made w _ _ _, fun _ => rfl⟩

theorem MetAt.kept {w w' : World} {M : Nat} {f : Int → Bool} {k : Nat} (h : MetAt w M f k) (hb : w'.heap[M]? = w.heap[M]?) : MetAt w' M f k := by
  obtain ⟨D, ⟨es, clock, h2, h3, h4, h5⟩, h6⟩ := h
  exact ⟨D, ⟨es, clock, hb.trans h2, h3, h4, h5⟩, h6⟩

theorem MetAt.lt {w : World} {M : Nat} {f : Int → Bool} {k : Nat} (h : MetAt w M f k) : M < w.heap.size := by
  obtain ⟨D, h1, _⟩ := h
  exact h1.lt

theorem MetAt.later {w w' : World} {M : Nat} {f : Int → Bool} {k : Nat} (h : MetAt w M f k) (hb : Below w.heap.size w w') : MetAt w' M f k := h.kept (hb.block _ h.lt)

theorem zeroBoolM (w : World) : (zeroValue 4).run Try.prog w = .ok (.bool false) w := by kernel_rfl

theorem plainElem_bool_invM {P : Program} {e : TypeId} (he : P.underlying e = some .bool) {v : Value} {z : DataW Unit × List MemPlace} (h : plainElem P e v = some z) : ∃ x, v = .bool x ∧ z = (.lit (.bool x), []) := by
  unfold plainElem at h
  rw [he] at h
  cases v <;> simp at h
  exact ⟨_, rfl, h.symm⟩

theorem MetAt.look {w : World} {M : Nat} {f : Int → Bool} {k : Nat} (h : MetAt w M f k) (id : Int) (hid : (Lit.int .i64 id).wf = true) {r : Bool} (hr : f id = r) :
    (Instr.lookup 46 (.map (some M)) (.int .i64 id) false).run Try.prog w = .ok (.bool r) w := by
  obtain ⟨D, h1, h2⟩ := h
  obtain ⟨v, ps, hrun, hv⟩ := h1.lookup (Maps.int_keyed Try.underlying3) Try.underlying46 (zeroBoolM w) (plainElem_bool Try.underlying4 false) (key_int id hid)
  rw [h2 id, hr] at hv
  obtain ⟨c, rfl, hc⟩ := plainElem_bool_invM Try.underlying4 hv
  simp only [Prod.mk.injEq, DataW.lit.injEq, Lit.bool.injEq] at hc
  rw [hc.1]
  exact hrun

theorem MetAt.add {w : World} {M : Nat} {f : Int → Bool} {k : Nat} (h : MetAt w M f k) (hk : k < 1000000) (id : Int) (hid : (Lit.int .i64 id).wf = true) :
    ∃ w', (Instr.mapUpdate 46 (.map (some M)) (.int .i64 id) (.bool true)).run Try.prog w = .ok () w' ∧ MetAt w' M (fun x => decide (x = id) || f x) (k + 1) ∧ w.mapTurned w' M := by
  obtain ⟨D, h1, h3⟩ := h
  have hT := h1.tidy (Maps.int_keyed Try.underlying3)
  obtain ⟨w', hrun, hown, hturn⟩ := h1.store (Maps.int_keyed Try.underlying3) Try.underlying46 (by unfold maxLen; omega) (key_int id hid) (plainElem_bool (H := Unit) Try.underlying4 true)
  refine ⟨w', hrun, ⟨_, hown, fun x => ?_⟩, hturn⟩
  by_cases e : x = id
  · subst e
    rw [Maps.atKey_put_same hT.isMap (show WideAt.IsKeyLit (.int .i64 x) from True.intro)]
    simp
  · have hne : (Lit.int .i64 x) ≠ .int .i64 id := fun h => e (by injection h)
    rw [Maps.atKey_put_other hne, h3 x]
    simp [e]

/-! ### the last call of an id -/

def lastOp : List HOp → Int → Option HOp
  | [], _ => none
  | o :: l, id => match lastOp l id with
    | some x => some x
    | none => if o.id = id then some o else none

theorem lastOp_snoc (l : List HOp) (o : HOp) (id : Int) : lastOp (l ++ [o]) id = if o.id = id then some o else lastOp l id := by
  induction l with
  | nil => simp [lastOp]
  | cons a l ih =>
    simp only [List.cons_append, lastOp, ih]
    by_cases h : o.id = id
    · simp [h]
    · simp [h]

theorem lastOp_id {l : List HOp} {id : Int} {o : HOp} (h : lastOp l id = some o) : o.id = id ∧ o ∈ l := by
  induction l with
  | nil => simp [lastOp] at h
  | cons a l ih =>
    simp only [lastOp] at h
    cases hl : lastOp l id with
    | some x =>
      rw [hl] at h
      simp only [Option.some.injEq] at h
      subst h
      obtain ⟨h1, h2⟩ := ih hl
      exact ⟨h1, List.mem_cons_of_mem _ h2⟩
    | none =>
      rw [hl] at h
      simp only at h
      split at h
      · next e => obtain rfl := Option.some.inj h; exact ⟨e, by simp⟩
      · cases h

/-- The slots whose ids were put last. -/
def Puts (l : List HOp) (s : Sl) : Prop := ∃ o, lastOp l s.id = some o ∧ o.act ≠ 1 ∧ o.sl = s

theorem mem_slPut {L : List Sl} (ho : Once L) (s x : Sl) : x ∈ slPut L s ↔ x = s ∨ (x ∈ L ∧ x.id ≠ s.id) := by
  unfold slPut
  cases hs : spot L s.id with
  | none =>
    simp only
    rw [List.mem_append, List.mem_singleton]
    constructor
    · rintro (h | h)
      · refine .inr ⟨h, fun e => ?_⟩
        obtain ⟨i, hi, rfl⟩ := List.getElem_of_mem h
        have := spot_none hs i hi
        rw [at0_get hi] at this
        exact this e
      · exact .inl h
    · rintro (h | h)
      · exact .inr h
      · exact .inl h.1
  | some p =>
    obtain ⟨h1, h2⟩ := spot_some hs
    simp only
    have hp := set_perm s h1
    have key := hp.mem_iff (a := x)
    simp only [List.mem_cons] at key
    have hmem : at0 L p ∈ L := by rw [at0_get h1]; exact List.getElem_mem h1
    have hon : Once (at0 L p :: L.set p s) ∨ True := .inr trivial
    constructor
    · intro h
      rcases key.1 (.inr h) with e | e
      · exact .inl e
      · by_cases e2 : x = s
        · exact .inl e2
        · refine .inr ⟨e, fun e3 => ?_⟩
          obtain ⟨i, hi, rfl⟩ := List.getElem_of_mem h
          rw [List.length_set] at hi
          have hi' : (L.set p s)[i]'(by rw [List.length_set]; exact hi) = at0 (L.set p s) i := (at0_get (by rw [List.length_set]; exact hi)).symm
          rw [hi', set_at _ _ h1] at e2 e3
          by_cases e4 : i = p
          · rw [if_pos e4] at e2; exact e2 rfl
          · rw [if_neg e4] at e3
            exact e4 (once_inj ho hi h1 (e3.trans h2.symm))
    · rintro (h | ⟨h, hne⟩)
      · rw [h]; exact List.mem_set h1 s
      · rcases key.2 (.inr h) with e | e
        · exact absurd (by rw [e]; exact h2) hne
        · exact e

theorem once_slPut {L : List Sl} (ho : Once L) (s : Sl) : Once (slPut L s) := by
  unfold slPut
  cases hs : spot L s.id with
  | none => exact once_new ho hs
  | some p =>
    obtain ⟨h1, h2⟩ := spot_some hs
    show Once (L.set p s)
    unfold Once
    rw [map_set_id h1 h2]
    exact ho

theorem once_slDel {L : List Sl} (ho : Once L) (id : Int) : Once (slDel L id) := by
  unfold Once slDel at *
  exact ho.sublist ((List.filter_sublist).map _)

theorem mem_slDel (L : List Sl) (id : Int) (x : Sl) : x ∈ slDel L id ↔ x ∈ L ∧ x.id ≠ id := by
  unfold slDel
  rw [List.mem_filter]
  simp

theorem once_stepS {L : List Sl} (ho : Once L) (o : HOp) : Once (stepS L o) := by
  unfold stepS
  split
  · exact once_slDel ho _
  · exact once_slPut ho _

/-- What was called leaves the slots that were put last. -/
theorem runS_puts : ∀ (k : Nat) (l : List HOp), k ≤ l.length → Once (runS (l.take k)) ∧ ∀ s, s ∈ runS (l.take k) ↔ Puts (l.take k) s
  | 0, l, _ => ⟨by simp [runS, Once], fun s => by simp [runS, Puts, lastOp]⟩
  | k + 1, l, hk => by
    obtain ⟨h1, h2⟩ := runS_puts k l (by omega)
    have hk' : k < l.length := by omega
    have ht : l.take (k + 1) = l.take k ++ [l.getD k HOp.zero] := by
      rw [List.take_succ_eq_append_getElem hk', List.getD_eq_getElem?_getD, List.getElem?_eq_getElem hk']
      rfl
    rw [runS_next hk']
    refine ⟨once_stepS h1 _, fun s => ?_⟩
    generalize l.getD k HOp.zero = o at ht
    unfold Puts
    rw [ht, lastOp_snoc]
    unfold stepS
    by_cases ha : o.act = 1
    · rw [if_pos ha, mem_slDel, h2 s]
      by_cases e : o.id = s.id
      · rw [if_pos e]
        constructor
        · rintro ⟨_, h⟩; exact absurd e.symm h
        · rintro ⟨x, hx, h3, _⟩
          obtain rfl := Option.some.inj hx
          exact absurd ha h3
      · rw [if_neg e]
        constructor
        · rintro ⟨h, _⟩; exact h
        · intro h; exact ⟨h, fun e' => e e'.symm⟩
    · rw [if_neg ha, mem_slPut h1, h2 s]
      by_cases e : o.id = s.id
      · rw [if_pos e]
        constructor
        · rintro (rfl | ⟨_, h⟩)
          · exact ⟨o, rfl, ha, rfl⟩
          · exact absurd e.symm h
        · rintro ⟨x, hx, _, h4⟩
          obtain rfl := Option.some.inj hx
          exact .inl h4.symm
      · rw [if_neg e]
        constructor
        · rintro (rfl | ⟨h, _⟩)
          · exact absurd rfl e
          · exact h
        · intro h; exact .inr ⟨h, fun e' => e e'.symm⟩

/-- Going back from the end: what has been met, and put, by then. -/
def BackAt (l : List HOp) (k : Nat) (f : Int → Bool) (R : List Sl) : Prop :=
  Once R ∧ (∀ id, f id = (lastOp (l.drop k) id).isSome) ∧ ∀ s, s ∈ R ↔ Puts (l.drop k) s

theorem backAt_end (l : List HOp) : BackAt l l.length (fun _ => false) [] := by
  refine ⟨by simp [Once], fun id => by simp [lastOp], fun s => by simp [Puts, lastOp]⟩

theorem backAt_next {l : List HOp} {k : Nat} (hk : k < l.length) {f : Int → Bool} {R : List Sl} (h : BackAt l (k + 1) f R) {o : HOp} (ho : l.getD k HOp.zero = o) :
    BackAt l k (fun x => decide (x = o.id) || f x) (if f o.id = false ∧ o.act ≠ 1 then slPut R o.sl else R) := by
  obtain ⟨h1, h2, h3⟩ := h
  have hd : l.drop k = o :: l.drop (k + 1) := by
    rw [List.drop_eq_getElem_cons hk, ← ho, List.getD_eq_getElem?_getD, List.getElem?_eq_getElem hk]
    rfl
  refine ⟨?_, fun id => ?_, fun s => ?_⟩
  · split
    · exact once_slPut h1 _
    · exact h1
  · show (decide (id = o.id) || f id) = _
    rw [hd, h2 id]
    simp only [lastOp]
    cases lastOp (l.drop (k + 1)) id with
    | some x => simp
    | none =>
      by_cases e : o.id = id
      · simp [e]
      · have : ¬ id = o.id := fun e' => e e'.symm
        simp [e, this]
  · unfold Puts
    rw [hd]
    simp only [lastOp]
    by_cases hc : f o.id = false ∧ o.act ≠ 1
    · rw [if_pos hc, mem_slPut h1, h3 s]
      have hn : lastOp (l.drop (k + 1)) o.id = none := by
        have := h2 o.id
        rw [hc.1] at this
        cases hl : lastOp (l.drop (k + 1)) o.id with
        | none => rfl
        | some x => rw [hl] at this; cases this
      by_cases e : o.id = s.id
      · rw [← e, hn]
        simp only [if_true]
        constructor
        · rintro (rfl | ⟨_, h⟩)
          · exact ⟨o, rfl, hc.2, rfl⟩
          · exact absurd rfl h
        · rintro ⟨x, hx, _, h4⟩
          obtain rfl := Option.some.inj hx
          exact .inl h4.symm
      · constructor
        · rintro (rfl | ⟨⟨x, hx, h5, h6⟩, _⟩)
          · exact absurd rfl e
          · rw [hx]; exact ⟨x, rfl, h5, h6⟩
        · intro h
          refine .inr ⟨?_, fun e' => e e'.symm⟩
          cases hl : lastOp (l.drop (k + 1)) s.id with
          | some x => rw [hl] at h; obtain ⟨y, hy, h5, h6⟩ := h; exact ⟨y, by rw [hl]; exact hy, h5, h6⟩
          | none => rw [hl] at h; simp only [if_neg e] at h; obtain ⟨y, hy, _⟩ := h; cases hy
    · rw [if_neg hc, h3 s]
      constructor
      · rintro ⟨x, hx, h5, h6⟩
        rw [hx]; exact ⟨x, rfl, h5, h6⟩
      · intro h
        cases hl : lastOp (l.drop (k + 1)) s.id with
        | some x => rw [hl] at h; obtain ⟨y, hy, h5, h6⟩ := h; exact ⟨y, by rw [hl]; exact hy, h5, h6⟩
        | none =>
          rw [hl] at h
          simp only at h
          by_cases e : o.id = s.id
          · rw [if_pos e] at h
            obtain ⟨y, hy, h5, _⟩ := h
            obtain rfl := Option.some.inj hy
            exfalso
            apply hc
            refine ⟨?_, h5⟩
            rw [h2, e, hl]
            rfl
          · rw [if_neg e] at h
            obtain ⟨y, hy, _⟩ := h
            cases hy

/-- .. at the front: the same slots. -/
theorem backAt_perm {l : List HOp} {f : Int → Bool} {R : List Sl} (h : BackAt l 0 f R) : R.Perm (runS l) := by
  obtain ⟨h1, _, h3⟩ := h
  obtain ⟨g1, g2⟩ := runS_puts l.length l (Nat.le_refl _)
  rw [List.take_length] at g1 g2
  rw [List.drop_zero] at h3
  have nd : ∀ {L : List Sl}, Once L → L.Nodup := fun h => by
    unfold Once at h
    rw [List.nodup_iff_pairwise_ne] at h ⊢
    exact (List.pairwise_map.1 h).imp fun hne e => hne (by rw [e])
  exact (List.perm_ext_iff_of_nodup (nd h1) (nd g1)).2 fun s => (h3 s).trans (g2 s).symm

end Go.Proofs.Ytkmbnpjnjlcjmaa
