/-
  LAYER 10, THE CODE: a heap by what was put into it, in whatever order it stands.
-/
import Derived.Test.YtkmbnpjnjlcjmaaHeaDrop
namespace Go.Proofs.Ytkmbnpjnjlcjmaa
open Go.RowKit

/-- A heap that holds the slots L, in some order. -/
def HpAt (w : World) (base B : Nat) (v : Value) (M : Nat) (L : List Sl) : Prop := ∃ m, HOk w base B v M m ∧ HeapOK m ∧ m.Perm L

theorem HpAt.later {w w' : World} {base B : Nat} {v : Value} {M : Nat} {L : List Sl} (h : HpAt w base B v M L) (hb : Below w.heap.size w w') : HpAt w' base B v M L := by
  obtain ⟨m, h1, h2⟩ := h
  exact ⟨m, h1.later hb, h2⟩

theorem HpAt.spared {w w' : World} {base B : Nat} {v : Value} {M : Nat} {L : List Sl} (h : HpAt w base B v M L) (hs : Spared w w' B M v) : HpAt w' base B v M L := by
  obtain ⟨m, h1, h2⟩ := h
  exact ⟨m, ⟨h1.hat.spared hs, h1.once, h1.fits, h1.few⟩, h2⟩

theorem HpAt.once {w : World} {base B : Nat} {v : Value} {M : Nat} {L : List Sl} (h : HpAt w base B v M L) : Once L ∧ Fits L ∧ L.length ≤ 1000 := by
  obtain ⟨m, h1, h2, h3⟩ := h
  exact ⟨once_perm h3.symm h1.once, fun s hs => h1.fits s (h3.mem_iff.2 hs), by rw [← h3.length_eq]; exact h1.few⟩

/-- The one of an id. -/
theorem perm_spot {m L : List Sl} (hp : m.Perm L) (_hm : Once m) (hL : Once L) (id : Int) :
    (spot m id = none ∧ spot L id = none) ∨ ∃ p q, spot m id = some p ∧ spot L id = some q ∧ at0 m p = at0 L q := by
  cases hs : spot m id with
  | none =>
    refine .inl ⟨rfl, spot_none_iff.2 fun q hq h => ?_⟩
    have : at0 L q ∈ m := hp.mem_iff.2 (by rw [at0_get hq]; exact List.getElem_mem hq)
    obtain ⟨i, hi, he⟩ := List.getElem_of_mem this
    have h2 := spot_none hs i hi
    rw [at0_get hi, he] at h2
    exact h2 h
  | some p =>
    obtain ⟨h1, h2⟩ := spot_some hs
    have : at0 m p ∈ L := hp.mem_iff.1 (by rw [at0_get h1]; exact List.getElem_mem h1)
    obtain ⟨q, hq, he⟩ := List.getElem_of_mem this
    refine .inr ⟨p, q, rfl, ?_, ?_⟩
    · rw [spot_iff hL, at0_get hq, he]
      exact ⟨hq, h2⟩
    · rw [at0_get hq, he]

theorem perm_put {m L : List Sl} (hp : m.Perm L) (hm : Once m) (hL : Once L) (s : Sl) : (slPut m s).Perm (slPut L s) := by
  unfold slPut
  rcases perm_spot hp hm hL s.id with ⟨h1, h2⟩ | ⟨p, q, h1, h2, h3⟩
  · rw [h1, h2]
    exact hp.append_right _
  · rw [h1, h2]
    have g1 := set_perm s (spot_some h1).1
    have g2 := set_perm s (spot_some h2).1
    rw [h3] at g1
    exact List.Perm.cons_inv (g1.trans ((hp.cons s).trans g2.symm))

/-- All but the one of an id. -/
def slDel (L : List Sl) (id : Int) : List Sl := L.filter fun s => decide (s.id ≠ id)

theorem perm_del {m m' L : List Sl} (hp : m.Perm L) {id : Int} {p : Nat} (h1 : spot m id = some p) (hm : Once m) (h : (at0 m p :: m').Perm m) : m'.Perm (slDel L id) := by
  have h2 := (h.trans hp).filter (fun s => decide (s.id ≠ id))
  have hid := (spot_some h1).2
  rw [List.filter_cons, if_neg (by simp [hid])] at h2
  have ho := once_perm h hm
  unfold Once at ho
  rw [List.map_cons, List.nodup_cons] at ho
  have h3 : m'.filter (fun s => decide (s.id ≠ id)) = m' := by
    rw [List.filter_eq_self]
    intro s hs
    simp only [ne_eq, decide_not, Bool.not_eq_eq_eq_not, Bool.not_true, decide_eq_false_iff_not]
    intro e
    exact ho.1 (List.mem_map.2 ⟨s, hs, by rw [e, hid]⟩)
  rw [h3] at h2
  exact h2

theorem del_none {L : List Sl} {id : Int} (h : spot L id = none) : slDel L id = L := by
  unfold slDel
  rw [List.filter_eq_self]
  intro s hs
  obtain ⟨i, hi, rfl⟩ := List.getElem_of_mem hs
  have := spot_none h i hi
  rw [at0_get hi] at this
  simpa using this

/-- Who is on top. -/
def IsTop (L : List Sl) (s : Sl) : Prop := s ∈ L ∧ ∀ x ∈ L, slBet x s = false

theorem top_one {L : List Sl} {s t : Sl} (h1 : IsTop L s) (h2 : IsTop L t) : s = t := by
  have a := h1.2 t h2.1
  have b := h2.2 s h1.1
  by_cases e : s = t
  · exact e
  · have := slBet_tri e
    rw [a, b] at this
    cases this

theorem heap_isTop {m L : List Sl} (hh : HeapOK m) (hp : m.Perm L) (h0 : 0 < m.length) : IsTop L (at0 m 0) := by
  refine ⟨hp.mem_iff.1 (by rw [at0_get h0]; exact List.getElem_mem h0), fun x hx => ?_⟩
  obtain ⟨i, hi, rfl⟩ := List.getElem_of_mem (hp.mem_iff.2 hx)
  rw [← at0_get hi]
  exact heap_top hh i hi

theorem slPut_len (L : List Sl) (s : Sl) : (slPut L s).length = if (spot L s.id).isSome then L.length else L.length + 1 := by
  unfold slPut
  cases spot L s.id <;> simp

theorem hp_put {w : World} {base B : Nat} {v : Value} {M : Nat} {L : List Sl} (h : HpAt w base B v M L) (hl : L.length < 1000) (id r0 r1 r2 : Int) (hid : (Lit.int .i64 id).wf = true) {r : Bool} (hr : (spot L id).isNone = r) :
    Calls Try.prog 119 #[.pointer (some ⟨B, 0, none⟩), .int .i64 id, .agg #[.int .i64 r0, .int .i64 r1, .int .i64 r2]] w fun e w' =>
      ∃ v', e = .returned (.bool r) ∧ HpAt w' base B v' M (slPut L ⟨id, r0, r1, r2⟩) ∧ TurnV w w' base B v M v' := by
  have hoL := h.once.1
  obtain ⟨m, h1, h2, h3⟩ := h
  have hpp := perm_put h3 h1.once hoL ⟨id, r0, r1, r2⟩
  rcases perm_spot h3 h1.once hoL id with ⟨g1, g2⟩ | ⟨p, q, g1, g2, _⟩
  · obtain rfl : true = r := by rw [← hr, g2]; rfl
    refine (put_new h1 h2 (by rw [h3.length_eq]; exact hl) id r0 r1 r2 hid g1).mono ?_
    rintro e w' ⟨v', m', he, hm, ho, hok, ht⟩
    refine ⟨v', he, ⟨m', hok, ho, hm.trans ?_⟩, ht⟩
    have : slPut m ⟨id, r0, r1, r2⟩ = m ++ [⟨id, r0, r1, r2⟩] := by unfold slPut; simp only [g1]
    rwa [this] at hpp
  · obtain rfl : false = r := by rw [← hr, g2]; rfl
    refine (put_old h1 h2 id r0 r1 r2 hid g1).mono ?_
    rintro e w' ⟨v', m', he, hm, ho, hok, ht⟩
    refine ⟨v', he, ⟨m', hok, ho, hm.trans ?_⟩, ht⟩
    have : slPut m ⟨id, r0, r1, r2⟩ = m.set p ⟨id, r0, r1, r2⟩ := by unfold slPut; simp only [g1]
    rwa [this] at hpp

theorem turn_refl (w : World) (base B : Nat) (v : Value) (M : Nat) : Turn w w base B v M := ⟨Beside.refl _ _, Nat.le_refl _, Below.refl _ _⟩

theorem hp_drop {w : World} {base B : Nat} {v : Value} {M : Nat} {L : List Sl} (h : HpAt w base B v M L) (id : Int) (hid : (Lit.int .i64 id).wf = true) {r : Bool} (hr : (spot L id).isSome = r) :
    Calls Try.prog 120 #[.pointer (some ⟨B, 0, none⟩), .int .i64 id] w fun e w' =>
      ∃ v', e = .returned (.bool r) ∧ HpAt w' base B v' M (slDel L id) ∧ TurnV w w' base B v M v' := by
  have hoL := h.once.1
  obtain ⟨m, h1, h2, h3⟩ := h
  rcases perm_spot h3 h1.once hoL id with ⟨g1, g2⟩ | ⟨p, q, g1, g2, _⟩
  · obtain rfl : false = r := by rw [← hr, g2]; rfl
    refine (drop_no h1 id hid g1).mono ?_
    rintro e w' ⟨he, rfl⟩
    exact ⟨v, he, ⟨m, h1, h2, by rw [del_none g2]; exact h3⟩, turnV_same (turn_refl _ _ _ _ _)⟩
  · obtain rfl : true = r := by rw [← hr, g2]; rfl
    refine (drop_yes h1 h2 id hid g1).mono ?_
    rintro e w' ⟨v', m', he, hm, ho, hok, ht⟩
    exact ⟨v', he, ⟨m', hok, ho, perm_del h3 g1 h1.once hm⟩, ht⟩

theorem hp_len {w : World} {base B : Nat} {v : Value} {M : Nat} {L : List Sl} (h : HpAt w base B v M L) {n : Nat} (hn : L.length = n) :
    Calls Try.prog 139 #[.pointer (some ⟨B, 0, none⟩)] w fun e w' => e = .returned (.int .i64 n) ∧ w = w' := by
  obtain ⟨m, h1, h2, h3⟩ := h
  rw [← hn, ← h3.length_eq]
  exact len_any h1

theorem hp_top {w : World} {base B : Nat} {v : Value} {M : Nat} {L : List Sl} (h : HpAt w base B v M L) {i r0 r1 r2 : Int} (ht : IsTop L ⟨i, r0, r1, r2⟩) :
    Calls Try.prog 118 #[.pointer (some ⟨B, 0, none⟩)] w fun e w' => e = .returned (.tuple #[.agg #[.int .i64 i, .int .i64 r0, .int .i64 r1, .int .i64 r2], .bool true]) ∧ Below w.heap.size w w' := by
  obtain ⟨m, h1, h2, h3⟩ := h
  have h0 : 0 < m.length := by rw [h3.length_eq]; exact List.length_pos_of_mem ht.1
  exact top_any h1 (top_one (heap_isTop h2 h3 h0) ht) (by simpa using h0)

theorem hp_top_none {w : World} {base B : Nat} {v : Value} {M : Nat} (h : HpAt w base B v M []) :
    Calls Try.prog 118 #[.pointer (some ⟨B, 0, none⟩)] w fun e w' => e = .returned (.tuple #[.agg #[.int .i64 0, .int .i64 0, .int .i64 0, .int .i64 0], .bool false]) ∧ Below w.heap.size w w' := by
  obtain ⟨m, h1, h2, h3⟩ := h
  obtain rfl := h3.eq_nil
  exact top_any h1 rfl rfl

theorem hp_new (w : World) : Calls Try.prog 99 #[] w fun e w' => ∃ B v M, e = .returned (.pointer (some ⟨B, 0, none⟩)) ∧ HpAt w' w.heap.size B v M [] ∧ Below w.heap.size w w' := by
  refine (new_any w).mono ?_
  rintro e w' ⟨B, v, M, he, hok, hb⟩
  exact ⟨B, v, M, he, ⟨[], hok, fun i _ hi => by simp at hi, List.Perm.refl _⟩, hb⟩

/-- A block that is no block of the heap's. -/
theorem HpAt.far {w : World} {base B : Nat} {v : Value} {M : Nat} {L : List Sl} (h : HpAt w base B v M L) {X : Nat} (hX : w.heap.size ≤ X) : ¬ Foot B M v X := by
  obtain ⟨m, h1, _, _⟩ := h
  rintro (e | e | ⟨n, c, e⟩)
  · have := h1.hat.lt; omega
  · have := h1.hat.places.lt; omega
  · have := (h1.hat.own.gblock e).1; omega

theorem TurnV.far {w w' : World} {base B : Nat} {v : Value} {M : Nat} {v' : Value} (ht : TurnV w w' base B v M v') {X : Nat} (hX : X < w.heap.size) (hf : ¬ Foot B M v X) : ¬ Foot B M v' X ∧ w'.heap[X]? = w.heap[X]? := by
  refine ⟨?_, ht.turn.beside X hX hf⟩
  rintro (e | e | ⟨n, c, e⟩)
  · exact hf (.inl e)
  · exact hf (.inr (.inl e))
  · rcases ht.new X n c e with h | h
    · exact hf (.inr (.inr h))
    · omega

theorem HpAt.base {w : World} {base B : Nat} {v : Value} {M : Nat} {L : List Sl} (h : HpAt w base B v M L) : base ≤ w.heap.size := by
  obtain ⟨m, h1, _, _⟩ := h
  exact h1.base

end Go.Proofs.Ytkmbnpjnjlcjmaa
