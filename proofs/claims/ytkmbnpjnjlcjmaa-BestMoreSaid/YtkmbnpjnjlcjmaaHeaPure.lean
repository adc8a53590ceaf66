/-
  LAYER 10, PLAIN: slots, which is better; heaps as lists; a slot that rises, one that sinks.
-/
import Derived.Lib.Hide
namespace Go.Proofs.Ytkmbnpjnjlcjmaa

structure Sl where
  id : Int
  r0 : Int
  r1 : Int
  r2 : Int
deriving DecidableEq

def Sl.zero : Sl := ⟨0, 0, 0, 0⟩

/-- Which of two ranks above the other one. -/
def slBet (a b : Sl) : Bool :=
  if a.r0 = b.r0 then (if a.r1 = b.r1 then (if a.r2 = b.r2 then decide (a.id < b.id) else decide (b.r2 < a.r2)) else decide (b.r1 < a.r1)) else decide (b.r0 < a.r0)

theorem slBet_iff (a b : Sl) : slBet a b = true ↔ (b.r0 < a.r0 ∨ (a.r0 = b.r0 ∧ (b.r1 < a.r1 ∨ (a.r1 = b.r1 ∧ (b.r2 < a.r2 ∨ (a.r2 = b.r2 ∧ a.id < b.id)))))) := by
  unfold slBet
  by_cases h0 : a.r0 = b.r0
  · rw [if_pos h0]
    by_cases h1 : a.r1 = b.r1
    · rw [if_pos h1]
      by_cases h2 : a.r2 = b.r2
      · rw [if_pos h2, decide_eq_true_eq]; omega
      · rw [if_neg h2, decide_eq_true_eq]; omega
    · rw [if_neg h1, decide_eq_true_eq]; omega
  · rw [if_neg h0, decide_eq_true_eq]; omega

theorem slBet_no (a b : Sl) : slBet a b = false ↔ ¬ (b.r0 < a.r0 ∨ (a.r0 = b.r0 ∧ (b.r1 < a.r1 ∨ (a.r1 = b.r1 ∧ (b.r2 < a.r2 ∨ (a.r2 = b.r2 ∧ a.id < b.id)))))) := by
  rw [← slBet_iff, Bool.not_eq_true]

theorem slBet_irrefl (a : Sl) : slBet a a = false := by rw [slBet_no]; omega

theorem slBet_trans {a b c : Sl} (h1 : slBet a b = true) (h2 : slBet b c = true) : slBet a c = true := by
  rw [slBet_iff] at *; omega

theorem slBet_asymm {a b : Sl} (h : slBet a b = true) : slBet b a = false := by
  rw [slBet_iff] at h; rw [slBet_no]; omega

/-- No better than one that is no better. -/
theorem slBet_le_trans {a b c : Sl} (h1 : slBet a b = false) (h2 : slBet b c = false) : slBet a c = false := by
  rw [slBet_no] at *; omega

theorem slBet_lt_le {a b c : Sl} (h1 : slBet b a = true) (h2 : slBet c a = false) : slBet c b = false := by
  rw [slBet_iff] at h1; rw [slBet_no] at *; omega

theorem slBet_tri {a b : Sl} (h : a ≠ b) : slBet a b = !slBet b a := by
  have hd : ¬ (a.id = b.id ∧ a.r0 = b.r0 ∧ a.r1 = b.r1 ∧ a.r2 = b.r2) := by
    rintro ⟨h1, h2, h3, h4⟩
    exact h (by cases a; cases b; simp_all)
  cases h1 : slBet b a with
  | true => exact slBet_asymm h1
  | false => rw [slBet_no] at h1; show slBet a b = true; rw [slBet_iff]; omega

/-- The slot at a place. -/
def at0 (l : List Sl) (i : Nat) : Sl := l.getD i Sl.zero

theorem at0_get {l : List Sl} {i : Nat} (h : i < l.length) : at0 l i = l[i] := by
  unfold at0; rw [List.getD_eq_getElem?_getD, List.getElem?_eq_getElem h]; rfl

def par (i : Nat) : Nat := (i - 1) / 2

/-- None is better than its parent. -/
def HeapOK (l : List Sl) : Prop := ∀ i, 0 < i → i < l.length → slBet (at0 l i) (at0 l (par i)) = false

/-- All stand well but for the one at 'at', and its children. -/
def Off (l : List Sl) (a : Nat) : Prop :=
  (∀ i, 0 < i → i < l.length → i ≠ a → par i ≠ a → slBet (at0 l i) (at0 l (par i)) = false) ∧
  ∀ c, 0 < c → c < l.length → par c = a → 0 < a → slBet (at0 l c) (at0 l (par a)) = false

/-- All stand well but for the children of the one at 'at'. -/
def Sunk (l : List Sl) (a : Nat) : Prop := Off l a ∧ (0 < a → slBet (at0 l a) (at0 l (par a)) = false)

/-- Two changed about. -/
def swp (l : List Sl) (i j : Nat) : List Sl := (l.set i (at0 l j)).set j (at0 l i)

theorem swp_len (l : List Sl) (i j : Nat) : (swp l i j).length = l.length := by simp [swp]

theorem set_at {l : List Sl} {i : Nat} (x : Sl) (k : Nat) (hi : i < l.length) : at0 (l.set i x) k = if k = i then x else at0 l k := by
  unfold at0
  by_cases h : k = i
  · subst h; simp [List.getD, hi]
  · rw [if_neg h]; simp [List.getD, List.getElem?_set_ne (Ne.symm h)]

theorem swp_at {l : List Sl} {i j : Nat} (k : Nat) (hi : i < l.length) (hj : j < l.length) : at0 (swp l i j) k = if k = j then at0 l i else if k = i then at0 l j else at0 l k := by
  unfold swp
  rw [set_at _ _ (by simpa using hj)]
  by_cases h : k = j
  · rw [if_pos h, if_pos h]
  · rw [if_neg h, if_neg h, set_at _ _ hi]

theorem set_perm {l : List Sl} {i : Nat} (x : Sl) (hi : i < l.length) : (at0 l i :: l.set i x).Perm (x :: l) := by
  rw [at0_get hi]
  rw [List.set_eq_take_append_cons_drop, if_pos hi]
  have h : l = l.take i ++ (l[i] :: l.drop (i + 1)) := by rw [← List.drop_eq_getElem_cons hi, List.take_append_drop]
  have h2 : (x :: l).Perm (x :: (l[i] :: (l.take i ++ l.drop (i + 1)))) := by
    conv => lhs; rw [h]
    exact (List.perm_middle).cons x
  refine List.Perm.trans ?_ h2.symm
  exact ((List.perm_middle).cons _).trans (List.Perm.swap _ _ _)

theorem swp_perm {l : List Sl} {i j : Nat} (hi : i < l.length) (hj : j < l.length) (hne : i ≠ j) : (swp l i j).Perm l := by
  unfold swp
  have h1 := set_perm (l := l) (at0 l j) hi
  have h2 := set_perm (l := l.set i (at0 l j)) (i := j) (at0 l i) (by simpa using hj)
  rw [set_at _ _ hi, if_neg (Ne.symm hne)] at h2
  exact List.Perm.cons_inv (h2.trans h1)

theorem par_lt {i : Nat} (h : 0 < i) : par i < i := by unfold par; omega

/-- A slot that is better than its parent rises. -/
theorem off_rise {l : List Sl} {a : Nat} (h : Off l a) (h0 : 0 < a) (ha : a < l.length) (hb : slBet (at0 l a) (at0 l (par a)) = true) : Off (swp l a (par a)) (par a) := by
  obtain ⟨h1, h2⟩ := h
  have hp := par_lt h0
  have hpl : par a < l.length := by omega
  refine ⟨fun i i0 il ne np => ?_, fun c c0 cl hc p0 => ?_⟩
  · rw [swp_len] at il
    rw [swp_at _ ha hpl, swp_at _ ha hpl, if_neg ne]
    by_cases e : i = a
    · subst e; exact absurd rfl np
    · rw [if_neg e, if_neg np]
      by_cases e2 : par i = a
      · rw [if_pos e2]
        exact h2 i i0 il e2 h0
      · rw [if_neg e2]
        exact h1 i i0 il e e2
  · rw [swp_len] at cl
    have hcp := par_lt c0
    have hpp := par_lt p0
    have hg : slBet (at0 l (par a)) (at0 l (par (par a))) = false := h1 (par a) p0 hpl (by omega) (by omega)
    rw [swp_at _ ha hpl, swp_at _ ha hpl, if_neg (show ¬ c = par a by omega), if_neg (show ¬ par (par a) = par a by omega), if_neg (show ¬ par (par a) = a by omega)]
    by_cases e : c = a
    · rw [if_pos e]; exact hg
    · rw [if_neg e]
      have hx := h1 c c0 cl e (by omega)
      rw [hc] at hx
      exact slBet_le_trans hx hg

theorem off_sunk {l : List Sl} {a : Nat} (h : Off l a) (hb : 0 < a → slBet (at0 l a) (at0 l (par a)) = false) : Sunk l a := ⟨h, hb⟩

/-- Its best child takes the place of one that sinks. -/
theorem sunk_next {l : List Sl} {a b : Nat} (h : Sunk l a) (hb0 : 0 < b) (hbl : b < l.length) (hpb : par b = a) (hbet : slBet (at0 l b) (at0 l a) = true) (hbest : ∀ c, 0 < c → c < l.length → par c = a → slBet (at0 l c) (at0 l b) = false) : Sunk (swp l a b) b := by
  obtain ⟨⟨h1, h2⟩, h3⟩ := h
  have hab : a < b := by have := par_lt hb0; omega
  have hal : a < l.length := by omega
  refine ⟨⟨fun i i0 il ne np => ?_, fun c c0 cl hc b0 => ?_⟩, fun b0 => ?_⟩
  · rw [swp_len] at il
    have hpi := par_lt i0
    rw [swp_at _ hal hbl, swp_at _ hal hbl, if_neg ne, if_neg np]
    by_cases e : i = a
    · subst e
      rw [if_pos rfl, if_neg (by omega)]
      exact h2 b hb0 hbl hpb i0
    · rw [if_neg e]
      by_cases e2 : par i = a
      · rw [if_pos e2]
        exact hbest i i0 il e2
      · rw [if_neg e2]
        exact h1 i i0 il e e2
  · rw [swp_len] at cl
    have hpc := par_lt c0
    rw [swp_at _ hal hbl, swp_at _ hal hbl, if_neg (show ¬ c = b by omega), if_neg (show ¬ c = a by omega), hpb, if_neg (show ¬ a = b by omega), if_pos rfl]
    have := h1 c c0 cl (by omega) (by omega)
    rwa [hc] at this
  · rw [swp_at _ hal hbl, swp_at _ hal hbl, if_pos rfl, hpb, if_neg (show ¬ a = b by omega), if_pos rfl]
    exact slBet_asymm hbet

theorem sunk_end {l : List Sl} {a : Nat} (h : Sunk l a) (hc : ∀ c, 0 < c → c < l.length → par c = a → slBet (at0 l c) (at0 l a) = false) : HeapOK l := by
  obtain ⟨⟨h1, h2⟩, h3⟩ := h
  intro i i0 il
  by_cases e : i = a
  · subst e; exact h3 i0
  · by_cases e2 : par i = a
    · rw [e2]; exact hc i i0 il e2
    · exact h1 i i0 il e e2

/-- One slot of a heap changed. -/
theorem off_set {l : List Sl} (h : HeapOK l) {a : Nat} (ha : a < l.length) (x : Sl) : Off (l.set a x) a := by
  refine ⟨fun i i0 il ne np => ?_, fun c c0 cl hc a0 => ?_⟩
  · rw [List.length_set] at il
    rw [set_at _ _ ha, set_at _ _ ha, if_neg ne, if_neg np]
    exact h i i0 il
  · rw [List.length_set] at cl
    have := par_lt c0
    have hp := par_lt a0
    rw [set_at _ _ ha, set_at _ _ ha, if_neg (by omega), if_neg (by omega)]
    have g1 := h c c0 cl
    have g2 := h a a0 ha
    rw [hc] at g1
    exact slBet_le_trans g1 g2

/-- One slot more, at the end. -/
theorem off_new {l : List Sl} (h : HeapOK l) (x : Sl) : Off (l ++ [x]) l.length := by
  have g : ∀ i, i < l.length → at0 (l ++ [x]) i = at0 l i := fun i hi => by unfold at0; simp [List.getD, List.getElem?_append_left hi]
  refine ⟨fun i i0 il ne np => ?_, fun c c0 cl hc a0 => ?_⟩
  · have hi : i < l.length := by simp at il; omega
    have := par_lt i0
    rw [g i hi, g _ (by omega)]
    exact h i i0 hi
  · have := par_lt c0
    simp at cl
    omega

/-- The last one taken away. -/
theorem heap_pop {l : List Sl} (h : HeapOK l) : HeapOK l.dropLast := by
  have g : ∀ i, i < l.length - 1 → at0 l.dropLast i = at0 l i := fun i hi => by
    unfold at0
    rw [List.getD_eq_getElem?_getD, List.getD_eq_getElem?_getD, List.getElem?_dropLast, if_pos hi]
  intro i i0 il
  rw [List.length_dropLast] at il
  have := par_lt i0
  rw [g i il, g _ (by omega)]
  exact h i i0 (by omega)

/-- The first one is the best one. -/
theorem heap_top {l : List Sl} (h : HeapOK l) : ∀ i, i < l.length → slBet (at0 l i) (at0 l 0) = false := by
  intro i
  induction i using Nat.strongRecOn with
  | ind i ih =>
    intro hi
    by_cases e : i = 0
    · subst e; exact slBet_irrefl _
    · have hp := par_lt (show 0 < i by omega)
      exact slBet_le_trans (h i (by omega) hi) (ih _ hp (by omega))

/-- Ids stand once each. -/
def Once (l : List Sl) : Prop := (l.map Sl.id).Nodup

theorem once_perm {l l' : List Sl} (hp : l'.Perm l) (h : Once l) : Once l' := (hp.map Sl.id).nodup_iff.2 h

theorem once_inj {l : List Sl} (h : Once l) {i j : Nat} (hi : i < l.length) (hj : j < l.length) (he : (at0 l i).id = (at0 l j).id) : i = j := by
  rw [at0_get hi, at0_get hj] at he
  have := (List.nodup_iff_pairwise_ne.1 h)
  rcases Nat.lt_trichotomy i j with hlt | rfl | hlt
  · exact absurd (by rw [List.getElem_map, List.getElem_map]; exact he) ((List.pairwise_iff_getElem.1 this) i j (by simpa using hi) (by simpa using hj) hlt)
  · rfl
  · exact absurd (by rw [List.getElem_map, List.getElem_map]; exact he.symm) ((List.pairwise_iff_getElem.1 this) j i (by simpa using hj) (by simpa using hi) hlt)

/-- Where an id stands. -/
def spot (l : List Sl) (id : Int) : Option Nat := l.findIdx? fun s => decide (s.id = id)

theorem spot_some {l : List Sl} {id : Int} {i : Nat} (h : spot l id = some i) : i < l.length ∧ (at0 l i).id = id := by
  unfold spot at h
  rw [List.findIdx?_eq_some_iff_getElem] at h
  obtain ⟨hi, h2, _⟩ := h
  exact ⟨hi, by rw [at0_get hi]; simpa using h2⟩

theorem spot_none {l : List Sl} {id : Int} (h : spot l id = none) : ∀ i, i < l.length → (at0 l i).id ≠ id := by
  unfold spot at h
  rw [List.findIdx?_eq_none_iff] at h
  intro i hi
  rw [at0_get hi]
  simpa using h l[i] (List.getElem_mem hi)

theorem spot_of {l : List Sl} (ho : Once l) {i : Nat} (hi : i < l.length) : spot l (at0 l i).id = some i := by
  cases h : spot l (at0 l i).id with
  | none => exact absurd rfl (spot_none h i hi)
  | some j =>
    obtain ⟨hj, he⟩ := spot_some h
    rw [once_inj ho hj hi he]

end Go.Proofs.Ytkmbnpjnjlcjmaa
