/-
  PLAIN: lists that rise by an order of keys: where one belongs, one put in or taken out, what stands in them then.
-/
import Derived.Test.YtkmbnpjnjlcjmaaSeq
namespace Go.Proofs.Ytkmbnpjnjlcjmaa

/-- An order: of two just one stands ahead, or they are alike. -/
structure OrdOK {α : Type} (lt eq : α → α → Bool) : Prop where
  irrefl : ∀ a, lt a a = false
  trans : ∀ a b c, lt a b = true → lt b c = true → lt a c = true
  tri : ∀ a b, (lt a b = true ∧ lt b a = false ∧ eq a b = false) ∨ (lt a b = false ∧ lt b a = true ∧ eq a b = false) ∨ (lt a b = false ∧ lt b a = false ∧ eq a b = true)
  same : ∀ a b x, eq a b = true → lt a x = lt b x ∧ lt x a = lt x b

section
variable {α : Type} {lt eq : α → α → Bool} {zero : α}

theorem OrdOK.refl (O : OrdOK lt eq) (a : α) : eq a a = true := by
  rcases O.tri a a with ⟨h, _, _⟩ | ⟨_, h, _⟩ | ⟨_, _, h⟩
  · rw [O.irrefl] at h; cases h
  · rw [O.irrefl] at h; cases h
  · exact h

theorem OrdOK.eq_of (O : OrdOK lt eq) {a b : α} (h1 : lt a b = false) (h2 : lt b a = false) : eq a b = true := by
  rcases O.tri a b with ⟨h, _, _⟩ | ⟨_, h, _⟩ | ⟨_, _, h⟩
  · rw [h1] at h; cases h
  · rw [h2] at h; cases h
  · exact h

theorem OrdOK.eq_no (O : OrdOK lt eq) {a b : α} (h : eq a b = true) : lt a b = false ∧ lt b a = false := by
  rcases O.tri a b with ⟨_, _, g⟩ | ⟨_, _, g⟩ | ⟨g1, g2, _⟩
  · rw [h] at g; cases g
  · rw [h] at g; cases g
  · exact ⟨g1, g2⟩

theorem OrdOK.symm (O : OrdOK lt eq) (a b : α) : eq a b = eq b a := by
  rcases O.tri a b with ⟨h1, h2, h3⟩ | ⟨h1, h2, h3⟩ | ⟨h1, h2, h3⟩
  all_goals rcases O.tri b a with ⟨g1, g2, g3⟩ | ⟨g1, g2, g3⟩ | ⟨g1, g2, g3⟩
  all_goals simp_all

theorem OrdOK.eq_trans (O : OrdOK lt eq) {a b c : α} (h1 : eq a b = true) (h2 : eq b c = true) : eq a c = true := by
  have e1 := O.same a b c h1
  have e2 := O.eq_no h2
  exact O.eq_of (by rw [e1.1]; exact e2.1) (by rw [e1.2]; exact e2.2)

theorem OrdOK.asymm (O : OrdOK lt eq) {a b : α} (h : lt a b = true) : lt b a = false := by
  rcases O.tri a b with ⟨_, g, _⟩ | ⟨g, _, _⟩ | ⟨g, _, _⟩
  · exact g
  · rw [h] at g; cases g
  · rw [h] at g; cases g

theorem OrdOK.lt_no (O : OrdOK lt eq) {a b : α} (h : lt a b = true) : eq a b = false := by
  rcases O.tri a b with ⟨_, _, g⟩ | ⟨g, _, _⟩ | ⟨g, _, _⟩
  · exact g
  · rw [h] at g; cases g
  · rw [h] at g; cases g

/-- .. ahead of one behind which, or like which, the other one stands. -/
theorem OrdOK.lt_le (O : OrdOK lt eq) {a b c : α} (h1 : lt a b = true) (h2 : lt c b = false) : lt a c = true := by
  rcases O.tri b c with ⟨g, _, _⟩ | ⟨_, g, _⟩ | ⟨_, _, g⟩
  · exact O.trans _ _ _ h1 g
  · rw [h2] at g; cases g
  · rw [← (O.same b c a g).2]; exact h1

/-- A list that rises. -/
def RiseO (lt : α → α → Bool) (l : List α) : Prop := l.Pairwise fun a b => lt a b = true

/-- How many stand ahead of x. -/
def placeO (lt : α → α → Bool) (l : List α) (x : α) : Nat := (l.takeWhile fun e => lt e x).length

/-- Where the first one like x stands. -/
def findO (eq : α → α → Bool) (l : List α) (x : α) : Option Nat := l.findIdx? fun e => eq e x

/-- x at its place, instead of the one like it. -/
def putO (lt eq : α → α → Bool) (l : List α) (x : α) : List α :=
  match findO eq l x with
  | some i => l.set i x
  | none => putS l (placeO lt l x) x

/-- All but such as are like x. -/
def dropO (eq : α → α → Bool) (l : List α) (x : α) : List α := l.filter fun e => !eq e x

theorem placeO_le (l : List α) (x : α) : placeO lt l x ≤ l.length := by
  unfold placeO
  exact (List.takeWhile_sublist _).length_le

theorem findO_some {l : List α} {x : α} {i : Nat} (h : findO eq l x = some i) : ∃ hi : i < l.length, eq l[i] x = true ∧ ∀ j (hj : j < i), eq (l[j]'(by omega)) x = false := by
  unfold findO at h
  rw [List.findIdx?_eq_some_iff_getElem] at h
  obtain ⟨hi, h2, h3⟩ := h
  exact ⟨hi, h2, fun j hj => by simpa using h3 j hj⟩

theorem findO_none {l : List α} {x : α} (h : findO eq l x = none) : ∀ y ∈ l, eq y x = false := by
  unfold findO at h
  rw [List.findIdx?_eq_none_iff] at h
  intro y hy
  simpa using h y hy

theorem findO_of {l : List α} {x : α} {i : Nat} (hi : i < l.length) (h : eq l[i] x = true) (hn : ∀ j (hj : j < i), eq (l[j]'(by omega)) x = false) : findO eq l x = some i := by
  unfold findO
  rw [List.findIdx?_eq_some_iff_getElem]
  exact ⟨hi, h, fun j hj => by simpa using hn j hj⟩

theorem findO_of_none {l : List α} {x : α} (h : ∀ y ∈ l, eq y x = false) : findO eq l x = none := by
  unfold findO
  rw [List.findIdx?_eq_none_iff]
  intro y hy
  simpa using h y hy

theorem rise_get {l : List α} (h : RiseO lt l) {i j : Nat} (hj : j < l.length) (hij : i < j) : lt (l[i]'(by omega)) l[j] = true :=
  List.pairwise_iff_getElem.1 h i j (by omega) hj hij

theorem placeO_ahead {l : List α} {x : α} {k : Nat} (h : k < placeO lt l x) : lt (l[k]'(Nat.lt_of_lt_of_le h (placeO_le l x))) x = true := by
  unfold placeO at h
  have h1 : (l.takeWhile fun e => lt e x)[k] ∈ l.takeWhile fun e => lt e x := List.getElem_mem h
  have h2 := List.all_takeWhile (l := l) (p := fun e => lt e x)
  rw [List.all_eq_true] at h2
  have h3 := h2 _ h1
  have h4 := (List.takeWhile_prefix (fun e => lt e x) (l := l)).getElem h
  rwa [h4] at h3

theorem takeWhile_stop {p : α → Bool} : ∀ {l : List α} (h : (l.takeWhile p).length < l.length), p (l[(l.takeWhile p).length]'h) = false
  | [], h => by simp at h
  | a :: l, h => by
    by_cases hp : p a = true
    · have e : (a :: l).takeWhile p = a :: l.takeWhile p := by rw [List.takeWhile_cons, if_pos hp]
      simp only [e, List.length_cons, List.getElem_cons_succ]
      exact takeWhile_stop (l := l) (by simpa [e] using h)
    · have e : (a :: l).takeWhile p = [] := by rw [List.takeWhile_cons, if_neg hp]
      simp only [e, List.length_nil, List.getElem_cons_zero]
      simpa using hp

theorem placeO_behind (O : OrdOK lt eq) {l : List α} (hr : RiseO lt l) {x : α} {k : Nat} (hk : k < l.length) (h : placeO lt l x ≤ k) : lt l[k] x = false := by
  have hp : placeO lt l x < l.length := by omega
  have h0 : lt (l[placeO lt l x]'hp) x = false := takeWhile_stop hp
  by_cases e : placeO lt l x = k
  · simp only [← e]; exact h0
  · have h1 := rise_get hr hk (show placeO lt l x < k by omega)
    rw [Bool.eq_false_iff]
    intro h2
    rw [O.trans _ _ _ h1 h2] at h0
    cases h0

/-- What stands at its place is like x, if any is. -/
theorem findO_place (O : OrdOK lt eq) {l : List α} (hr : RiseO lt l) {x : α} {i : Nat} (h : findO eq l x = some i) : i = placeO lt l x := by
  obtain ⟨hi, he, _⟩ := findO_some h
  rcases Nat.lt_trichotomy i (placeO lt l x) with hlt | he2 | hlt
  · have := placeO_ahead hlt
    rw [(O.eq_no he).1] at this; cases this
  · exact he2
  · have hp : placeO lt l x < l.length := by omega
    have h1 := rise_get hr hi hlt
    have h2 := placeO_behind O hr hp (Nat.le_refl _)
    rw [← (O.same _ _ (l[placeO lt l x]) he).2, h1] at h2
    cases h2

theorem rise_one (O : OrdOK lt eq) {l : List α} (hr : RiseO lt l) {i j : Nat} (hi : i < l.length) (hj : j < l.length) (h : eq l[i] l[j] = true) : i = j := by
  rcases Nat.lt_trichotomy i j with hlt | he | hlt
  · have := rise_get hr hj hlt
    rw [(O.eq_no h).1] at this; cases this
  · exact he
  · have := rise_get hr hi hlt
    rw [(O.eq_no h).2] at this; cases this

theorem rise_mem (O : OrdOK lt eq) {l : List α} (hr : RiseO lt l) {a b : α} (ha : a ∈ l) (hb : b ∈ l) (h : eq a b = true) : a = b := by
  obtain ⟨i, hi, rfl⟩ := List.getElem_of_mem ha
  obtain ⟨j, hj, rfl⟩ := List.getElem_of_mem hb
  have := rise_one O hr hi hj h
  subst this
  rfl

/-- Two lists that rise, of the same ones, are the same. -/
theorem rise_unique (O : OrdOK lt eq) : ∀ {l m : List α}, RiseO lt l → RiseO lt m → (∀ x, x ∈ l ↔ x ∈ m) → l = m
  | [], [], _, _, _ => rfl
  | [], b :: m, _, _, h => by have := (h b).2 (by simp); simp at this
  | a :: l, [], _, _, h => by have := (h a).1 (by simp); simp at this
  | a :: l, b :: m, hl, hm, h => by
    obtain ⟨l1, l2⟩ := List.pairwise_cons.1 hl
    obtain ⟨m1, m2⟩ := List.pairwise_cons.1 hm
    have hab : a = b := by
      have ha := (h a).1 (by simp)
      have hb := (h b).2 (by simp)
      rcases List.mem_cons.1 ha with e | ha'
      · exact e
      · rcases List.mem_cons.1 hb with e | hb'
        · exact e.symm
        · have x1 := m1 a ha'
          have x2 := l1 b hb'
          rw [O.asymm x1] at x2; cases x2
    subst hab
    have hn : ∀ x, x ∈ l ↔ x ∈ m := by
      intro x
      constructor
      · intro hx
        rcases List.mem_cons.1 ((h x).1 (List.mem_cons_of_mem _ hx)) with e | h'
        · have := l1 x hx
          rw [e, O.irrefl] at this; cases this
        · exact h'
      · intro hx
        rcases List.mem_cons.1 ((h x).2 (List.mem_cons_of_mem _ hx)) with e | h'
        · have := m1 x hx
          rw [e, O.irrefl] at this; cases this
        · exact h'
    rw [rise_unique O l2 m2 hn]

theorem mem_putS {l : List α} {i : Nat} {x y : α} : y ∈ putS l i x ↔ y = x ∨ y ∈ l := by
  unfold putS
  constructor
  · intro h
    rcases List.mem_append.1 h with h | h
    · exact .inr (List.mem_of_mem_take h)
    · rcases List.mem_append.1 h with h | h
      · exact .inl (by simpa using h)
      · exact .inr (List.mem_of_mem_drop h)
  · rintro (rfl | h)
    · exact List.mem_append.2 (.inr (by simp))
    · rw [← List.take_append_drop i l] at h
      rcases List.mem_append.1 h with h | h
      · exact List.mem_append.2 (.inl h)
      · exact List.mem_append.2 (.inr (List.mem_append.2 (.inr h)))

theorem rise_putS (O : OrdOK lt eq) {l : List α} (hr : RiseO lt l) {x : α} (hn : ∀ y ∈ l, eq y x = false) : RiseO lt (putS l (placeO lt l x) x) := by
  have hb : ∀ y ∈ l.drop (placeO lt l x), lt x y = true := by
    intro y hy
    obtain ⟨j, hj, rfl⟩ := List.getElem_of_mem hy
    rw [List.getElem_drop]
    rw [List.length_drop] at hj
    have h1 := placeO_behind O hr (x := x) (k := placeO lt l x + j) (by omega) (by omega)
    have h2 := hn _ (List.getElem_mem (show placeO lt l x + j < l.length by omega))
    rcases O.tri l[placeO lt l x + j] x with ⟨g, _, _⟩ | ⟨_, g, _⟩ | ⟨_, _, g⟩
    · rw [h1] at g; cases g
    · exact g
    · rw [h2] at g; cases g
  have ha : ∀ y ∈ l.take (placeO lt l x), lt y x = true := by
    intro y hy
    obtain ⟨j, hj, rfl⟩ := List.getElem_of_mem hy
    rw [List.getElem_take]
    rw [List.length_take] at hj
    exact placeO_ahead (by omega)
  have hr' := hr
  unfold RiseO at hr' ⊢
  unfold putS
  rw [← List.take_append_drop (placeO lt l x) l] at hr'
  obtain ⟨h1, h2, h3⟩ := List.pairwise_append.1 hr'
  rw [List.pairwise_append]
  refine ⟨h1, ?_, ?_⟩
  · rw [List.singleton_append, List.pairwise_cons]
    exact ⟨hb, h2⟩
  · intro a ha' b hb'
    rcases List.mem_append.1 hb' with hb' | hb'
    · obtain rfl : b = x := by simpa using hb'
      exact ha a ha'
    · exact h3 a ha' b hb'

theorem rise_set (O : OrdOK lt eq) {l : List α} (hr : RiseO lt l) {x : α} {i : Nat} (hi : i < l.length) (he : eq l[i] x = true) : RiseO lt (l.set i x) := by
  unfold RiseO
  rw [List.pairwise_iff_getElem]
  intro j k hj hk hjk
  rw [List.length_set] at hj hk
  have h := rise_get hr hk hjk
  rw [List.getElem_set, List.getElem_set]
  by_cases e1 : i = j
  · rw [if_pos e1, if_neg (by omega)]
    subst e1
    rw [← (O.same _ _ _ he).1]; exact h
  · rw [if_neg e1]
    by_cases e2 : i = k
    · rw [if_pos e2]
      subst e2
      rw [← (O.same _ _ _ he).2]; exact h
    · rw [if_neg e2]; exact h

theorem mem_set_rise (O : OrdOK lt eq) {l : List α} (hr : RiseO lt l) {x y : α} {i : Nat} (hi : i < l.length) (he : eq l[i] x = true) : y ∈ l.set i x ↔ y = x ∨ (y ∈ l ∧ eq y x = false) := by
  rw [List.mem_iff_getElem]
  constructor
  · rintro ⟨j, hj, rfl⟩
    rw [List.length_set] at hj
    rw [List.getElem_set]
    by_cases e : i = j
    · rw [if_pos e]; exact .inl rfl
    · rw [if_neg e]
      refine .inr ⟨List.getElem_mem hj, ?_⟩
      rw [Bool.eq_false_iff]
      intro h
      have h2 : eq l[i] l[j] = true := O.eq_trans he (by rw [O.symm]; exact h)
      exact e (rise_one O hr hi hj h2)
  · rintro (rfl | ⟨h, hne⟩)
    · exact ⟨i, by simpa using hi, by simp⟩
    · obtain ⟨j, hj, rfl⟩ := List.getElem_of_mem h
      refine ⟨j, by simpa using hj, ?_⟩
      rw [List.getElem_set]
      by_cases e : i = j
      · subst e
        rw [he] at hne; cases hne
      · rw [if_neg e]

theorem rise_putO (O : OrdOK lt eq) {l : List α} (hr : RiseO lt l) (x : α) : RiseO lt (putO lt eq l x) := by
  unfold putO
  cases h : findO eq l x with
  | some i => obtain ⟨hi, he, _⟩ := findO_some h; exact rise_set O hr hi he
  | none => exact rise_putS O hr (findO_none h)

theorem mem_putO (O : OrdOK lt eq) {l : List α} (hr : RiseO lt l) (x y : α) : y ∈ putO lt eq l x ↔ y = x ∨ (y ∈ l ∧ eq y x = false) := by
  unfold putO
  cases h : findO eq l x with
  | some i => obtain ⟨hi, he, _⟩ := findO_some h; exact mem_set_rise O hr hi he
  | none =>
    show y ∈ putS l (placeO lt l x) x ↔ _
    rw [mem_putS]
    constructor
    · rintro (h' | h')
      · exact .inl h'
      · exact .inr ⟨h', findO_none h y h'⟩
    · rintro (h' | h')
      · exact .inl h'
      · exact .inr h'.1

theorem putO_len (l : List α) (x : α) : (putO lt eq l x).length = if (findO eq l x).isSome then l.length else l.length + 1 := by
  unfold putO
  cases findO eq l x with
  | some i => simp
  | none => simp [putS_len]

theorem rise_dropO {l : List α} (hr : RiseO lt l) (x : α) : RiseO lt (dropO eq l x) := List.Pairwise.filter _ hr

theorem mem_dropO (l : List α) (x y : α) : y ∈ dropO eq l x ↔ y ∈ l ∧ eq y x = false := by
  unfold dropO
  rw [List.mem_filter]
  simp

/-- In a list that rises one alone is taken out. -/
theorem dropO_at (O : OrdOK lt eq) {l : List α} (hr : RiseO lt l) {x : α} {i : Nat} (h : findO eq l x = some i) : dropO eq l x = l.take i ++ l.drop (i + 1) := by
  obtain ⟨hi, he, _⟩ := findO_some h
  refine rise_unique O (rise_dropO hr x) ?_ (fun y => ?_)
  · have h2 : (l.take i ++ l.drop (i + 1)).Sublist l := by
      conv => rhs; rw [← List.take_append_drop i l]
      exact List.Sublist.append (List.Sublist.refl _) (by rw [List.drop_eq_getElem_cons hi]; exact List.sublist_cons_self _ _)
    exact hr.sublist h2
  · rw [mem_dropO]
    constructor
    · rintro ⟨hy, hne⟩
      rw [← List.take_append_drop i l] at hy
      rcases List.mem_append.1 hy with hy | hy
      · exact List.mem_append.2 (.inl hy)
      · rw [List.drop_eq_getElem_cons hi] at hy
        rcases List.mem_cons.1 hy with e | hy
        · rw [e, he] at hne; cases hne
        · exact List.mem_append.2 (.inr hy)
    · intro hy
      have key : ∀ j (hj : j < l.length), j ≠ i → eq l[j] x = false := by
        intro j hj hne
        rw [Bool.eq_false_iff]
        intro h3
        exact hne (rise_one O hr hj hi (O.eq_trans h3 (by rw [O.symm]; exact he)))
      rcases List.mem_append.1 hy with hy | hy
      · obtain ⟨j, hj, rfl⟩ := List.getElem_of_mem hy
        rw [List.length_take] at hj
        rw [List.getElem_take]
        exact ⟨List.getElem_mem _, key j (by omega) (by omega)⟩
      · obtain ⟨j, hj, rfl⟩ := List.getElem_of_mem hy
        rw [List.length_drop] at hj
        rw [List.getElem_drop]
        exact ⟨List.getElem_mem _, key (i + 1 + j) (by omega) (by omega)⟩

theorem dropO_none {l : List α} {x : α} (h : findO eq l x = none) : dropO eq l x = l := by
  unfold dropO
  rw [List.filter_eq_self]
  intro y hy
  simpa using findO_none h y hy

theorem findO_congr (O : OrdOK lt eq) {l : List α} {x y : α} (h : eq x y = true) : findO eq l x = findO eq l y := by
  unfold findO
  congr 1
  funext e
  cases h1 : eq e y with
  | true => rw [O.eq_trans h1 (by rw [O.symm]; exact h)]
  | false =>
    rw [Bool.eq_false_iff]
    intro h2
    rw [O.eq_trans h2 h] at h1; cases h1

theorem dropO_congr (O : OrdOK lt eq) {l : List α} {x y : α} (h : eq x y = true) : dropO eq l x = dropO eq l y := by
  unfold dropO
  congr 1
  funext e
  congr 1
  cases h1 : eq e y with
  | true => exact O.eq_trans h1 (by rw [O.symm]; exact h)
  | false =>
    rw [Bool.eq_false_iff]
    intro h2
    rw [O.eq_trans h2 h] at h1; cases h1

/-- Put and taken out: as if it were taken out alone. -/
theorem drop_put (O : OrdOK lt eq) {l : List α} (hr : RiseO lt l) (x : α) : dropO eq (putO lt eq l x) x = dropO eq l x := by
  refine rise_unique O (rise_dropO (rise_putO O hr x) x) (rise_dropO hr x) (fun y => ?_)
  rw [mem_dropO, mem_dropO, mem_putO O hr]
  constructor
  · rintro ⟨rfl | h, hn⟩
    · rw [O.refl] at hn; cases hn
    · exact h
  · rintro ⟨h, hn⟩
    exact ⟨.inr ⟨h, hn⟩, hn⟩

/-- Put twice. -/
theorem put_put (O : OrdOK lt eq) {l : List α} (hr : RiseO lt l) {x z : α} (h : eq x z = true) : putO lt eq (putO lt eq l x) z = putO lt eq l z := by
  refine rise_unique O (rise_putO O (rise_putO O hr x) z) (rise_putO O hr z) (fun y => ?_)
  rw [mem_putO O (rise_putO O hr x), mem_putO O hr, mem_putO O hr]
  constructor
  · rintro (h1 | ⟨rfl | h1, hn⟩)
    · exact .inl h1
    · rw [h] at hn; cases hn
    · exact .inr ⟨h1.1, hn⟩
  · rintro (h1 | ⟨h1, hn⟩)
    · exact .inl h1
    · refine .inr ⟨.inr ⟨h1, ?_⟩, hn⟩
      rw [Bool.eq_false_iff]
      intro h2
      rw [O.eq_trans h2 h] at hn; cases hn

/-- Two unlike ones, in any order. -/
theorem put_comm (O : OrdOK lt eq) {l : List α} (hr : RiseO lt l) {x z : α} (h : eq x z = false) : putO lt eq (putO lt eq l x) z = putO lt eq (putO lt eq l z) x := by
  have h' : eq z x = false := by rw [O.symm]; exact h
  refine rise_unique O (rise_putO O (rise_putO O hr x) z) (rise_putO O (rise_putO O hr z) x) (fun y => ?_)
  rw [mem_putO O (rise_putO O hr x), mem_putO O hr, mem_putO O (rise_putO O hr z), mem_putO O hr]
  constructor
  · rintro (rfl | ⟨rfl | h1, hn⟩)
    · exact .inr ⟨.inl rfl, h'⟩
    · exact .inl rfl
    · exact .inr ⟨.inr ⟨h1.1, hn⟩, h1.2⟩
  · rintro (rfl | ⟨rfl | h1, hn⟩)
    · exact .inr ⟨.inl rfl, h⟩
    · exact .inl rfl
    · exact .inr ⟨.inr ⟨h1.1, hn⟩, h1.2⟩

theorem findO_isSome {l : List α} {x : α} : (findO eq l x).isSome = l.any fun e => eq e x := by
  cases h : findO eq l x with
  | some i =>
    obtain ⟨hi, he, _⟩ := findO_some h
    symm
    show (l.any fun e => eq e x) = true
    rw [List.any_eq_true]
    exact ⟨_, List.getElem_mem hi, he⟩
  | none =>
    symm
    show l.any _ = false
    rw [List.any_eq_false]
    intro y hy
    rw [findO_none h y hy]
    simp

theorem findO_put (O : OrdOK lt eq) {l : List α} (hr : RiseO lt l) (x : α) : ∃ i, findO eq (putO lt eq l x) x = some i ∧ (putO lt eq l x)[i]? = some x := by
  have hm : x ∈ putO lt eq l x := (mem_putO O hr x x).2 (.inl rfl)
  cases h : findO eq (putO lt eq l x) x with
  | none =>
    have := findO_none h x hm
    rw [O.refl] at this; cases this
  | some i =>
    obtain ⟨hi, he, _⟩ := findO_some h
    refine ⟨i, rfl, ?_⟩
    rw [List.getElem?_eq_getElem hi, rise_mem O (rise_putO O hr x) (List.getElem_mem hi) hm he]

theorem dropO_len (O : OrdOK lt eq) {l : List α} (hr : RiseO lt l) {x : α} {i : Nat} (h : findO eq l x = some i) : (dropO eq l x).length = l.length - 1 := by
  obtain ⟨hi, _, _⟩ := findO_some h
  rw [dropO_at O hr h, List.length_append, List.length_take, List.length_drop]
  omega

end

end Go.Proofs.Ytkmbnpjnjlcjmaa
