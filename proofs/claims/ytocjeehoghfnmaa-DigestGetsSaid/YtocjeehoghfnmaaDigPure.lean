/-
  PLAIN MATHEMATICS OF LAYER 5 (digest): tables, their bytes and their sum, changes that are set and told. No program in sight.
-/
import Derived.Test.YtocjeehoghfnmaaIdPure
import Derived.Test.YtocjeehoghfnmaaValPure
namespace Go.Proofs.Ytocjeehoghfnmaa

/-- A row of a table. -/
structure Row where
  c : List UInt8
  v : Val

def Row.zero : Row := ⟨[], Val.zero⟩

/-- A change. -/
structure Chg where
  c : List UInt8
  on : Bool
  v : Val

def vSame (x y : Val) : Bool := (x.sh == y.sh && (x.pr == y.pr && (x.si == y.si && x.st == y.st)))

theorem vSame_iff {x y : Val} : vSame x y = true ↔ x = y := by
  obtain ⟨a, b, c, s⟩ := x
  obtain ⟨a', b', c', s'⟩ := y
  simp [vSame]

theorem vSame_self (x : Val) : vSame x x = true := vSame_iff.2 rfl
theorem vSame_no {x y : Val} (h : vSame x y = false) : x ≠ y := fun e => by rw [e, vSame_self] at h; cases h

def rSame (x y : Row) : Bool := (x.c == y.c) && vSame x.v y.v

theorem rSame_iff {x y : Row} : rSame x y = true ↔ x = y := by
  obtain ⟨a, b⟩ := x
  obtain ⟨a', b'⟩ := y
  simp [rSame, vSame_iff]

theorem rSame_self (x : Row) : rSame x x = true := rSame_iff.2 rfl
theorem rSame_no {x y : Row} (h : rSame x y = false) : x ≠ y := fun e => by rw [e, rSame_self] at h; cases h

def cSame (x y : Chg) : Bool := (x.c == y.c) && ((x.on == y.on) && vSame x.v y.v)

theorem cSame_iff {x y : Chg} : cSame x y = true ↔ x = y := by
  obtain ⟨a, o, b⟩ := x
  obtain ⟨a', o', b'⟩ := y
  simp [cSame, vSame_iff]

theorem cSame_self (x : Chg) : cSame x x = true := cSame_iff.2 rfl

theorem row_at {t : List Row} {k : Nat} (h : k < t.length) : t[k]? = some (t.getD k Row.zero) := by simp [List.getD, List.getElem?_eq_getElem h]
theorem row_get {t : List Row} {k : Nat} (h : k < t.length) : t[k] = t.getD k Row.zero := by simp [List.getD, List.getElem?_eq_getElem h]

/-- Two tables, row by row. -/
def tSame (a b : List Row) : Bool := decide (a.length = b.length) && (List.range a.length).all fun i => rSame (a.getD i Row.zero) (b.getD i Row.zero)

theorem tSame_iff {a b : List Row} : tSame a b = true ↔ a = b := by
  constructor
  · intro h
    unfold tSame at h
    simp only [Bool.and_eq_true, decide_eq_true_eq] at h
    obtain ⟨h1, h2⟩ := h
    refine List.ext_getElem h1 fun i p q => ?_
    have := List.all_eq_true.1 h2 i (List.mem_range.2 p)
    rw [row_get p, row_get q]
    exact rSame_iff.1 this
  · intro h
    subst h
    unfold tSame
    simp [rSame_self]

theorem tSame_len {a b : List Row} (h : ¬ a.length = b.length) : tSame a b = false := by
  unfold tSame
  simp [h]

theorem tSame_off {a b : List Row} {k : Nat} (_hk : k < a.length) (h : rSame (a.getD k Row.zero) (b.getD k Row.zero) = false) : tSame a b = false := by
  rw [Bool.eq_false_iff]
  intro h'
  rw [tSame_iff] at h'
  subst h'
  rw [rSame_self] at h
  cases h

theorem tSame_on {a b : List Row} (hl : a.length = b.length) (h : (List.range a.length).all (fun i => rSame (a.getD i Row.zero) (b.getD i Row.zero)) = true) : tSame a b = true := by
  unfold tSame
  rw [h]
  simp [hl]

theorem range_all_succ {k : Nat} {f : Nat → Bool} (h : (List.range k).all f = true) (hk : f k = true) : (List.range (k + 1)).all f = true := by
  rw [List.range_succ, List.all_append, h]
  simp [hk]

theorem range_all_no {n k : Nat} {f : Nat → Bool} (hk : k < n) (h : f k = false) : (List.range n).all f = false := by
  rw [Bool.eq_false_iff]
  intro h'
  have := List.all_eq_true.1 h' k (List.mem_range.2 hk)
  rw [h] at this
  cases this

/-! ### What may be -/

def rowOk (r : Row) : Bool := idIs r.c && vaMay r.v

def rowAt (t : List Row) (j : Nat) : Bool := rowOk (t.getD j Row.zero) && (decide (j = 0) || idLess (t.getD (j - 1) Row.zero).c (t.getD j Row.zero).c)

def diMay (t : List Row) : Bool := decide (t.length ≤ 32) && (List.range t.length).all (rowAt t)

/-- Contacts rise. -/
def RRise (t : List Row) : Prop := t.Pairwise fun x y => idLess x.c y.c = true

theorem diMay_long {t : List Row} (h : 32 < t.length) : diMay t = false := by
  unfold diMay
  simp
  omega

theorem diMay_iff {t : List Row} : diMay t = true ↔ t.length ≤ 32 ∧ (∀ r ∈ t, rowOk r = true) ∧ RRise t := by
  unfold diMay
  simp only [Bool.and_eq_true, decide_eq_true_eq, List.all_eq_true, List.mem_range]
  constructor
  · rintro ⟨h1, h2⟩
    refine ⟨h1, ?_, ?_⟩
    · intro r hr
      obtain ⟨k, hk, rfl⟩ := List.getElem_of_mem hr
      have := h2 k hk
      unfold rowAt at this
      rw [← row_get hk] at this
      simp only [Bool.and_eq_true] at this
      exact this.1
    · have key : ∀ d i, i + d + 1 < t.length → idLess (t.getD i Row.zero).c (t.getD (i + d + 1) Row.zero).c = true := by
        intro d
        induction d with
        | zero =>
          intro i hi
          have := h2 (i + 1) (by omega)
          unfold rowAt at this
          simp only [Bool.and_eq_true] at this
          simpa using this.2
        | succ d ih =>
          intro i hi
          have a := ih i (by omega)
          have := h2 (i + d + 1 + 1) (by omega)
          unfold rowAt at this
          simp only [Bool.and_eq_true] at this
          have b : idLess (t.getD (i + d + 1) Row.zero).c (t.getD (i + d + 1 + 1) Row.zero).c = true := by simpa using this.2
          exact idLess_trans a b
      refine List.pairwise_iff_getElem.2 fun i j hi hj hij => ?_
      rw [row_get hi, row_get hj]
      have := key (j - i - 1) i (by omega)
      rwa [show i + (j - i - 1) + 1 = j by omega] at this
  · rintro ⟨h1, h2, h3⟩
    refine ⟨h1, fun k hk => ?_⟩
    unfold rowAt
    rw [← row_get hk, h2 _ (List.getElem_mem hk)]
    simp only [Bool.true_and, Bool.or_eq_true, decide_eq_true_eq]
    by_cases h0 : k = 0
    · exact .inl h0
    · right
      have := List.pairwise_iff_getElem.1 h3 (k - 1) k (by omega) hk (by omega)
      rwa [row_get (show k - 1 < t.length by omega)] at this

theorem rowOk_parts {r : Row} (h : rowOk r = true) : idIs r.c = true ∧ vaMay r.v = true := by
  unfold rowOk at h
  simpa using h

/-! ### Bytes -/

def rowBytes (r : Row) : List UInt8 := (vput r.c.length ++ r.c) ++ vaBytes r.v
def rowsBytes (t : List Row) : List UInt8 := (t.map rowBytes).flatten
def diBytes (t : List Row) : List UInt8 := vput t.length ++ rowsBytes t
def diPut (t : List Row) : List UInt8 × Bool := if diMay t = true then (diBytes t, true) else ([], false)

theorem rowsBytes_cons (r : Row) (t : List Row) : rowsBytes (r :: t) = rowBytes r ++ rowsBytes t := rfl

theorem rowsBytes_succ {t : List Row} {k : Nat} (h : k < t.length) : rowsBytes (t.take (k + 1)) = rowsBytes (t.take k) ++ rowBytes (t.getD k Row.zero) := by
  unfold rowsBytes
  rw [List.take_succ_eq_append_getElem h, row_get h]
  simp

theorem rowBytes_len {r : Row} (h : rowOk r = true) : (rowBytes r).length ≤ 62 ∧ 5 ≤ (rowBytes r).length := by
  obtain ⟨h1, h2⟩ := rowOk_parts h
  have a := (idIs_parts h1).2.1
  have a1 := (idIs_parts h1).1
  have b := vaBytes_len h2
  have c := (vaMay_parts h2)
  have d := vput_small_len (show r.c.length < 128 by omega)
  have e : (vput r.v.si.toNat).length ≤ 10 := vput_len_le _
  have e1 := vput_len_pos r.v.si.toNat
  unfold rowBytes
  simp only [List.length_append]
  omega

theorem rowsBytes_len : ∀ {t : List Row}, (∀ r ∈ t, rowOk r = true) → (rowsBytes t).length ≤ 62 * t.length
  | [], _ => by simp [rowsBytes]
  | r :: t, h => by
    have a := (rowBytes_len (h r (by simp))).1
    have b := rowsBytes_len (t := t) (fun x hx => h x (by simp [hx]))
    rw [rowsBytes_cons, List.length_append, List.length_cons]
    omega

theorem diBytes_len {t : List Row} (h : diMay t = true) : (diBytes t).length ≤ 1985 := by
  obtain ⟨h1, h2, _⟩ := diMay_iff.1 h
  have a := rowsBytes_len h2
  have b := vput_small_len (show t.length < 128 by omega)
  unfold diBytes
  rw [List.length_append]
  omega

theorem diPut_len (t : List Row) : (diPut t).1.length ≤ 1985 := by
  unfold diPut
  by_cases h : diMay t = true
  · rw [if_pos h]; exact diBytes_len h
  · rw [if_neg h]; simp

/-- The row at a place of bytes: row, place behind it, error. -/
def diTakeRow (l : List UInt8) (p : Nat) : Row × Nat × Nat :=
  if (idTake l p).2.2 ≠ 0 then (Row.zero, 0, (idTake l p).2.2)
  else if (vaTake l (idTake l p).2.1).2.2 ≠ 0 then (Row.zero, 0, (vaTake l (idTake l p).2.1).2.2)
  else (⟨(idTake l p).1, (vaTake l (idTake l p).2.1).1⟩, (vaTake l (idTake l p).2.1).2.1, 0)

/-- n rows. -/
def diRows : Nat → List UInt8 → Nat → List Row × Nat × Nat
  | 0, _, p => ([], p, 0)
  | n + 1, l, p =>
    if (diTakeRow l p).2.2 ≠ 0 then ([], 0, (diTakeRow l p).2.2)
    else if (diRows n l (diTakeRow l p).2.1).2.2 ≠ 0 then ([], 0, (diRows n l (diTakeRow l p).2.1).2.2)
    else ((diTakeRow l p).1 :: (diRows n l (diTakeRow l p).2.1).1, (diRows n l (diTakeRow l p).2.1).2.1, 0)

/-- The table. -/
def diTake (l : List UInt8) (p : Int) : List Row × Nat × Nat :=
  if (vget l p).2.2 ≠ 0 then ([], 0, (vget l p).2.2)
  else if 32 < (vget l p).1 then ([], 0, 3)
  else if (diRows (vget l p).1 l (vget l p).2.1).2.2 ≠ 0 then ([], 0, (diRows (vget l p).1 l (vget l p).2.1).2.2)
  else if diMay (diRows (vget l p).1 l (vget l p).2.1).1 = false then ([], 0, 3)
  else ((diRows (vget l p).1 l (vget l p).2.1).1, (diRows (vget l p).1 l (vget l p).2.1).2.1, 0)

/-- What was taken so far, and what is still to be taken. -/
def diComb (acc : List Row) (r : List Row × Nat × Nat) : List Row × Nat × Nat := if r.2.2 ≠ 0 then ([], 0, r.2.2) else (acc ++ r.1, r.2.1, 0)

theorem diRows_shape : ∀ (n : Nat) (l : List UInt8) (p : Nat), (diRows n l p).2.2 = 0 ∨ diRows n l p = ([], 0, (diRows n l p).2.2)
  | 0, l, p => .inl rfl
  | n + 1, l, p => by
    unfold diRows
    by_cases h1 : (diTakeRow l p).2.2 ≠ 0
    · rw [if_pos h1]; exact .inr rfl
    · rw [if_neg h1]
      by_cases h2 : (diRows n l (diTakeRow l p).2.1).2.2 ≠ 0
      · rw [if_pos h2]; exact .inr rfl
      · rw [if_neg h2]; exact .inl rfl

theorem diComb_start (n : Nat) (l : List UInt8) (p : Nat) : diComb [] (diRows n l p) = diRows n l p := by
  unfold diComb
  rcases diRows_shape n l p with h | h
  · rw [if_neg (by rw [h]; simp)]
    exact Prod.ext rfl (Prod.ext rfl h.symm)
  · by_cases h0 : (diRows n l p).2.2 ≠ 0
    · rw [if_pos h0, ← h]
    · rw [if_neg h0]
      exact Prod.ext rfl (Prod.ext rfl (Decidable.not_not.1 h0).symm)

theorem diComb_end (acc : List Row) (l : List UInt8) (p : Nat) : diComb acc (diRows 0 l p) = (acc, p, 0) := by simp [diComb, diRows]

theorem diComb_step {n : Nat} {l : List UInt8} {p : Nat} (acc : List Row) {r : Row} {f : Nat} (h : diTakeRow l p = (r, f, 0)) :
    diComb acc (diRows (n + 1) l p) = diComb (acc ++ [r]) (diRows n l f) := by
  conv => lhs; unfold diRows
  rw [h]
  simp only [ne_eq, not_true_eq_false, if_false]
  unfold diComb
  by_cases h2 : (diRows n l f).2.2 ≠ 0
  · rw [if_pos h2, if_pos h2, if_pos h2]
  · rw [if_neg h2, if_neg h2]
    simp

theorem diComb_err {n : Nat} {l : List UInt8} {p : Nat} (acc : List Row) {r : Row} {f e : Nat} (h : diTakeRow l p = (r, f, e)) (he : e ≠ 0) :
    diComb acc (diRows (n + 1) l p) = ([], 0, e) := by
  unfold diRows
  rw [h]
  simp only [if_pos he]
  unfold diComb
  rw [if_pos he]

theorem idTake_at {t : List UInt8} (h : idIs t = true) (a z : List UInt8) : idTake (a ++ ((vput t.length ++ t) ++ z)) (a.length : Int) = (t, a.length + (vput t.length ++ t).length, 0) := by
  have hl := (idIs_parts h).2.1
  have e := vtake_text a t z 16 (by omega) (by omega)
  unfold idTake
  rw [e]
  simp [h]
  omega

theorem diTakeRow_put {r : Row} (h : rowOk r = true) (a z : List UInt8) : diTakeRow (a ++ (rowBytes r ++ z)) a.length = (r, a.length + (rowBytes r).length, 0) := by
  obtain ⟨h1, h2⟩ := rowOk_parts h
  have e1 := idTake_at h1 a (vaBytes r.v ++ z)
  have e2 := vaTake_put h2 (a ++ (vput r.c.length ++ r.c)) z
  have e3 : a ++ (rowBytes r ++ z) = a ++ ((vput r.c.length ++ r.c) ++ (vaBytes r.v ++ z)) := by simp [rowBytes]
  have e4 : (a ++ (vput r.c.length ++ r.c)) ++ (vaBytes r.v ++ z) = a ++ ((vput r.c.length ++ r.c) ++ (vaBytes r.v ++ z)) := by simp
  rw [e4] at e2
  have e5 : (((a ++ (vput r.c.length ++ r.c)).length : Nat) : Int) = ((a.length + (vput r.c.length ++ r.c).length : Nat) : Int) := by simp
  rw [e5] at e2
  unfold diTakeRow
  rw [e3, e1]
  simp only [ne_eq, not_true_eq_false, if_false]
  rw [e2]
  simp only [not_true_eq_false, if_false]
  refine Prod.ext rfl (Prod.ext ?_ rfl)
  simp [rowBytes]
  omega

theorem diRows_put : ∀ (t : List Row), (∀ r ∈ t, rowOk r = true) → ∀ a z : List UInt8, diRows t.length (a ++ (rowsBytes t ++ z)) a.length = (t, a.length + (rowsBytes t).length, 0)
  | [], _, a, z => by simp [diRows, rowsBytes]
  | r :: t, h, a, z => by
    have e1 := diTakeRow_put (h r (by simp)) a (rowsBytes t ++ z)
    have e2 := diRows_put t (fun x hx => h x (by simp [hx])) (a ++ rowBytes r) z
    have e3 : a ++ (rowsBytes (r :: t) ++ z) = a ++ (rowBytes r ++ (rowsBytes t ++ z)) := by simp [rowsBytes_cons]
    have e4 : (a ++ rowBytes r) ++ (rowsBytes t ++ z) = a ++ (rowBytes r ++ (rowsBytes t ++ z)) := by simp
    rw [e4, List.length_append] at e2
    rw [List.length_cons, e3]
    unfold diRows
    rw [e1]
    simp only [ne_eq, not_true_eq_false, if_false]
    rw [e2]
    simp only [not_true_eq_false, if_false]
    rw [rowsBytes_cons, List.length_append, Nat.add_assoc]

theorem diTake_put {t : List Row} (h : diMay t = true) (a z : List UInt8) : diTake (a ++ (diBytes t ++ z)) (a.length : Int) = (t, a.length + (diBytes t).length, 0) := by
  obtain ⟨h1, h2, _⟩ := diMay_iff.1 h
  have e1 := vget_vput t.length (by omega) a (rowsBytes t ++ z)
  have e2 := diRows_put t h2 (a ++ vput t.length) z
  have e3 : a ++ (diBytes t ++ z) = a ++ (vput t.length ++ (rowsBytes t ++ z)) := by simp [diBytes]
  have e4 : (a ++ vput t.length) ++ (rowsBytes t ++ z) = a ++ (vput t.length ++ (rowsBytes t ++ z)) := by simp
  rw [e4, List.length_append] at e2
  unfold diTake
  rw [e3, e1]
  simp only [ne_eq, not_true_eq_false, if_false]
  rw [if_neg (by omega), e2]
  simp only [not_true_eq_false, if_false]
  rw [h]
  simp only [Bool.true_eq_false, if_false]
  simp only [diBytes, List.length_append, Nat.add_assoc]

theorem idTake_bytes {l : List UInt8} {p : Nat} {t : List UInt8} {f : Nat} (h : idTake l p = (t, f, 0)) : idIs t = true ∧ p ≤ f ∧ f ≤ l.length ∧ vput t.length ++ t = (l.drop p).take (f - p) := by
  unfold idTake at h
  by_cases h1 : (vtake l p 16).2.2 ≠ 0
  · rw [if_pos h1] at h
    simp only [Prod.mk.injEq] at h
    exact absurd h.2.2 h1
  · rw [if_neg h1] at h
    by_cases h2 : idIs (vtake l p 16).1 = true
    · rw [if_pos h2] at h
      rw [h] at h2
      have := vtake_bytes h
      exact ⟨h2, this.1, this.2.1, this.2.2.1⟩
    · rw [if_neg h2] at h
      simp at h

theorem diTakeRow_bytes {l : List UInt8} {p : Nat} {r : Row} {f : Nat} (h : diTakeRow l p = (r, f, 0)) : rowOk r = true ∧ p ≤ f ∧ f ≤ l.length ∧ rowBytes r = (l.drop p).take (f - p) := by
  obtain ⟨c, g, e, hc⟩ : ∃ c g e, idTake l p = (c, g, e) := ⟨_, _, _, rfl⟩
  unfold diTakeRow at h
  rw [hc] at h
  simp only at h
  by_cases h1 : e = 0
  · subst h1
    simp only [ne_eq, not_true_eq_false, if_false] at h
    obtain ⟨v, k, e', hv⟩ : ∃ v k e', vaTake l g = (v, k, e') := ⟨_, _, _, rfl⟩
    rw [hv] at h
    simp only at h
    by_cases h2 : e' = 0
    · subst h2
      simp only [not_true_eq_false, if_false, Prod.mk.injEq, and_true] at h
      obtain ⟨rfl, rfl⟩ := h
      obtain ⟨a1, a2, a3, a4⟩ := idTake_bytes hc
      obtain ⟨b1, b2, b3, b4⟩ := vaPut_take hv
      refine ⟨by unfold rowOk; rw [a1, b1]; rfl, by omega, b3, ?_⟩
      unfold rowBytes
      simp only
      rw [a4, b4, show k - p = (g - p) + (k - g) by omega, List.take_add, List.drop_drop]
      congr 3
      omega
    · rw [if_pos h2] at h
      simp only [Prod.mk.injEq] at h
      exact absurd h.2.2 h2
  · rw [if_pos h1] at h
    simp only [Prod.mk.injEq] at h
    exact absurd h.2.2 h1

theorem diRows_bytes : ∀ (n : Nat) {l : List UInt8} {p : Nat} {t : List Row} {f : Nat}, p ≤ l.length → diRows n l p = (t, f, 0) →
    t.length = n ∧ (∀ r ∈ t, rowOk r = true) ∧ p ≤ f ∧ f ≤ l.length ∧ rowsBytes t = (l.drop p).take (f - p)
  | 0, l, p, t, f, hp, h => by
    simp only [diRows, Prod.mk.injEq, and_true] at h
    obtain ⟨rfl, rfl⟩ := h
    exact ⟨rfl, by simp, Nat.le_refl _, hp, by simp [rowsBytes]⟩
  | n + 1, l, p, t, f, hp, h => by
    obtain ⟨r, g, e, hr⟩ : ∃ r g e, diTakeRow l p = (r, g, e) := ⟨_, _, _, rfl⟩
    unfold diRows at h
    rw [hr] at h
    simp only at h
    by_cases h1 : e = 0
    · subst h1
      simp only [ne_eq, not_true_eq_false, if_false] at h
      obtain ⟨u, k, e', hu⟩ : ∃ u k e', diRows n l g = (u, k, e') := ⟨_, _, _, rfl⟩
      rw [hu] at h
      simp only at h
      by_cases h2 : e' = 0
      · subst h2
        simp only [not_true_eq_false, if_false, Prod.mk.injEq, and_true] at h
        obtain ⟨rfl, rfl⟩ := h
        obtain ⟨a1, a2, a3, a4⟩ := diTakeRow_bytes hr
        obtain ⟨b1, b2, b3, b4, b5⟩ := diRows_bytes n a3 hu
        refine ⟨by simp [b1], ?_, by omega, b4, ?_⟩
        · intro x hx
          rcases List.mem_cons.1 hx with rfl | hx
          · exact a1
          · exact b2 x hx
        · rw [rowsBytes_cons, a4, b5, show k - p = (g - p) + (k - g) by omega, List.take_add, List.drop_drop]
          congr 3
          omega
      · rw [if_pos h2] at h
        simp only [Prod.mk.injEq] at h
        exact absurd h.2.2 h2
    · rw [if_pos h1] at h
      simp only [Prod.mk.injEq] at h
      exact absurd h.2.2 h1

theorem vget_in_facts {l : List UInt8} {p : Int} {n f : Nat} (h : vget l p = (n, f, 0)) : 0 ≤ p ∧ p.toNat ≤ f ∧ f ≤ l.length ∧ vput n = (l.drop p.toNat).take (f - p.toNat) := by
  have hp : 0 ≤ p := by
    by_cases h0 : 0 ≤ p
    · exact h0
    · unfold vget at h
      rw [if_pos (.inl (by omega))] at h
      simp at h
  obtain ⟨q, rfl⟩ := Int.eq_ofNat_of_zero_le hp
  have := vget_bytes h
  exact ⟨hp, by simpa using this.1, this.2.1, by simpa using this.2.2⟩

theorem diTake_bytes {l : List UInt8} {p : Int} {t : List Row} {f : Nat} (h : diTake l p = (t, f, 0)) : diMay t = true ∧ 0 ≤ p ∧ p.toNat ≤ f ∧ f ≤ l.length ∧ diBytes t = (l.drop p.toNat).take (f - p.toNat) := by
  obtain ⟨n, g, e, hg⟩ : ∃ n g e, vget l p = (n, g, e) := ⟨_, _, _, rfl⟩
  unfold diTake at h
  rw [hg] at h
  simp only at h
  by_cases h1 : e = 0
  · subst h1
    simp only [ne_eq, not_true_eq_false, if_false] at h
    by_cases h2 : 32 < n
    · rw [if_pos h2] at h; simp at h
    · rw [if_neg h2] at h
      obtain ⟨u, k, e', hu⟩ : ∃ u k e', diRows n l g = (u, k, e') := ⟨_, _, _, rfl⟩
      rw [hu] at h
      simp only at h
      by_cases h3 : e' = 0
      · subst h3
        simp only [not_true_eq_false, if_false] at h
        cases hm : diMay u with
        | false => rw [hm] at h; simp at h
        | true =>
          rw [hm] at h
          simp only [Bool.true_eq_false, if_false, Prod.mk.injEq, and_true] at h
          obtain ⟨rfl, rfl⟩ := h
          obtain ⟨a0, a1, a2, a3⟩ := vget_in_facts hg
          obtain ⟨b1, b2, b3, b4, b5⟩ := diRows_bytes n a2 hu
          refine ⟨hm, a0, by omega, b4, ?_⟩
          unfold diBytes
          rw [b1, a3, b5, show k - p.toNat = (g - p.toNat) + (k - g) by omega, List.take_add, List.drop_drop]
          congr 3
          omega
      · rw [if_pos h3] at h
        simp only [Prod.mk.injEq] at h
        exact absurd h.2.2 h3
  · rw [if_pos h1] at h
    simp only [Prod.mk.injEq] at h
    exact absurd h.2.2 h1

/-- With an error there is nothing. -/
theorem diTake_err (l : List UInt8) (p : Int) : (diTake l p).2.2 = 0 ∨ ((diTake l p).1 = [] ∧ (diTake l p).2.1 = 0) := by
  unfold diTake
  split
  · exact .inr ⟨rfl, rfl⟩
  split
  · exact .inr ⟨rfl, rfl⟩
  split
  · exact .inr ⟨rfl, rfl⟩
  split
  · exact .inr ⟨rfl, rfl⟩
  · exact .inl rfl

theorem diBytes_inj {t u : List Row} (ht : diMay t = true) (hu : diMay u = true) (h : diBytes t = diBytes u) : t = u := by
  have a := diTake_put ht [] []
  have b := diTake_put hu [] []
  rw [h, b] at a
  exact (Prod.mk.injEq .. ▸ a).1.symm

/-! ### The sum -/

def fnvM : Nat := 18446744073709551616
def fnvP : Nat := 1099511628211
def fnvB : Nat := 14695981039346656037
def fnv1 (h : Nat) (b : UInt8) : Nat := ((h ^^^ b.toNat) * fnvP) % fnvM
def fnv (l : List UInt8) : Nat := l.foldl fnv1 fnvB
def diSum (t : List Row) : Nat := fnv (diPut t).1

theorem foldl_snoc {α β : Type} (f : β → α → β) (i : β) (l : List α) (b : α) : (l ++ [b]).foldl f i = f (l.foldl f i) b := by simp

theorem fnv_snoc (l : List UInt8) (b : UInt8) : fnv (l ++ [b]) = fnv1 (fnv l) b := foldl_snoc fnv1 fnvB l b

theorem fnvM_pos : 0 < fnvM := by unfold fnvM; omega

theorem fnv_lt (l : List UInt8) : fnv l < fnvM := by
  rcases List.eq_nil_or_concat l with rfl | ⟨a, b, rfl⟩
  · show fnvB < fnvM
    unfold fnvB fnvM
    omega
  · rw [List.concat_eq_append, fnv_snoc]
    unfold fnv1
    exact Nat.mod_lt _ fnvM_pos

/-! ### Get and Set -/

def diGet : List Row → List UInt8 → Val × Bool
  | [], _ => (Val.zero, false)
  | r :: t, x => if r.c = x then (r.v, true) else diGet t x

def gSame (p q : Val × Bool) : Bool := vSame p.1 q.1 && (p.2 == q.2)

theorem gSame_iff {p q : Val × Bool} : gSame p q = true ↔ p = q := by
  obtain ⟨a, b⟩ := p
  obtain ⟨a', b'⟩ := q
  simp [gSame, vSame_iff]

def diRest (t : List Row) (x : List UInt8) : List Row := t.filter fun r => !(r.c == x)

def plc (t : List Row) (x : List UInt8) : Nat → Nat
  | 0 => 0
  | k + 1 => if idLess (t.getD k Row.zero).c x = true then k + 1 else plc t x k

theorem plc_le (t : List Row) (x : List UInt8) : ∀ k, plc t x k ≤ k
  | 0 => Nat.le_refl _
  | k + 1 => by
    unfold plc
    split
    · exact Nat.le_refl _
    · exact Nat.le_succ_of_le (plc_le t x k)

def diPlace (t : List Row) (x : List UInt8) : Nat := plc t x t.length

def diIns (t : List Row) (r : Row) : List Row := t.take (diPlace t r.c) ++ ([r] ++ t.drop (diPlace t r.c))

def diSet (t : List Row) (c : Chg) : List Row := if c.on = true then diIns (diRest t c.c) ⟨c.c, c.v⟩ else diRest t c.c

/-- What a change makes of its own contact. -/
def chGet (c : Chg) : Val × Bool := if c.on = true then (c.v, true) else (Val.zero, false)

theorem diGet_none : ∀ {t : List Row} {x : List UInt8}, (∀ r ∈ t, ¬ r.c = x) → diGet t x = (Val.zero, false)
  | [], _, _ => rfl
  | r :: t, x, h => by
    unfold diGet
    rw [if_neg (h r (by simp)), diGet_none (fun s hs => h s (by simp [hs]))]

theorem diGet_hit {r : Row} {x : List UInt8} (h : r.c = x) (t : List Row) : diGet (r :: t) x = (r.v, true) := by unfold diGet; rw [if_pos h]
theorem diGet_miss {r : Row} {x : List UInt8} (h : ¬ r.c = x) (t : List Row) : diGet (r :: t) x = diGet t x := by conv => lhs; unfold diGet
                                                                                                                  rw [if_neg h]

theorem diGet_append : ∀ (a b : List Row) (x : List UInt8), diGet (a ++ b) x = if (diGet a x).2 = true then diGet a x else diGet b x
  | [], b, x => by simp [diGet]
  | r :: a, b, x => by
    rw [List.cons_append]
    by_cases h : r.c = x
    · rw [diGet_hit h, diGet_hit h]; simp
    · rw [diGet_miss h, diGet_miss h]
      exact diGet_append a b x

theorem diGet_some {t : List Row} {x : List UInt8} : ∀ {v : Val}, diGet t x = (v, true) → ⟨x, v⟩ ∈ t := by
  induction t with
  | nil => intro v h; simp [diGet] at h
  | cons r t ih =>
    intro v h
    unfold diGet at h
    by_cases hr : r.c = x
    · rw [if_pos hr] at h
      simp only [Prod.mk.injEq, and_true] at h
      subst hr h
      simp
    · rw [if_neg hr] at h
      exact List.mem_cons_of_mem _ (ih h)

theorem diGet_zero (t : List Row) (x : List UInt8) : (diGet t x).2 = true ∨ diGet t x = (Val.zero, false) := by
  induction t with
  | nil => exact .inr rfl
  | cons r t ih =>
    unfold diGet
    by_cases h : r.c = x
    · rw [if_pos h]; exact .inl rfl
    · rw [if_neg h]; exact ih

theorem diGet_has (t : List Row) (x : List UInt8) : (diGet t x).2 = true ↔ x ∈ t.map (·.c) := by
  induction t with
  | nil => simp [diGet]
  | cons r t ih =>
    unfold diGet
    by_cases h : r.c = x
    · rw [if_pos h]; simp [h]
    · rw [if_neg h, ih]
      simp only [List.map_cons, List.mem_cons]
      constructor
      · exact .inr
      · rintro (e | e)
        · exact absurd e.symm h
        · exact e

theorem diGet_rest_same (t : List Row) (x : List UInt8) : diGet (diRest t x) x = (Val.zero, false) := by
  refine diGet_none fun r hr => ?_
  have := (List.mem_filter.1 hr).2
  simpa using this

theorem diGet_rest_other {x y : List UInt8} (h : ¬ y = x) : ∀ t : List Row, diGet (diRest t x) y = diGet t y
  | [] => rfl
  | r :: t => by
    have ih := diGet_rest_other h t
    unfold diRest at ih ⊢
    by_cases hr : r.c = x
    · have : (!(r.c == x)) = false := by simp [hr]
      rw [List.filter_cons_of_neg (by simp [this])]
      rw [ih]
      conv => rhs; unfold diGet
      rw [if_neg (fun e => h (e.symm.trans hr))]
    · rw [List.filter_cons_of_pos (by simpa using hr)]
      unfold diGet
      rw [ih]

theorem diGet_ins (t : List Row) (r : Row) (x : List UInt8) (h0 : diGet t r.c = (Val.zero, false)) : diGet (diIns t r) x = if x = r.c then (r.v, true) else diGet t x := by
  unfold diIns
  have hsplit : diGet t x = if (diGet (t.take (diPlace t r.c)) x).2 = true then diGet (t.take (diPlace t r.c)) x else diGet (t.drop (diPlace t r.c)) x := by
    rw [← diGet_append, List.take_append_drop]
  have hmid : diGet ([r] ++ t.drop (diPlace t r.c)) x = if r.c = x then (r.v, true) else diGet (t.drop (diPlace t r.c)) x := by
    simp [diGet]
  rw [diGet_append, hmid]
  by_cases hx : x = r.c
  · subst hx
    have : (diGet (t.take (diPlace t r.c)) r.c).2 = false := by
      rw [h0] at hsplit
      cases hh : (diGet (t.take (diPlace t r.c)) r.c).2 with
      | false => rfl
      | true =>
        rw [if_pos hh] at hsplit
        rw [← hsplit] at hh
        cases hh
    rw [if_neg (by rw [this]; decide), if_pos rfl, if_pos rfl]
  · have hx' : ¬ r.c = x := fun e => hx e.symm
    rw [if_neg hx, hsplit]
    simp only [if_neg hx']

theorem diGet_set (t : List Row) (c : Chg) (x : List UInt8) : diGet (diSet t c) x = if x = c.c then chGet c else diGet t x := by
  unfold diSet chGet
  by_cases ho : c.on = true
  · rw [if_pos ho, if_pos ho, diGet_ins _ _ _ (diGet_rest_same t c.c)]
    by_cases hx : x = c.c
    · rw [if_pos hx, if_pos hx]
    · rw [if_neg hx, if_neg hx, diGet_rest_other hx]
  · rw [if_neg ho, if_neg ho]
    by_cases hx : x = c.c
    · rw [if_pos hx, hx, diGet_rest_same]
    · rw [if_neg hx, diGet_rest_other hx]

/-! ### Rising tables -/

theorem rest_rise {t : List Row} (h : RRise t) (x : List UInt8) : RRise (diRest t x) := List.Pairwise.filter _ h

theorem plc_before {t : List Row} {x : List UInt8} (h : RRise t) : ∀ k, k ≤ t.length → ∀ i, i < plc t x k → idLess (t.getD i Row.zero).c x = true
  | 0, _, i, hi => by simp [plc] at hi
  | k + 1, hk, i, hi => by
    unfold plc at hi
    by_cases hl : idLess (t.getD k Row.zero).c x = true
    · rw [if_pos hl] at hi
      by_cases he : i = k
      · rw [he]; exact hl
      · have := List.pairwise_iff_getElem.1 h i k (by omega) (by omega) (by omega)
        rw [row_get (show i < t.length by omega), row_get (show k < t.length by omega)] at this
        exact idLess_trans this hl
    · rw [if_neg hl] at hi
      exact plc_before h k (by omega) i hi

theorem plc_after {t : List Row} {x : List UInt8} : ∀ k, k ≤ t.length → ∀ i, plc t x k ≤ i → i < k → idLess (t.getD i Row.zero).c x = false
  | 0, _, i, _, hi => by omega
  | k + 1, hk, i, h1, h2 => by
    unfold plc at h1
    by_cases hl : idLess (t.getD k Row.zero).c x = true
    · rw [if_pos hl] at h1
      omega
    · rw [if_neg hl] at h1
      by_cases he : i = k
      · rw [he]; simpa using hl
      · exact plc_after k (by omega) i h1 (by omega)

theorem ins_rise {t : List Row} {r : Row} (h : RRise t) (hn : ∀ s ∈ t, ¬ s.c = r.c) : RRise (diIns t r) := by
  have hp := plc_le t r.c t.length
  unfold diIns
  have hb : ∀ s ∈ t.take (diPlace t r.c), idLess s.c r.c = true := by
    intro s hs
    obtain ⟨i, hi, rfl⟩ := List.getElem_of_mem hs
    have hi' : i < diPlace t r.c := by simp at hi; omega
    rw [List.getElem_take, row_get (by unfold diPlace at hi'; omega)]
    exact plc_before h t.length (Nat.le_refl _) i hi'
  have ha : ∀ s ∈ t.drop (diPlace t r.c), idLess r.c s.c = true := by
    intro s hs
    obtain ⟨i, hi, rfl⟩ := List.getElem_of_mem hs
    have hi' : diPlace t r.c + i < t.length := by simp at hi; omega
    have h1 := plc_after (x := r.c) t.length (Nat.le_refl _) (diPlace t r.c + i) (by unfold diPlace; omega) hi'
    have h2 := hn _ (List.getElem_mem hi')
    rw [row_get hi'] at h2
    rw [List.getElem_drop, row_get hi']
    rcases idLess_tri (t.getD (diPlace t r.c + i) Row.zero).c r.c with h3 | h3 | h3
    · rw [h1] at h3; cases h3.1
    · exact h3.2.1
    · exact absurd h3.2.2 h2
  unfold RRise at h ⊢
  rw [List.pairwise_append]
  refine ⟨List.Pairwise.sublist (List.take_sublist _ _) h, ?_, ?_⟩
  · rw [List.singleton_append, List.pairwise_cons]
    exact ⟨ha, List.Pairwise.sublist (List.drop_sublist _ _) h⟩
  · intro a ha' b hb'
    rcases List.mem_append.1 hb' with h1 | h1
    · simp only [List.mem_singleton] at h1
      subst h1
      exact hb a ha'
    · exact idLess_trans (hb a ha') (ha b h1)

theorem set_rise {t : List Row} (h : RRise t) (c : Chg) : RRise (diSet t c) := by
  unfold diSet
  by_cases ho : c.on = true
  · rw [if_pos ho]
    refine ins_rise (rest_rise h _) fun s hs => ?_
    have := (List.mem_filter.1 hs).2
    simpa using this
  · rw [if_neg ho]
    exact rest_rise h _

/-- Rising tables of which all is got alike are the same. -/
theorem rise_ext : ∀ {a b : List Row}, RRise a → RRise b → (∀ x, diGet a x = diGet b x) → a = b
  | [], [], _, _, _ => rfl
  | [], r :: b, _, _, h => by have := h r.c; simp [diGet] at this
  | r :: a, [], _, _, h => by have := h r.c; simp [diGet] at this
  | r :: a, s :: b, ha, hb, h => by
    obtain ⟨ha1, ha2⟩ := List.pairwise_cons.1 ha
    obtain ⟨hb1, hb2⟩ := List.pairwise_cons.1 hb
    have out : ∀ {z : Row} {l : List Row}, (∀ y ∈ l, idLess z.c y.c = true) → diGet l z.c = (Val.zero, false) := fun hz => diGet_none fun y hy e => by
      have := hz y hy
      rw [e, idLess_irrefl] at this
      cases this
    have hc : r.c = s.c := by
      by_cases hc : r.c = s.c
      · exact hc
      · have h1 := h r.c
        have h2 := h s.c
        unfold diGet at h1 h2
        rw [if_pos rfl, if_neg (fun e => hc e.symm)] at h1
        rw [if_pos rfl, if_neg hc] at h2
        have m1 := diGet_some h1.symm
        have m2 := diGet_some h2
        have p := hb1 _ m1
        have q := ha1 _ m2
        have := idLess_trans p q
        rw [idLess_irrefl] at this
        cases this
    have hv : r.v = s.v := by
      have h1 := h r.c
      unfold diGet at h1
      rw [if_pos rfl, if_pos hc.symm] at h1
      exact (Prod.mk.injEq .. ▸ h1).1
    have he : r = s := by
      obtain ⟨_, _⟩ := r
      obtain ⟨_, _⟩ := s
      simp only at hc hv
      subst hc hv
      rfl
    subst he
    rw [rise_ext ha2 hb2 fun x => ?_]
    have hx := h x
    unfold diGet at hx
    by_cases e : r.c = x
    · subst e
      rw [out ha1, out hb1]
    · rwa [if_neg e, if_neg e] at hx

theorem set_set {t : List Row} (h : RRise t) (a b : Chg) (hc : ¬ a.c = b.c) : diSet (diSet t a) b = diSet (diSet t b) a := by
  refine rise_ext (set_rise (set_rise h a) b) (set_rise (set_rise h b) a) fun x => ?_
  rw [diGet_set, diGet_set, diGet_set, diGet_set]
  by_cases h1 : x = b.c
  · by_cases h2 : x = a.c
    · exact absurd (h2.symm.trans h1) hc
    · rw [if_pos h1, if_neg h2, if_pos h1]
  · rw [if_neg h1, if_neg h1]

theorem set_last {t : List Row} (h : RRise t) (a b : Chg) (hc : a.c = b.c) : diSet (diSet t a) b = diSet t b := by
  refine rise_ext (set_rise (set_rise h a) b) (set_rise h b) fun x => ?_
  rw [diGet_set, diGet_set, diGet_set]
  by_cases h1 : x = b.c
  · rw [if_pos h1, if_pos h1]
  · rw [if_neg h1, if_neg h1, if_neg (by rw [hc]; exact h1)]

theorem rest_len (t : List Row) (x : List UInt8) : (diRest t x).length ≤ t.length := List.length_filter_le _ _

theorem diIns_len (t : List Row) (r : Row) : (diIns t r).length = t.length + 1 := by
  have := plc_le t r.c t.length
  unfold diIns diPlace
  simp
  omega

theorem set_len (t : List Row) (c : Chg) : (diSet t c).length ≤ t.length + 1 := by
  have := rest_len t c.c
  unfold diSet
  split
  · rw [diIns_len]; omega
  · omega

theorem set_mem {t : List Row} {c : Chg} {r : Row} (h : r ∈ diSet t c) : r ∈ t ∨ (c.on = true ∧ r = ⟨c.c, c.v⟩) := by
  unfold diSet at h
  by_cases ho : c.on = true
  · rw [if_pos ho] at h
    unfold diIns at h
    rcases List.mem_append.1 h with h | h
    · exact .inl (List.mem_filter.1 (List.mem_of_mem_take h)).1
    · rcases List.mem_append.1 h with h | h
      · exact .inr ⟨ho, by simpa using h⟩
      · exact .inl (List.mem_filter.1 (List.mem_of_mem_drop h)).1
  · rw [if_neg ho] at h
    exact .inl (List.mem_filter.1 h).1

theorem set_has {t : List Row} {c : Chg} (h : c.on = true) : (⟨c.c, c.v⟩ : Row) ∈ diSet t c := by
  unfold diSet
  rw [if_pos h]
  unfold diIns
  simp

/-- When a table with a change set in it may be. -/
theorem set_may {t : List Row} (h : diMay t = true) (c : Chg) : diMay (diSet t c) = (!c.on || (rowOk ⟨c.c, c.v⟩ && decide ((diSet t c).length ≤ 32))) := by
  obtain ⟨h1, h2, h3⟩ := diMay_iff.1 h
  cases ho : c.on with
  | false =>
    simp only [Bool.not_false, Bool.true_or]
    refine diMay_iff.2 ⟨?_, ?_, set_rise h3 c⟩
    · unfold diSet
      rw [ho]
      have := rest_len t c.c
      simp only [Bool.false_eq_true, if_false]
      omega
    · intro r hr
      rcases set_mem hr with hr | ⟨e, _⟩
      · exact h2 r hr
      · rw [ho] at e; cases e
  | true =>
    simp only [Bool.not_true, Bool.false_or]
    rw [Bool.eq_iff_iff, diMay_iff]
    simp only [Bool.and_eq_true, decide_eq_true_eq]
    constructor
    · rintro ⟨a, b, _⟩
      exact ⟨b _ (set_has ho), a⟩
    · rintro ⟨a, b⟩
      refine ⟨b, fun r hr => ?_, set_rise h3 c⟩
      rcases set_mem hr with hr | ⟨_, rfl⟩
      · exact h2 r hr
      · exact a

theorem diMay_one (r : Row) : diMay [r] = rowOk r := by
  simp [diMay, rowAt]

/-! ### Changes -/

def cts (t : List Row) : List (List UInt8) := t.map (·.c)

def chg (a b : List Row) (x : List UInt8) : Option Chg := if gSame (diGet a x) (diGet b x) = true then none else some ⟨x, (diGet b x).2, (diGet b x).1⟩

def diChanges (a b : List Row) : List Chg := (mrg (cts a ++ cts b)).filterMap (chg a b)

theorem chg_c {a b : List Row} {x : List UInt8} {c : Chg} (h : chg a b x = some c) : c = ⟨x, (diGet b x).2, (diGet b x).1⟩ ∧ diGet a x ≠ diGet b x := by
  unfold chg at h
  by_cases hg : gSame (diGet a x) (diGet b x) = true
  · rw [if_pos hg] at h; cases h
  · rw [if_neg hg] at h
    exact ⟨(Option.some.inj h).symm, fun e => hg (gSame_iff.2 e)⟩

theorem chg_get {a b : List Row} {x : List UInt8} {c : Chg} (h : chg a b x = some c) : chGet c = diGet b x := by
  obtain ⟨rfl, _⟩ := chg_c h
  unfold chGet
  rcases diGet_zero b x with h1 | h1
  · rw [if_pos h1]
    exact Prod.ext rfl h1.symm
  · rw [h1]; rfl

theorem changes_mem {a b : List Row} {c : Chg} (h : c ∈ diChanges a b) : chg a b c.c = some c := by
  obtain ⟨x, _, hx⟩ := List.mem_filterMap.1 h
  obtain ⟨e, _⟩ := chg_c hx
  rw [e] at hx ⊢
  exact hx

theorem changes_all {a b : List Row} {x : List UInt8} (h : diGet a x ≠ diGet b x) : ∃ c ∈ diChanges a b, c.c = x := by
  have hm : x ∈ mrg (cts a ++ cts b) := by
    rw [mrg_mem, List.mem_append]
    rcases diGet_zero a x with h1 | h1
    · exact .inl ((diGet_has a x).1 h1)
    · rcases diGet_zero b x with h2 | h2
      · exact .inr ((diGet_has b x).1 h2)
      · rw [h1, h2] at h; exact absurd rfl h
  have hc : chg a b x = some ⟨x, (diGet b x).2, (diGet b x).1⟩ := by
    unfold chg
    rw [if_neg (fun e => h (gSame_iff.1 e))]
  exact ⟨_, List.mem_filterMap.2 ⟨x, hm, hc⟩, rfl⟩

theorem changes_apart (a b : List Row) : (diChanges a b).Pairwise fun x y => ¬ x.c = y.c := by
  unfold diChanges
  refine List.Pairwise.filterMap _ (R := fun x y => idLess x y = true) ?_ (mrg_rising _)
  intro x y hxy c hc d hd
  obtain ⟨rfl, _⟩ := chg_c hc
  obtain ⟨rfl, _⟩ := chg_c hd
  intro e
  simp only at e
  rw [e, idLess_irrefl] at hxy
  cases hxy

theorem changes_self (a : List Row) : diChanges a a = [] := by
  unfold diChanges
  rw [List.filterMap_eq_nil_iff]
  intro x _
  unfold chg
  rw [if_pos (gSame_iff.2 rfl)]

theorem changes_len (a b : List Row) : (diChanges a b).length ≤ (mrg (cts a ++ cts b)).length := List.length_filterMap_le _ _

/-- Changes, set one behind the other. -/
def setAll (t : List Row) (l : List Chg) : List Row := l.foldl diSet t

theorem setAll_snoc (t : List Row) (l : List Chg) (c : Chg) : setAll t (l ++ [c]) = diSet (setAll t l) c := by simp [setAll]

theorem setAll_rise : ∀ (l : List Chg) {t : List Row}, RRise t → RRise (setAll t l)
  | [], _, h => h
  | c :: l, _, h => setAll_rise l (set_rise h c)

theorem setAll_len : ∀ (l : List Chg) (t : List Row), (setAll t l).length ≤ t.length + l.length
  | [], t => by simp [setAll]
  | c :: l, t => by
    have := setAll_len l (diSet t c)
    have := set_len t c
    show (setAll (diSet t c) l).length ≤ _
    simp only [List.length_cons]
    omega

theorem setAll_out : ∀ (l : List Chg) {t : List Row} {x : List UInt8}, (∀ c ∈ l, ¬ c.c = x) → diGet (setAll t l) x = diGet t x
  | [], _, _, _ => rfl
  | c :: l, t, x, h => by
    show diGet (setAll (diSet t c) l) x = _
    rw [setAll_out l (fun d hd => h d (by simp [hd])), diGet_set, if_neg (fun e => h c (by simp) e.symm)]

theorem setAll_in : ∀ (l : List Chg) {t : List Row} {c : Chg}, l.Pairwise (fun x y => ¬ x.c = y.c) → c ∈ l → diGet (setAll t l) c.c = chGet c
  | [], _, _, _, h => by cases h
  | d :: l, t, c, hp, h => by
    obtain ⟨h1, h2⟩ := List.pairwise_cons.1 hp
    show diGet (setAll (diSet t d) l) c.c = _
    rcases List.mem_cons.1 h with rfl | h
    · rw [setAll_out l (fun e he => fun e' => h1 e he e'.symm), diGet_set, if_pos rfl]
    · exact setAll_in l h2 h

/-- The changes from a table to another one make it that one. -/
theorem changes_make {t u : List Row} (ht : RRise t) (hu : RRise u) : setAll t (diChanges t u) = u := by
  refine rise_ext (setAll_rise _ ht) hu fun x => ?_
  by_cases h : diGet t x = diGet u x
  · rw [setAll_out]
    · exact h
    · intro c hc e
      have := (chg_c (changes_mem hc)).2
      rw [e] at this
      exact this h
  · obtain ⟨c, hc, rfl⟩ := changes_all h
    rw [setAll_in _ (changes_apart t u) hc]
    exact chg_get (changes_mem hc)

/-- With one left away they do not. -/
theorem changes_less {t u : List Row} {k : Nat} (hk : k < (diChanges t u).length) : setAll t ((diChanges t u).eraseIdx k) ≠ u := by
  intro h
  have hm := List.getElem_mem hk
  have hd := (chg_c (changes_mem hm)).2
  have hout : ∀ c ∈ (diChanges t u).eraseIdx k, ¬ c.c = ((diChanges t u)[k]).c := by
    intro c hc
    obtain ⟨i, hi, hik, rfl⟩ := List.mem_eraseIdx_iff_getElem.1 hc
    have hp := List.pairwise_iff_getElem.1 (changes_apart t u)
    rcases Nat.lt_or_ge i k with h1 | h1
    · exact hp i k hi hk h1
    · exact fun e => hp k i hk hi (by omega) e.symm
  have := setAll_out _ (t := t) hout
  rw [h] at this
  exact hd this.symm

end Go.Proofs.Ytocjeehoghfnmaa
