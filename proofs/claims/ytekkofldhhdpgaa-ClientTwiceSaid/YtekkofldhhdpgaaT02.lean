/-
  TEXTS OF THE PROOF, one behind the other: DigPure, DigRow, Shelf, IdCmp, IdIs, IdFold, IdTake, Bytes, IdRef.
-/
import Derived.Test.YtekkofldhhdpgaaT01
import Derived.Laws.StructEq
import Derived.Laws.AppendOwnNone
import Derived.Laws.OwnMore
import Derived.Shelf.Strings.Builder1
import Derived.Shelf.Small.Bits
import Derived.Shelf.Small.Strs
import Derived.Shelf.Small.Wraps
import Derived.Shelf.Strings.BuilderF
import Derived.Shelf.Strings.BuilderK
import Derived.Shelf.Strings.BuilderRune
import Derived.Shelf.Slices.CompactS
import Derived.Shelf.SlicesE.Compact
import Derived.Shelf.SlSortCmp.Insertion
import Derived.Shelf.SlSortCmp.SiftDown1
import Derived.Shelf.SlSortCmp.HeapSort1
import Derived.Shelf.SlSortCmp.Insertion1
import Derived.Shelf.SlSortCmp.Median1
import Derived.Shelf.SlSortCmp.Pivot1
import Derived.Shelf.SlSortCmp.ReverseRange1
import Derived.Shelf.SlSortCmp.PartialInsertion1
import Derived.Shelf.SlSortCmp.PartitionEqual1
import Derived.Shelf.SlSortCmp.Partition1
import Derived.Shelf.SlSortCmp.Pdq1
import Derived.Shelf.SlSortCmp.Whole1
import Derived.Shelf.SlSortCmp.NoneTotal
import Derived.Test.YtekkofldhhdpgaaRows
import Derived.Lib.OthersKept
import Derived.Lib.ConvBytes
import Derived.Laws.IdiomStrings

section

/-
  PLAIN MATHEMATICS OF LAYER 5 (digest): tables, their bytes and their sum, changes that are set and told. No program in sight.
-/
namespace Go.Proofs.Ytekkofldhhdpgaa

/-- A row of a table. -/
structure Row where
  c : List UInt8
  v : Val

def Row.zero : Row := ⟨[], Val.zero⟩

/-- A change. -/
structure Chg where
  c : List UInt8
  on : Bool
  v : Val

def vSame (x y : Val) : Bool := (x.sh == y.sh && (x.pr == y.pr && (x.si == y.si && x.st == y.st)))

theorem vSame_iff {x y : Val} : vSame x y = true ↔ x = y := by
  obtain ⟨a, b, c, s⟩ := x
  obtain ⟨a', b', c', s'⟩ := y
  simp [vSame]

theorem vSame_self (x : Val) : vSame x x = true := vSame_iff.2 rfl
def rSame (x y : Row) : Bool := (x.c == y.c) && vSame x.v y.v

theorem rSame_iff {x y : Row} : rSame x y = true ↔ x = y := by
  obtain ⟨a, b⟩ := x
  obtain ⟨a', b'⟩ := y
  simp [rSame, vSame_iff]

theorem rSame_self (x : Row) : rSame x x = true := rSame_iff.2 rfl
def cSame (x y : Chg) : Bool := (x.c == y.c) && ((x.on == y.on) && vSame x.v y.v)

theorem row_get {t : List Row} {k : Nat} (h : k < t.length) : t[k] = t.getD k Row.zero := by simp [List.getD, List.getElem?_eq_getElem h]

/-- Two tables, row by row. -/
def tSame (a b : List Row) : Bool := decide (a.length = b.length) && (List.range a.length).all fun i => rSame (a.getD i Row.zero) (b.getD i Row.zero)

theorem tSame_iff {a b : List Row} : tSame a b = true ↔ a = b := by
  constructor
  · intro h
    unfold tSame at h
    simp only [Bool.and_eq_true, decide_eq_true_eq] at h
    obtain ⟨h1, h2⟩ := h
    refine List.ext_getElem h1 fun i p q => ?_
    have := List.all_eq_true.1 h2 i (List.mem_range.2 p)
    rw [row_get p, row_get q]
    exact rSame_iff.1 this
  · intro h
    subst h
    unfold tSame
    simp [rSame_self]

theorem tSame_len {a b : List Row} (h : ¬ a.length = b.length) : tSame a b = false := by
  unfold tSame
  simp [h]

theorem tSame_off {a b : List Row} {k : Nat} (_hk : k < a.length) (h : rSame (a.getD k Row.zero) (b.getD k Row.zero) = false) : tSame a b = false := by
  rw [Bool.eq_false_iff]
  intro h'
  rw [tSame_iff] at h'
  subst h'
  rw [rSame_self] at h
  cases h

theorem tSame_on {a b : List Row} (hl : a.length = b.length) (h : (List.range a.length).all (fun i => rSame (a.getD i Row.zero) (b.getD i Row.zero)) = true) : tSame a b = true := by
  unfold tSame
  rw [h]
  simp [hl]

theorem range_all_succ {k : Nat} {f : Nat → Bool} (h : (List.range k).all f = true) (hk : f k = true) : (List.range (k + 1)).all f = true := by
  rw [List.range_succ, List.all_append, h]
  simp [hk]

theorem range_all_no {n k : Nat} {f : Nat → Bool} (hk : k < n) (h : f k = false) : (List.range n).all f = false := by
  rw [Bool.eq_false_iff]
  intro h'
  have := List.all_eq_true.1 h' k (List.mem_range.2 hk)
  rw [h] at this
  cases this

/-! ### What may be -/

def rowOk (r : Row) : Bool := idIs r.c && vaMay r.v

def rowAt (t : List Row) (j : Nat) : Bool := rowOk (t.getD j Row.zero) && (decide (j = 0) || idLess (t.getD (j - 1) Row.zero).c (t.getD j Row.zero).c)

def diMay (t : List Row) : Bool := decide (t.length ≤ 32) && (List.range t.length).all (rowAt t)

/-- Contacts rise. -/
def RRise (t : List Row) : Prop := t.Pairwise fun x y => idLess x.c y.c = true

theorem diMay_long {t : List Row} (h : 32 < t.length) : diMay t = false := by
  unfold diMay
  simp
  omega

theorem diMay_iff {t : List Row} : diMay t = true ↔ t.length ≤ 32 ∧ (∀ r ∈ t, rowOk r = true) ∧ RRise t := by
  unfold diMay
  simp only [Bool.and_eq_true, decide_eq_true_eq, List.all_eq_true, List.mem_range]
  constructor
  · rintro ⟨h1, h2⟩
    refine ⟨h1, ?_, ?_⟩
    · intro r hr
      obtain ⟨k, hk, rfl⟩ := List.getElem_of_mem hr
      have := h2 k hk
      unfold rowAt at this
      rw [← row_get hk] at this
      simp only [Bool.and_eq_true] at this
      exact this.1
    · have key : ∀ d i, i + d + 1 < t.length → idLess (t.getD i Row.zero).c (t.getD (i + d + 1) Row.zero).c = true := by
        intro d
        induction d with
        | zero =>
          intro i hi
          have := h2 (i + 1) (by omega)
          unfold rowAt at this
          simp only [Bool.and_eq_true] at this
          simpa using this.2
        | succ d ih =>
          intro i hi
          have a := ih i (by omega)
          have := h2 (i + d + 1 + 1) (by omega)
          unfold rowAt at this
          simp only [Bool.and_eq_true] at this
          have b : idLess (t.getD (i + d + 1) Row.zero).c (t.getD (i + d + 1 + 1) Row.zero).c = true := by simpa using this.2
          exact idLess_trans a b
      refine List.pairwise_iff_getElem.2 fun i j hi hj hij => ?_
      rw [row_get hi, row_get hj]
      have := key (j - i - 1) i (by omega)
      rwa [show i + (j - i - 1) + 1 = j by omega] at this
  · rintro ⟨h1, h2, h3⟩
    refine ⟨h1, fun k hk => ?_⟩
    unfold rowAt
    rw [← row_get hk, h2 _ (List.getElem_mem hk)]
    simp only [Bool.true_and, Bool.or_eq_true, decide_eq_true_eq]
    by_cases h0 : k = 0
    · exact .inl h0
    · right
      have := List.pairwise_iff_getElem.1 h3 (k - 1) k (by omega) hk (by omega)
      rwa [row_get (show k - 1 < t.length by omega)] at this

theorem rowOk_parts {r : Row} (h : rowOk r = true) : idIs r.c = true ∧ vaMay r.v = true := by
  unfold rowOk at h
  simpa using h

/-! ### Bytes -/

def rowBytes (r : Row) : List UInt8 := (vput r.c.length ++ r.c) ++ vaBytes r.v
def rowsBytes (t : List Row) : List UInt8 := (t.map rowBytes).flatten
def diBytes (t : List Row) : List UInt8 := vput t.length ++ rowsBytes t
def diPut (t : List Row) : List UInt8 × Bool := if diMay t = true then (diBytes t, true) else ([], false)

theorem rowsBytes_cons (r : Row) (t : List Row) : rowsBytes (r :: t) = rowBytes r ++ rowsBytes t := rfl

theorem rowsBytes_succ {t : List Row} {k : Nat} (h : k < t.length) : rowsBytes (t.take (k + 1)) = rowsBytes (t.take k) ++ rowBytes (t.getD k Row.zero) := by
  unfold rowsBytes
  rw [List.take_succ_eq_append_getElem h, row_get h]
  simp

theorem rowBytes_len {r : Row} (h : rowOk r = true) : (rowBytes r).length ≤ 62 ∧ 5 ≤ (rowBytes r).length := by
  obtain ⟨h1, h2⟩ := rowOk_parts h
  have a := (idIs_parts h1).2.1
  have a1 := (idIs_parts h1).1
  have b := vaBytes_len h2
  have c := (vaMay_parts h2)
  have d := vput_small_len (show r.c.length < 128 by omega)
  have e : (vput r.v.si.toNat).length ≤ 10 := vput_len_le _
  have e1 := vput_len_pos r.v.si.toNat
  unfold rowBytes
  simp only [List.length_append]
  omega

theorem rowsBytes_len : ∀ {t : List Row}, (∀ r ∈ t, rowOk r = true) → (rowsBytes t).length ≤ 62 * t.length
  | [], _ => by simp [rowsBytes]
  | r :: t, h => by
    have a := (rowBytes_len (h r (by simp))).1
    have b := rowsBytes_len (t := t) (fun x hx => h x (by simp [hx]))
    rw [rowsBytes_cons, List.length_append, List.length_cons]
    omega

theorem diBytes_len {t : List Row} (h : diMay t = true) : (diBytes t).length ≤ 1985 := by
  obtain ⟨h1, h2, _⟩ := diMay_iff.1 h
  have a := rowsBytes_len h2
  have b := vput_small_len (show t.length < 128 by omega)
  unfold diBytes
  rw [List.length_append]
  omega

theorem diPut_len (t : List Row) : (diPut t).1.length ≤ 1985 := by
  unfold diPut
  by_cases h : diMay t = true
  · rw [if_pos h]; exact diBytes_len h
  · rw [if_neg h]; simp

/-- The row at a place of bytes: row, place behind it, error. -/
def diTakeRow (l : List UInt8) (p : Nat) : Row × Nat × Nat :=
  if (idTake l p).2.2 ≠ 0 then (Row.zero, 0, (idTake l p).2.2)
  else if (vaTake l (idTake l p).2.1).2.2 ≠ 0 then (Row.zero, 0, (vaTake l (idTake l p).2.1).2.2)
  else (⟨(idTake l p).1, (vaTake l (idTake l p).2.1).1⟩, (vaTake l (idTake l p).2.1).2.1, 0)

/-- n rows. -/
def diRows : Nat → List UInt8 → Nat → List Row × Nat × Nat
  | 0, _, p => ([], p, 0)
  | n + 1, l, p =>
    if (diTakeRow l p).2.2 ≠ 0 then ([], 0, (diTakeRow l p).2.2)
    else if (diRows n l (diTakeRow l p).2.1).2.2 ≠ 0 then ([], 0, (diRows n l (diTakeRow l p).2.1).2.2)
    else ((diTakeRow l p).1 :: (diRows n l (diTakeRow l p).2.1).1, (diRows n l (diTakeRow l p).2.1).2.1, 0)

/-- The table. -/
def diTake (l : List UInt8) (p : Int) : List Row × Nat × Nat :=
  if (vget l p).2.2 ≠ 0 then ([], 0, (vget l p).2.2)
  else if 32 < (vget l p).1 then ([], 0, 3)
  else if (diRows (vget l p).1 l (vget l p).2.1).2.2 ≠ 0 then ([], 0, (diRows (vget l p).1 l (vget l p).2.1).2.2)
  else if diMay (diRows (vget l p).1 l (vget l p).2.1).1 = false then ([], 0, 3)
  else ((diRows (vget l p).1 l (vget l p).2.1).1, (diRows (vget l p).1 l (vget l p).2.1).2.1, 0)

/-- What was taken so far, and what is still to be taken. -/
def diComb (acc : List Row) (r : List Row × Nat × Nat) : List Row × Nat × Nat := if r.2.2 ≠ 0 then ([], 0, r.2.2) else (acc ++ r.1, r.2.1, 0)

theorem diRows_shape : ∀ (n : Nat) (l : List UInt8) (p : Nat), (diRows n l p).2.2 = 0 ∨ diRows n l p = ([], 0, (diRows n l p).2.2)
  | 0, l, p => .inl rfl
  | n + 1, l, p => by
    unfold diRows
    by_cases h1 : (diTakeRow l p).2.2 ≠ 0
    · rw [if_pos h1]; exact .inr rfl
    · rw [if_neg h1]
      by_cases h2 : (diRows n l (diTakeRow l p).2.1).2.2 ≠ 0
      · rw [if_pos h2]; exact .inr rfl
      · rw [if_neg h2]; exact .inl rfl

theorem diComb_start (n : Nat) (l : List UInt8) (p : Nat) : diComb [] (diRows n l p) = diRows n l p := by
  unfold diComb
  rcases diRows_shape n l p with h | h
  · rw [if_neg (by rw [h]; simp)]
    exact Prod.ext rfl (Prod.ext rfl h.symm)
  · by_cases h0 : (diRows n l p).2.2 ≠ 0
    · rw [if_pos h0, ← h]
    · rw [if_neg h0]
      exact Prod.ext rfl (Prod.ext rfl (Decidable.not_not.1 h0).symm)

theorem diComb_end (acc : List Row) (l : List UInt8) (p : Nat) : diComb acc (diRows 0 l p) = (acc, p, 0) := by simp [diComb, diRows]

theorem diComb_step {n : Nat} {l : List UInt8} {p : Nat} (acc : List Row) {r : Row} {f : Nat} (h : diTakeRow l p = (r, f, 0)) :
    diComb acc (diRows (n + 1) l p) = diComb (acc ++ [r]) (diRows n l f) := by
  conv => lhs; unfold diRows
  rw [h]
  simp only [ne_eq, not_true_eq_false, if_false]
  unfold diComb
  by_cases h2 : (diRows n l f).2.2 ≠ 0
  · rw [if_pos h2, if_pos h2, if_pos h2]
  · rw [if_neg h2, if_neg h2]
    simp

theorem diComb_err {n : Nat} {l : List UInt8} {p : Nat} (acc : List Row) {r : Row} {f e : Nat} (h : diTakeRow l p = (r, f, e)) (he : e ≠ 0) :
    diComb acc (diRows (n + 1) l p) = ([], 0, e) := by
  unfold diRows
  rw [h]
  simp only [if_pos he]
  unfold diComb
  rw [if_pos he]

theorem idTake_at {t : List UInt8} (h : idIs t = true) (a z : List UInt8) : idTake (a ++ ((vput t.length ++ t) ++ z)) (a.length : Int) = (t, a.length + (vput t.length ++ t).length, 0) := by
  have hl := (idIs_parts h).2.1
  have e := vtake_text a t z 16 (by omega) (by omega)
  unfold idTake
  rw [e]
  simp [h]
  omega

theorem diTakeRow_put {r : Row} (h : rowOk r = true) (a z : List UInt8) : diTakeRow (a ++ (rowBytes r ++ z)) a.length = (r, a.length + (rowBytes r).length, 0) := by
  obtain ⟨h1, h2⟩ := rowOk_parts h
  have e1 := idTake_at h1 a (vaBytes r.v ++ z)
  have e2 := vaTake_put h2 (a ++ (vput r.c.length ++ r.c)) z
  have e3 : a ++ (rowBytes r ++ z) = a ++ ((vput r.c.length ++ r.c) ++ (vaBytes r.v ++ z)) := by simp [rowBytes]
  have e4 : (a ++ (vput r.c.length ++ r.c)) ++ (vaBytes r.v ++ z) = a ++ ((vput r.c.length ++ r.c) ++ (vaBytes r.v ++ z)) := by simp
  rw [e4] at e2
  have e5 : (((a ++ (vput r.c.length ++ r.c)).length : Nat) : Int) = ((a.length + (vput r.c.length ++ r.c).length : Nat) : Int) := by simp
  rw [e5] at e2
  unfold diTakeRow
  rw [e3, e1]
  simp only [ne_eq, not_true_eq_false, if_false]
  rw [e2]
  simp only [not_true_eq_false, if_false]
  refine Prod.ext rfl (Prod.ext ?_ rfl)
  simp [rowBytes]
  omega

theorem diRows_put : ∀ (t : List Row), (∀ r ∈ t, rowOk r = true) → ∀ a z : List UInt8, diRows t.length (a ++ (rowsBytes t ++ z)) a.length = (t, a.length + (rowsBytes t).length, 0)
  | [], _, a, z => by simp [diRows, rowsBytes]
  | r :: t, h, a, z => by
    have e1 := diTakeRow_put (h r (by simp)) a (rowsBytes t ++ z)
    have e2 := diRows_put t (fun x hx => h x (by simp [hx])) (a ++ rowBytes r) z
    have e3 : a ++ (rowsBytes (r :: t) ++ z) = a ++ (rowBytes r ++ (rowsBytes t ++ z)) := by simp [rowsBytes_cons]
    have e4 : (a ++ rowBytes r) ++ (rowsBytes t ++ z) = a ++ (rowBytes r ++ (rowsBytes t ++ z)) := by simp
    rw [e4, List.length_append] at e2
    rw [List.length_cons, e3]
    unfold diRows
    rw [e1]
    simp only [ne_eq, not_true_eq_false, if_false]
    rw [e2]
    simp only [not_true_eq_false, if_false]
    rw [rowsBytes_cons, List.length_append, Nat.add_assoc]

theorem diTake_put {t : List Row} (h : diMay t = true) (a z : List UInt8) : diTake (a ++ (diBytes t ++ z)) (a.length : Int) = (t, a.length + (diBytes t).length, 0) := by
  obtain ⟨h1, h2, _⟩ := diMay_iff.1 h
  have e1 := vget_vput t.length (by omega) a (rowsBytes t ++ z)
  have e2 := diRows_put t h2 (a ++ vput t.length) z
  have e3 : a ++ (diBytes t ++ z) = a ++ (vput t.length ++ (rowsBytes t ++ z)) := by simp [diBytes]
  have e4 : (a ++ vput t.length) ++ (rowsBytes t ++ z) = a ++ (vput t.length ++ (rowsBytes t ++ z)) := by simp
  rw [e4, List.length_append] at e2
  unfold diTake
  rw [e3, e1]
  simp only [ne_eq, not_true_eq_false, if_false]
  rw [if_neg (by omega), e2]
  simp only [not_true_eq_false, if_false]
  rw [h]
  simp only [Bool.true_eq_false, if_false]
  simp only [diBytes, List.length_append, Nat.add_assoc]

theorem idTake_bytes {l : List UInt8} {p : Nat} {t : List UInt8} {f : Nat} (h : idTake l p = (t, f, 0)) : idIs t = true ∧ p ≤ f ∧ f ≤ l.length ∧ vput t.length ++ t = (l.drop p).take (f - p) := by
  unfold idTake at h
  by_cases h1 : (vtake l p 16).2.2 ≠ 0
  · rw [if_pos h1] at h
    simp only [Prod.mk.injEq] at h
    exact absurd h.2.2 h1
  · rw [if_neg h1] at h
    by_cases h2 : idIs (vtake l p 16).1 = true
    · rw [if_pos h2] at h
      rw [h] at h2
      have := vtake_bytes h
      exact ⟨h2, this.1, this.2.1, this.2.2.1⟩
    · rw [if_neg h2] at h
      simp at h

theorem diTakeRow_bytes {l : List UInt8} {p : Nat} {r : Row} {f : Nat} (h : diTakeRow l p = (r, f, 0)) : rowOk r = true ∧ p ≤ f ∧ f ≤ l.length ∧ rowBytes r = (l.drop p).take (f - p) := by
  obtain ⟨c, g, e, hc⟩ : ∃ c g e, idTake l p = (c, g, e) := ⟨_, _, _, rfl⟩
  unfold diTakeRow at h
  rw [hc] at h
  simp only at h
  by_cases h1 : e = 0
  · subst h1
    simp only [ne_eq, not_true_eq_false, if_false] at h
    obtain ⟨v, k, e', hv⟩ : ∃ v k e', vaTake l g = (v, k, e') := ⟨_, _, _, rfl⟩
    rw [hv] at h
    simp only at h
    by_cases h2 : e' = 0
    · subst h2
      simp only [not_true_eq_false, if_false, Prod.mk.injEq, and_true] at h
      obtain ⟨rfl, rfl⟩ := h
      obtain ⟨a1, a2, a3, a4⟩ := idTake_bytes hc
      obtain ⟨b1, b2, b3, b4⟩ := vaPut_take hv
      refine ⟨by unfold rowOk; rw [a1, b1]; rfl, by omega, b3, ?_⟩
      unfold rowBytes
      simp only
      rw [a4, b4, show k - p = (g - p) + (k - g) by omega, List.take_add, List.drop_drop]
      congr 3
      omega
    · rw [if_pos h2] at h
      simp only [Prod.mk.injEq] at h
      exact absurd h.2.2 h2
  · rw [if_pos h1] at h
    simp only [Prod.mk.injEq] at h
    exact absurd h.2.2 h1

theorem diRows_bytes : ∀ (n : Nat) {l : List UInt8} {p : Nat} {t : List Row} {f : Nat}, p ≤ l.length → diRows n l p = (t, f, 0) →
    t.length = n ∧ (∀ r ∈ t, rowOk r = true) ∧ p ≤ f ∧ f ≤ l.length ∧ rowsBytes t = (l.drop p).take (f - p)
  | 0, l, p, t, f, hp, h => by
    simp only [diRows, Prod.mk.injEq, and_true] at h
    obtain ⟨rfl, rfl⟩ := h
    exact ⟨rfl, by simp, Nat.le_refl _, hp, by simp [rowsBytes]⟩
  | n + 1, l, p, t, f, hp, h => by
    obtain ⟨r, g, e, hr⟩ : ∃ r g e, diTakeRow l p = (r, g, e) := ⟨_, _, _, rfl⟩
    unfold diRows at h
    rw [hr] at h
    simp only at h
    by_cases h1 : e = 0
    · subst h1
      simp only [ne_eq, not_true_eq_false, if_false] at h
      obtain ⟨u, k, e', hu⟩ : ∃ u k e', diRows n l g = (u, k, e') := ⟨_, _, _, rfl⟩
      rw [hu] at h
      simp only at h
      by_cases h2 : e' = 0
      · subst h2
        simp only [not_true_eq_false, if_false, Prod.mk.injEq, and_true] at h
        obtain ⟨rfl, rfl⟩ := h
        obtain ⟨a1, a2, a3, a4⟩ := diTakeRow_bytes hr
        obtain ⟨b1, b2, b3, b4, b5⟩ := diRows_bytes n a3 hu
        refine ⟨by simp [b1], ?_, by omega, b4, ?_⟩
        · intro x hx
          rcases List.mem_cons.1 hx with rfl | hx
          · exact a1
          · exact b2 x hx
        · rw [rowsBytes_cons, a4, b5, show k - p = (g - p) + (k - g) by omega, List.take_add, List.drop_drop]
          congr 3
          omega
      · rw [if_pos h2] at h
        simp only [Prod.mk.injEq] at h
        exact absurd h.2.2 h2
    · rw [if_pos h1] at h
      simp only [Prod.mk.injEq] at h
      exact absurd h.2.2 h1

theorem vget_in_facts {l : List UInt8} {p : Int} {n f : Nat} (h : vget l p = (n, f, 0)) : 0 ≤ p ∧ p.toNat ≤ f ∧ f ≤ l.length ∧ vput n = (l.drop p.toNat).take (f - p.toNat) := by
  have hp : 0 ≤ p := by
    by_cases h0 : 0 ≤ p
    · exact h0
    · unfold vget at h
      rw [if_pos (.inl (by omega))] at h
      simp at h
  obtain ⟨q, rfl⟩ := Int.eq_ofNat_of_zero_le hp
  have := vget_bytes h
  exact ⟨hp, by simpa using this.1, this.2.1, by simpa using this.2.2⟩

/-! ### The sum -/

def fnvM : Nat := 18446744073709551616
def fnvP : Nat := 1099511628211
def fnvB : Nat := 14695981039346656037
def fnv1 (h : Nat) (b : UInt8) : Nat := ((h ^^^ b.toNat) * fnvP) % fnvM
def fnv (l : List UInt8) : Nat := l.foldl fnv1 fnvB
def diSum (t : List Row) : Nat := fnv (diPut t).1

theorem foldl_snoc {α β : Type} (f : β → α → β) (i : β) (l : List α) (b : α) : (l ++ [b]).foldl f i = f (l.foldl f i) b := by simp

theorem fnv_snoc (l : List UInt8) (b : UInt8) : fnv (l ++ [b]) = fnv1 (fnv l) b := foldl_snoc fnv1 fnvB l b

theorem fnvM_pos : 0 < fnvM := by unfold fnvM; omega

theorem fnv_lt (l : List UInt8) : fnv l < fnvM := by
  rcases List.eq_nil_or_concat l with rfl | ⟨a, b, rfl⟩
  · show fnvB < fnvM
    unfold fnvB fnvM
    omega
  · rw [List.concat_eq_append, fnv_snoc]
    unfold fnv1
    exact Nat.mod_lt _ fnvM_pos

/-! ### Get and Set -/

def diGet : List Row → List UInt8 → Val × Bool
  | [], _ => (Val.zero, false)
  | r :: t, x => if r.c = x then (r.v, true) else diGet t x

def gSame (p q : Val × Bool) : Bool := vSame p.1 q.1 && (p.2 == q.2)

def diRest (t : List Row) (x : List UInt8) : List Row := t.filter fun r => !(r.c == x)

def plc (t : List Row) (x : List UInt8) : Nat → Nat
  | 0 => 0
  | k + 1 => if idLess (t.getD k Row.zero).c x = true then k + 1 else plc t x k

theorem plc_le (t : List Row) (x : List UInt8) : ∀ k, plc t x k ≤ k
  | 0 => Nat.le_refl _
  | k + 1 => by
    unfold plc
    split
    · exact Nat.le_refl _
    · exact Nat.le_succ_of_le (plc_le t x k)

def diPlace (t : List Row) (x : List UInt8) : Nat := plc t x t.length

def diIns (t : List Row) (r : Row) : List Row := t.take (diPlace t r.c) ++ ([r] ++ t.drop (diPlace t r.c))

def diSet (t : List Row) (c : Chg) : List Row := if c.on = true then diIns (diRest t c.c) ⟨c.c, c.v⟩ else diRest t c.c

/-- What a change makes of its own contact. -/
def chGet (c : Chg) : Val × Bool := if c.on = true then (c.v, true) else (Val.zero, false)

/-! ### Rising tables -/

theorem set_mem {t : List Row} {c : Chg} {r : Row} (h : r ∈ diSet t c) : r ∈ t ∨ (c.on = true ∧ r = ⟨c.c, c.v⟩) := by
  unfold diSet at h
  by_cases ho : c.on = true
  · rw [if_pos ho] at h
    unfold diIns at h
    rcases List.mem_append.1 h with h | h
    · exact .inl (List.mem_filter.1 (List.mem_of_mem_take h)).1
    · rcases List.mem_append.1 h with h | h
      · exact .inr ⟨ho, by simpa using h⟩
      · exact .inl (List.mem_filter.1 (List.mem_of_mem_drop h)).1
  · rw [if_neg ho] at h
    exact .inl (List.mem_filter.1 h).1

/-! ### Changes -/

def cts (t : List Row) : List (List UInt8) := t.map (·.c)

def chg (a b : List Row) (x : List UInt8) : Option Chg := if gSame (diGet a x) (diGet b x) = true then none else some ⟨x, (diGet b x).2, (diGet b x).1⟩

def diChanges (a b : List Row) : List Chg := (mrg (cts a ++ cts b)).filterMap (chg a b)

/-- Changes, set one behind the other. -/
def setAll (t : List Row) (l : List Chg) : List Row := l.foldl diSet t

end Go.Proofs.Ytekkofldhhdpgaa

end

section

/-
  TABLES IN MEMORY: rows of five cells; '==' of rows, of changes; THE CONTRACTS OF THE DOCUMENT'S Few AND Same (of tables).
-/
namespace Go.Proofs.Ytekkofldhhdpgaa
open Go.RowKit

/-- A row's cells. -/
def rowVals (r : Row) : List Value := [.string ⟨r.c.toArray⟩, .int .i64 r.v.sh, .int .i64 r.v.pr, .int .i64 r.v.si, .string ⟨r.v.st.toArray⟩]

def Cells5 (w : World) (b o : Nat) (r : Row) : Prop :=
  w.cell? ⟨b, o, none⟩ = some (.string ⟨r.c.toArray⟩) ∧ w.cell? ⟨b, o + 1, none⟩ = some (.int .i64 r.v.sh) ∧ w.cell? ⟨b, o + 2, none⟩ = some (.int .i64 r.v.pr) ∧
    w.cell? ⟨b, o + 3, none⟩ = some (.int .i64 r.v.si) ∧ w.cell? ⟨b, o + 4, none⟩ = some (.string ⟨r.v.st.toArray⟩)

theorem Cells5.later {w w' : World} {b o : Nat} {r : Row} (h : Cells5 w b o r) (hb : Below w.heap.size w w') (hlt : b < w.heap.size) : Cells5 w' b o r := by
  obtain ⟨h0, h1, h2, h3, h4⟩ := h
  have k : ∀ o, w'.cell? ⟨b, o, none⟩ = w.cell? ⟨b, o, none⟩ := fun o => hb.cell (p := ⟨b, o, none⟩) hlt
  exact ⟨(k _).trans h0, (k _).trans h1, (k _).trans h2, (k _).trans h3, (k _).trans h4⟩

/-- Which table a slice holds. -/
def Tab (w : World) (v : Value) (t : List Row) : Prop :=
  ∃ a cap, v = .slice a t.length cap ∧ t.length ≤ cap ∧ cap ≤ maxLen ∧ (a = none → cap = 0) ∧
    (t = [] ∨ ∃ b off, a = some ⟨b, off, none⟩ ∧ b < w.heap.size ∧ ∀ i, i < t.length → Cells5 w b (off + i * 5) (t.getD i Row.zero))

theorem Tab.later {w w' : World} {v : Value} {t : List Row} (h : Tab w v t) (hb : Below w.heap.size w w') : Tab w' v t := by
  obtain ⟨a, cap, h1, h2, h3, h4, h5⟩ := h
  refine ⟨a, cap, h1, h2, h3, h4, ?_⟩
  rcases h5 with h5 | ⟨b, off, e, hlt, hc⟩
  · exact .inl h5
  · exact .inr ⟨b, off, e, Nat.lt_of_lt_of_le hlt hb.size, fun i hi => (hc i hi).later hb hlt⟩

theorem tab_nil (w : World) : Tab w (.slice none 0 0) [] := ⟨none, 0, rfl, by simp, by simp, fun _ => rfl, .inl rfl⟩

/-- A row of a table, in a later world. -/
theorem Tab.row {w wr : World} {a : Option Addr} {n cap : Nat} {t : List Row} (h : Tab w (.slice a n cap) t) (hb : Below w.heap.size w wr) (k : Nat) (hk : k < t.length) :
    ∃ b off, a = some ⟨b, off, none⟩ ∧ Cells5 wr b (off + k * 5) (t.getD k Row.zero) := by
  obtain ⟨a', cap', e, _, _, _, h⟩ := h.later hb
  simp only [Value.slice.injEq] at e
  rcases h with h | ⟨b, off, e', _, hc⟩
  · rw [h] at hk; simp at hk
  · exact ⟨b, off, e.1.trans e', hc k hk⟩

theorem Tab.open' {w : World} {v : Value} {t : List Row} (h : Tab w v t) : ∃ a cap, v = .slice a t.length cap ∧ t.length ≤ 9223372036854775807 := by
  obtain ⟨a, cap, e, h1, h2, _⟩ := h
  unfold maxLen at h2
  exact ⟨a, cap, e, by omega⟩

/-- Texts that the contracts below serve. -/
def Short (t : List Row) : Prop := ∀ r ∈ t, r.c.length ≤ 4294967296 ∧ r.v.st.length ≤ 4294967296

theorem Short.get {t : List Row} (h : Short t) {k : Nat} (hk : k < t.length) : (t.getD k Row.zero).c.length ≤ 4294967296 ∧ (t.getD k Row.zero).v.st.length ≤ 4294967296 := by
  rw [← row_get hk]
  exact h _ (List.getElem_mem hk)

/-! ### '==' -/

theorem val_eqIn (d : Nat) (a b c a' b' c' : Int) (s s' : List UInt8) (w : World) :
    (Op.equalIn (d + 1 + 1) 31 (.agg #[.int .i64 a, .int .i64 b, .int .i64 c, .string ⟨s.toArray⟩]) (.agg #[.int .i64 a', .int .i64 b', .int .i64 c', .string ⟨s'.toArray⟩])).run Try.prog w = .ok (vSame ⟨a, b, c, s⟩ ⟨a', b', c', s'⟩) w := by
  have hS : Try.prog.underlying 31 = some (.struct (Try.prog.fieldsOf 31)) := by kernel_rfl
  have hp : Try.prog.stoodInHeld 31 = false := by kernel_rfl
  have u3 := Try.underlying3
  have u9 := Try.underlying9
  have a3 := Try.isAgg3
  have z3 := Try.sizeOf3
  have a9 := Try.isAgg9
  have z9 := Try.sizeOf9
  rw [run_equalIn_agg w (d + 1) 31 _ _ hS hp]
  simp only [Program.fieldsOf, Try.underlying31]
  go_simp
  unfold vSame
  by_cases h1 : a = a' <;> by_cases h2 : b = b' <;> by_cases h3 : c = c' <;> by_cases h4 : s = s' <;> simp [h1, h2, h3, h4]

theorem val_eql5 (a b c a' b' c' : Int) (s s' : List UInt8) (w : World) :
    (binOp .eql 31 (.agg #[.int .i64 a, .int .i64 b, .int .i64 c, .string ⟨s.toArray⟩]) (.agg #[.int .i64 a', .int .i64 b', .int .i64 c', .string ⟨s'.toArray⟩])).run Try.prog w = .ok (.bool (vSame ⟨a, b, c, s⟩ ⟨a', b', c', s'⟩)) w := by
  rw [run_eql_struct, show (10000 : Nat) = 9998 + 1 + 1 from rfl, val_eqIn 9998]
  rfl

theorem val_neq5 (a b c a' b' c' : Int) (s s' : List UInt8) (w : World) :
    (binOp .neq 31 (.agg #[.int .i64 a, .int .i64 b, .int .i64 c, .string ⟨s.toArray⟩]) (.agg #[.int .i64 a', .int .i64 b', .int .i64 c', .string ⟨s'.toArray⟩])).run Try.prog w = .ok (.bool (!vSame ⟨a, b, c, s⟩ ⟨a', b', c', s'⟩)) w := by
  rw [run_neq_struct, show (10000 : Nat) = 9998 + 1 + 1 from rfl, val_eqIn 9998]
  rfl

theorem row_eqIn (d : Nat) (k k' : List UInt8) (a b c a' b' c' : Int) (s s' : List UInt8) (w : World) :
    (Op.equalIn (d + 1 + 1 + 1) 57 (.agg #[.string ⟨k.toArray⟩, .int .i64 a, .int .i64 b, .int .i64 c, .string ⟨s.toArray⟩]) (.agg #[.string ⟨k'.toArray⟩, .int .i64 a', .int .i64 b', .int .i64 c', .string ⟨s'.toArray⟩])).run Try.prog w = .ok (rSame ⟨k, a, b, c, s⟩ ⟨k', a', b', c', s'⟩) w := by
  have hS : Try.prog.underlying 57 = some (.struct (Try.prog.fieldsOf 57)) := by kernel_rfl
  have hp : Try.prog.stoodInHeld 57 = false := by kernel_rfl
  have u9 := Try.underlying9
  have a9 := Try.isAgg9
  have z9 := Try.sizeOf9
  have a35 := Try.isAgg31
  have z35 := Try.sizeOf31
  have hv := fun w => val_eqIn d a b c a' b' c' s s' w
  rw [run_equalIn_agg w (d + 1 + 1) 57 _ _ hS hp]
  simp only [Program.fieldsOf, Try.underlying57]
  clear hS hp
  go_simp
  unfold rSame
  by_cases hk : k = k'
  · subst hk
    cases vSame ⟨a, b, c, s⟩ ⟨a', b', c', s'⟩ <;> simp
  · have : (k == k') = false := by simpa using hk
    rw [if_neg hk]
    simp [this]

theorem row_neq5 (k k' : List UInt8) (a b c a' b' c' : Int) (s s' : List UInt8) (w : World) :
    (binOp .neq 57 (.agg #[.string ⟨k.toArray⟩, .int .i64 a, .int .i64 b, .int .i64 c, .string ⟨s.toArray⟩]) (.agg #[.string ⟨k'.toArray⟩, .int .i64 a', .int .i64 b', .int .i64 c', .string ⟨s'.toArray⟩])).run Try.prog w = .ok (.bool (!rSame ⟨k, a, b, c, s⟩ ⟨k', a', b', c', s'⟩)) w := by
  rw [run_neq_struct, show (10000 : Nat) = 9997 + 1 + 1 + 1 from rfl, row_eqIn 9997]
  rfl

theorem chg_eqIn (d : Nat) (k k' : List UInt8) (o o' : Bool) (a b c a' b' c' : Int) (s s' : List UInt8) (w : World) :
    (Op.equalIn (d + 1 + 1 + 1) 45 (.agg #[.string ⟨k.toArray⟩, .bool o, .int .i64 a, .int .i64 b, .int .i64 c, .string ⟨s.toArray⟩]) (.agg #[.string ⟨k'.toArray⟩, .bool o', .int .i64 a', .int .i64 b', .int .i64 c', .string ⟨s'.toArray⟩])).run Try.prog w = .ok (cSame ⟨k, o, a, b, c, s⟩ ⟨k', o', a', b', c', s'⟩) w := by
  have hS : Try.prog.underlying 45 = some (.struct (Try.prog.fieldsOf 45)) := by kernel_rfl
  have hp : Try.prog.stoodInHeld 45 = false := by kernel_rfl
  have u4 := Try.underlying4
  have a4 := Try.isAgg4
  have z4 := Try.sizeOf4
  have u9 := Try.underlying9
  have a9 := Try.isAgg9
  have z9 := Try.sizeOf9
  have a35 := Try.isAgg31
  have z35 := Try.sizeOf31
  have hv := fun w => val_eqIn d a b c a' b' c' s s' w
  rw [run_equalIn_agg w (d + 1 + 1) 45 _ _ hS hp]
  simp only [Program.fieldsOf, Try.underlying45]
  clear hS hp
  go_simp
  unfold cSame
  by_cases hk : k = k'
  · subst hk
    cases o <;> cases o' <;> cases vSame ⟨a, b, c, s⟩ ⟨a', b', c', s'⟩ <;> simp
  · have : (k == k') = false := by simpa using hk
    rw [if_neg hk]
    simp [this]

theorem chg_eql6 (k k' : List UInt8) (o o' : Bool) (a b c a' b' c' : Int) (s s' : List UInt8) (w : World) :
    (binOp .eql 45 (.agg #[.string ⟨k.toArray⟩, .bool o, .int .i64 a, .int .i64 b, .int .i64 c, .string ⟨s.toArray⟩]) (.agg #[.string ⟨k'.toArray⟩, .bool o', .int .i64 a', .int .i64 b', .int .i64 c', .string ⟨s'.toArray⟩])).run Try.prog w = .ok (.bool (cSame ⟨k, o, a, b, c, s⟩ ⟨k', o', a', b', c', s'⟩)) w := by
  rw [run_eql_struct, show (10000 : Nat) = 9997 + 1 + 1 + 1 from rfl, chg_eqIn 9997]
  rfl

/-! ### Few -/

def fewT (t : List Row) : Bool := decide (t.length ≤ 40) && t.all fun r => decide (r.c.length ≤ 60) && decide (r.v.st.length ≤ 100)

theorem fewT_yes {t : List Row} (h : fewT t = true) : t.length ≤ 40 ∧ ∀ r ∈ t, r.c.length ≤ 60 ∧ r.v.st.length ≤ 100 := by
  unfold fewT at h
  simp only [Bool.and_eq_true, decide_eq_true_eq, List.all_eq_true] at h
  exact h

theorem fewT_short {t : List Row} (h : fewT t = true) : Short t := fun r hr => by
  have := (fewT_yes h).2 r hr
  omega

theorem fewT_off {t : List Row} {k : Nat} (hk : k < t.length) (h : 60 < (t.getD k Row.zero).c.length ∨ 100 < (t.getD k Row.zero).v.st.length) : fewT t = false := by
  rw [Bool.eq_false_iff]
  intro h'
  have hm : t.getD k Row.zero ∈ t := by rw [← row_get hk]; exact List.getElem_mem hk
  have := (fewT_yes h').2 _ hm
  omega

theorem fewT_on {t : List Row} (h1 : t.length ≤ 40) (h2 : ∀ k, k < t.length → (t.getD k Row.zero).c.length ≤ 60 ∧ (t.getD k Row.zero).v.st.length ≤ 100) : fewT t = true := by
  unfold fewT
  simp only [Bool.and_eq_true, decide_eq_true_eq, List.all_eq_true]
  refine ⟨h1, fun r hr => ?_⟩
  obtain ⟨k, hk, rfl⟩ := List.getElem_of_mem hr
  rw [row_get hk]
  exact h2 k hk

set_option maxHeartbeats 400000 in
set_option maxRecDepth 100000 in
theorem fewt_any {w : World} {v : Value} {t : List Row} (hv : Tab w v t) :
    Calls Try.prog 35 #[v] w fun e w' => e = .returned (.bool (fewT t)) ∧ w = w' := by
  have HV := Lib.hid hv
  obtain ⟨a, cap, rfl, hm⟩ := hv.open'
  clear hv
  by_cases h : 40 < t.length
  · have HR : Hid (fewT t = false) := by show _ = _; unfold fewT; simp; omega
    go_enter Try.func35, Try.ntmps35
    go_wp2_with fail
    go_ret
    exact ⟨by rw [HR.out]; rfl, rfl⟩
  · go_enter Try.func35, Try.ntmps35
    go_wp2_with fail
    go_loop [3] (fun i => ∃ k : Nat, k ≤ t.length ∧ i = .int .i64 k ∧ Hid (∀ j, j < k → (t.getD j Row.zero).c.length ≤ 60 ∧ (t.getD j Row.zero).v.st.length ≤ 100)) (fun i => t.length - (intOf i).toNat)
    case atStart => exact ⟨0, by omega, rfl, fun j hj => absurd hj (by omega)⟩
    case round =>
      obtain ⟨k, hk, rfl, HA⟩ := hrel
      by_cases hlt : k < t.length
      · obtain ⟨b, off, rfl, h0, h1, h2, h3, h4⟩ := HV.out.row (Below.refl _ _) k hlt
        obtain ⟨r, hr⟩ : ∃ r, t.getD k Row.zero = r := ⟨_, rfl⟩
        rw [hr] at h0 h1 h2 h3 h4
        have HRr := Lib.hid hr
        clear hr
        by_cases hn : 60 < r.c.length
        · have HR : Hid (fewT t = false) := by show _ = _; exact fewT_off hlt (.inl (by rw [HRr.out]; exact hn))
          have t1 : decide (60 < r.c.length) = true := by simpa using hn
          go_wp2_with fail
          go_ret
          exact ⟨by rw [HR.out]; rfl, rfl⟩
        · by_cases hs : 100 < r.v.st.length
          · have HR : Hid (fewT t = false) := by show _ = _; exact fewT_off hlt (.inr (by rw [HRr.out]; exact hs))
            go_wp2_with fail
            go_ret
            exact ⟨by rw [HR.out]; rfl, rfl⟩
          · have HN : Hid (∀ j, j < k + 1 → (t.getD j Row.zero).c.length ≤ 60 ∧ (t.getD j Row.zero).v.st.length ≤ 100) := by
              show ∀ j, j < k + 1 → _
              intro j hj
              by_cases hjk : j = k
              · rw [hjk, HRr.out]; omega
              · exact HA.out j (by omega)
            go_wp2_with fail
            go_round
            case rel => exact ⟨k + 1, by omega, by go_num, HN⟩
            case measure => simp [intOf]; omega
      · obtain rfl : k = t.length := by omega
        have HR : Hid (fewT t = true) := by show _ = _; exact fewT_on (by omega) HA.out
        go_wp2_with fail
        go_ret
        exact ⟨by rw [HR.out]; rfl, rfl⟩

theorem fewt_eq {w : World} {v : Value} {t : List Row} (hv : Tab w v t) {r : Bool} (h : Hid (fewT t = r)) :
    Calls Try.prog 35 #[v] w fun e w' => e = .returned (.bool r) ∧ w = w' := by
  have := fewt_any hv
  rwa [h.out] at this

/-! ### Two tables -/

theorem tSame_next {t u : List Row} {k : Nat} (h : (List.range k).all (fun i => rSame (t.getD i Row.zero) (u.getD i Row.zero)) = true) (hk : rSame (t.getD k Row.zero) (u.getD k Row.zero) = true) :
    (List.range (k + 1)).all (fun i => rSame (t.getD i Row.zero) (u.getD i Row.zero)) = true := range_all_succ h hk

set_option maxHeartbeats 800000 in
set_option maxRecDepth 100000 in
theorem tsame_any {w : World} {v u : Value} {t s : List Row} (hv : Tab w v t) (hu : Tab w u s) :
    Calls Try.prog 18 #[v, u] w fun e w' => e = .returned (.bool (tSame t s)) ∧ Below w.heap.size w w' := by
  have HV := Lib.hid hv
  have HU := Lib.hid hu
  obtain ⟨a, cap, rfl, hm⟩ := hv.open'
  obtain ⟨a2, cap2, rfl, hm2⟩ := hu.open'
  clear hv hu
  by_cases hl : t.length = s.length
  · have HL := Lib.hid hl
    have t1 : ((t.length : Int) != (s.length : Int)) = false := by simp [hl]
    clear hl
    go_enter Try.func18, Try.ntmps18
    go_wp2_with fail
    go_loopw [5] (fun i wr => ∃ k : Nat, k ≤ t.length ∧ i = .int .i64 k ∧ Hid (Below w.heap.size w wr) ∧ Hid ((List.range k).all (fun i => rSame (t.getD i Row.zero) (s.getD i Row.zero)) = true)) (fun i _ => t.length - (intOf i).toNat)
    case atStart => exact ⟨0, by omega, rfl, Below.refl _ _, by show _ = _; simp⟩
    case round =>
      obtain ⟨k, hk, rfl, HN, HA⟩ := hrel
      by_cases hlt : k < t.length
      · obtain ⟨b, off, rfl, h0, h1, h2, h3, h4⟩ := HV.out.row HN.out k hlt
        obtain ⟨b2, off2, rfl, i0, i1, i2, i3, i4⟩ := HU.out.row HN.out k (by rw [← HL.out]; exact hlt)
        have hlt2 : k < s.length := by rw [← HL.out]; exact hlt
        obtain ⟨⟨c, ⟨x, y, z, st⟩⟩, hr⟩ : ∃ r, t.getD k Row.zero = r := ⟨_, rfl⟩
        obtain ⟨⟨c', ⟨x', y', z', st'⟩⟩, hr'⟩ : ∃ r, s.getD k Row.zero = r := ⟨_, rfl⟩
        rw [hr] at h0 h1 h2 h3 h4
        rw [hr'] at i0 i1 i2 i3 i4
        have hgd : Try.prog.eqGuardType Try.prog.depth 57 = false := by kernel_rfl
        have hne := row_neq5 c c' x y z x' y' z' st st'
        cases hs : rSame ⟨c, x, y, z, st⟩ ⟨c', x', y', z', st'⟩ with
        | false =>
          have HR : Hid (tSame t s = false) := by show _ = _; exact tSame_off hlt (by rw [hr, hr']; exact hs)
          rw [hs] at hne
          simp only at h0 h1 h2 h3 h4 i0 i1 i2 i3 i4
          clear hr hr' hs
          go_wp2_with fail
          go_region
          go_wp2_with fail
          go_ret
          exact ⟨by rw [HR.out]; rfl, HN.out.drew⟩
        | true =>
          have HA2 : Hid ((List.range (k + 1)).all (fun i => rSame (t.getD i Row.zero) (s.getD i Row.zero)) = true) := by show _ = _; exact tSame_next HA.out (by rw [hr, hr']; exact hs)
          rw [hs] at hne
          simp only at h0 h1 h2 h3 h4 i0 i1 i2 i3 i4
          clear hr hr' hs
          go_wp2_with fail
          go_region
          go_wp2_with fail
          go_roundw
          case rel => exact ⟨k + 1, by omega, by go_num, HN.out.drew, HA2⟩
          case measure => simp [intOf]; omega
      · obtain rfl : k = t.length := by omega
        have HR : Hid (tSame t s = true) := by show _ = _; exact tSame_on HL.out HA.out
        go_wp2_with fail
        go_ret
        exact ⟨by rw [HR.out]; rfl, HN.out⟩
  · have HR := Lib.hid (tSame_len hl)
    have t1 : ((t.length : Int) != (s.length : Int)) = true := by simp; omega
    clear hl
    go_enter Try.func18, Try.ntmps18
    go_wp2_with fail
    go_ret
    exact ⟨by rw [HR.out]; rfl, Below.refl _ _⟩

theorem tsame_eq {w : World} {v u : Value} {t s : List Row} (hv : Tab w v t) (hu : Tab w u s) {r : Bool} (h : Hid (tSame t s = r)) :
    Calls Try.prog 18 #[v, u] w fun e w' => e = .returned (.bool r) ∧ Below w.heap.size w w' := by
  have := tsame_any hv hu
  rwa [h.out] at this

end Go.Proofs.Ytekkofldhhdpgaa

end

section

/-
  CONTRACTS OF GO'S OWN LIBRARY AT THIS PROGRAM, LAID WITHOUT A WALK: the tables of numbers and one application each (strings.Builder, strings.Compare, cmp.Compare, slices.Compact, slices.SortFunc).
-/
namespace Go.Proofs.Ytekkofldhhdpgaa
open Go.Shelf Go.RowKit

def Try.lays169_ren : Go.Shelf.Ren := ⟨fun | 169 => 52 | n => n, fun | 70 => 80 | 9 => 9 | 0 => 0 | 72 => 82 | 37 => 54 | 127 => 103 | 3 => 3 | 5 => 5 | n => n, fun | n => n⟩

theorem Try.lays169 : Go.Proofs.Lays.n169 Try.prog Try.lays169_ren := {
  mixed := by kernel_rfl
  f169 := Try.func52.trans (congrArg some (by kernel_rfl))
  t0 := Try.underlying0
  a0 := Try.isAgg0
  z0 := Try.sizeOf0
  v0 := Try.zeroValue0
  t3 := Try.underlying3
  a3 := Try.isAgg3
  z3 := Try.sizeOf3
  v3 := Try.zeroValue3
  t9 := Try.underlying9
  a9 := Try.isAgg9
  z9 := Try.sizeOf9
  v9 := Try.zeroValue9
  t37 := Try.underlying54
  a37 := Try.isAgg54
  z37 := Try.sizeOf54
  v37 := Try.zeroValue54
  t70 := Try.underlying80
  a70 := Try.isAgg80
  z70 := Try.sizeOf80
  v70 := Try.zeroValue80
  t72 := Try.underlying82
  a72 := Try.isAgg82
  z72 := Try.sizeOf82
  v72 := Try.zeroValue82
  t127 := Try.underlying103
  a127 := Try.isAgg103
  z127 := Try.sizeOf103
  v127 := Try.zeroValue103 }

theorem Try.Builder_Extra_169 : Builder.Extra Try.prog Try.lays169_ren := {
  sizeBuilder := by kernel_rfl
  liesBuilder := by kernel_rfl
  t5 := Try.underlying5
  a5 := Try.isAgg5
  z5 := Try.sizeOf5
  v5 := Try.zeroValue5
  infoByte := by kernel_rfl
  cellsByte := by kernel_rfl
  sizeByte := by kernel_rfl
  neB5 := by decide }

def Try.lays106_ren : Go.Shelf.Ren := ⟨fun | 106 => 89 | 213 => 96 | 265 => 97 | n => n, fun | 9 => 9 | 3 => 3 | n => n, fun | n => n⟩

theorem Try.lays106 : Go.Proofs.Lays.n106 Try.prog Try.lays106_ren := {
  mixed := by kernel_rfl
  f106 := Try.func89.trans (congrArg some (by kernel_rfl))
  f213 := Try.func96.trans (congrArg some (by kernel_rfl))
  f265 := Try.func97.trans (congrArg some (by kernel_rfl))
  t3 := Try.underlying3
  a3 := Try.isAgg3
  z3 := Try.sizeOf3
  v3 := Try.zeroValue3
  t9 := Try.underlying9
  a9 := Try.isAgg9
  z9 := Try.sizeOf9
  v9 := Try.zeroValue9 }

open Go.RowKit in
theorem Try.strings_Compare (a b : ByteArray) (w : World) :
    Calls Try.prog 89 #[.string a, .string b] w fun e w' => e = .returned (.int .i64 (Lib.compareBytes a.data.toList b.data.toList)) ∧ w' = w := Any.strings_Compare Try.lays106 a b w

def Try.lays122_ren : Go.Shelf.Ren := ⟨fun | 122 => 88 | 215 => 95 | n => n, fun | 3 => 3 | 4 => 4 | n => n, fun | n => n⟩

theorem Try.lays122 : Go.Proofs.Lays.n122 Try.prog Try.lays122_ren := {
  mixed := by kernel_rfl
  f122 := Try.func88.trans (congrArg some (by kernel_rfl))
  f215 := Try.func95.trans (congrArg some (by kernel_rfl))
  t3 := Try.underlying3
  a3 := Try.isAgg3
  z3 := Try.sizeOf3
  v3 := Try.zeroValue3
  t4 := Try.underlying4
  a4 := Try.isAgg4
  z4 := Try.sizeOf4
  v4 := Try.zeroValue4 }

open Go.RowKit in
theorem Try.cmp_Compare_int (x y : Int) (w : World) :
    Calls Try.prog 88 #[.int .i64 x, .int .i64 y] w fun e w' => e = .returned (.int .i64 (Lib.compareInt x y)) ∧ w' = w := Any.cmp_Compare_int Try.lays122 x y w

open Go.RowKit in
theorem Try.Builder_String_any_k (B b : Nat) (l : List UInt8) (w : World) (h : Lib.IsBuilderF 82 5 B b (Lib.byteCells l) w) (hBw : B ≤ w.heap.size) :
    Calls Try.prog 52 #[.pointer (some ⟨b, 0, none⟩)] w fun e w' => e = .returned (.string ⟨l.toArray⟩) ∧ (Lib.IsBuilderF 82 5 B b (Lib.byteCells l) w' ∧ Below B w w' ∧ Lib.OthersKept 5 (some b) w w') := Any.Builder_String_any_k Try.lays169 Try.Builder_Extra_169 B b l w h hBw

end Go.Proofs.Ytekkofldhhdpgaa

end

section

/-
  THE CONTRACTS OF ident.compare, Less AND OF THE DOCUMENT'S ANSWER TO Less.
-/
namespace Go.Proofs.Ytekkofldhhdpgaa
open Go.RowKit Go.Lib

theorem icmp (x y : Int) (w : World) : Calls Try.prog 88 #[.int .i64 x, .int .i64 y] w fun e w' => e = .returned (.int .i64 (compareInt x y)) ∧ w = w' :=
  (Try.cmp_Compare_int x y w).mono fun _ _ ⟨he, hw⟩ => ⟨he, hw.symm⟩

theorem scmp (a b : List UInt8) (w : World) : Calls Try.prog 89 #[.string ⟨a.toArray⟩, .string ⟨b.toArray⟩] w fun e w' => e = .returned (.int .i64 (compareBytes a b)) ∧ w = w' :=
  (Try.strings_Compare ⟨a.toArray⟩ ⟨b.toArray⟩ w).mono fun _ _ ⟨he, hw⟩ => ⟨by simpa using he, hw.symm⟩

/-- The first that is not nought. -/
def orI (x y : Int) : Int := if x = 0 then y else x

set_option maxHeartbeats 400000 in
set_option maxRecDepth 100000 in
theorem or_any (B : Nat) (x y : Int) (w : World) (k0 : w.cell? ⟨B, 0, none⟩ = some (.int .i64 x)) (k1 : w.cell? ⟨B, 1, none⟩ = some (.int .i64 y)) :
    Calls Try.prog 87 #[.slice (some ⟨B, 0, none⟩) 2 2] w fun e w' => e = .returned (.int .i64 (orI x y)) ∧ w = w' := by
  by_cases hx : x = 0
  · subst hx
    by_cases hy : y = 0
    · subst hy
      go_enter Try.func87, Try.ntmps87
      go_wp2_with fail
      refine wp_loop_rounds 3 ?_
      rw [rounds_succ]
      go_wp2_with fail
      rw [rounds_succ]
      go_wp2_with fail
      rw [rounds_succ]
      go_wp2_with fail
      go_ret
      exact ⟨rfl, rfl⟩
    · have t1 : (y != 0) = true := by simp [hy]
      clear hy
      go_enter Try.func87, Try.ntmps87
      go_wp2_with fail
      refine wp_loop_rounds 3 ?_
      rw [rounds_succ]
      go_wp2_with fail
      rw [rounds_succ]
      go_wp2_with fail
      go_ret
      exact ⟨rfl, rfl⟩
  · have t1 : (x != 0) = true := by simp [hx]
    have HX : Hid (orI x y = x) := if_neg hx
    clear hx
    go_enter Try.func87, Try.ntmps87
    go_wp2_with fail
    refine wp_loop_rounds 3 ?_
    rw [rounds_succ]
    go_wp2_with fail
    go_ret
    exact ⟨by rw [HX.out]; rfl, rfl⟩

theorem idCmp_or (a b : List UInt8) : idCmp a b = orI (compareInt a.length b.length) (compareBytes a b) := by
  unfold idCmp compareInt orI
  by_cases h1 : a.length < b.length
  · have : (a.length : Int) < b.length := by omega
    simp [h1, this]
  · by_cases h2 : b.length < a.length
    · have h1' : ¬ (a.length : Int) < b.length := by omega
      have h2' : (b.length : Int) < a.length := by omega
      simp [h1, h2, h1', h2']
    · have h1' : ¬ (a.length : Int) < b.length := by omega
      have h2' : ¬ (b.length : Int) < a.length := by omega
      simp [h1, h2, h1', h2']

set_option maxHeartbeats 400000 in
set_option maxRecDepth 100000 in
theorem compare_any (a b : List UInt8) (w : World) :
    Calls Try.prog 76 #[.string ⟨a.toArray⟩, .string ⟨b.toArray⟩] w fun e w' => e = .returned (.int .i64 (idCmp a b)) ∧ ∃ o, w' = w.alloc o := by
  have HI := Lib.hid (idCmp_or a b)
  have H1 := Lib.hid (icmp a.length b.length)
  have H2 := Lib.hid (scmp a b)
  obtain ⟨x, hx⟩ : ∃ x, compareInt a.length b.length = x := ⟨_, rfl⟩
  obtain ⟨y, hy⟩ : ∃ y, compareBytes a b = y := ⟨_, rfl⟩
  rw [hx] at H1 HI
  rw [hy] at H2 HI
  clear hx hy
  go_enter Try.func76, Try.ntmps76
  go_wp2_with fail
  refine (H1.out _).mono ?_
  rintro e w' ⟨rfl, rfl⟩
  go_wp2_with fail
  refine (H2.out _).mono ?_
  rintro e w' ⟨rfl, rfl⟩
  go_wp2_with fail
  refine (or_any _ x y _ (by simp) (by simp)).mono ?_
  rintro e w' ⟨rfl, rfl⟩
  go_wp2_with fail
  go_ret
  exact ⟨by rw [HI.out]; rfl, _, rfl⟩

theorem compare_eq (a b : List UInt8) {n : Int} (h : Hid (idCmp a b = n)) (w : World) :
    Calls Try.prog 76 #[.string ⟨a.toArray⟩, .string ⟨b.toArray⟩] w fun e w' => e = .returned (.int .i64 n) ∧ Below w.heap.size w w' := by
  have h1 := h.out
  subst h1
  exact (compare_any a b w).mono fun _ _ ⟨he, o, hw⟩ => ⟨he, by rw [hw]; exact (Below.refl _ _).alloc (Nat.le_refl _) _⟩

set_option maxHeartbeats 400000 in
set_option maxRecDepth 100000 in
theorem less_eq (a b : List UInt8) {r : Bool} (h : Hid (idLess a b = r)) (w : World) :
    Calls Try.prog 47 #[.string ⟨a.toArray⟩, .string ⟨b.toArray⟩] w fun e w' => e = .returned (.bool r) ∧ Below w.heap.size w w' := by
  obtain ⟨n, hn⟩ : ∃ n, Hid (idCmp a b = n) := ⟨_, rfl⟩
  have hr : Hid (decide (n < 0) = r) := by show _ = _; rw [← hn.out]; exact h.out
  go_enter Try.func47, Try.ntmps47
  go_wp2_with fail
  refine (compare_eq a b hn _).mono ?_
  rintro e w1 ⟨rfl, hb1⟩
  have B1 := Lib.hid hb1
  clear hb1
  go_wp2_with fail
  go_ret
  exact ⟨by rw [← hr.out]; rfl, B1.out⟩

set_option maxHeartbeats 400000 in
set_option maxRecDepth 100000 in
theorem rless_eq (a b : List UInt8) {r : Bool} (h : Hid (idLess a b = r)) (w : World) :
    Calls Try.prog 34 #[.string ⟨a.toArray⟩, .string ⟨b.toArray⟩] w fun e w' => e = .returned (.bool r) ∧ w = w' := by
  have hd := idLess_doc a b
  rw [h.out] at hd
  have HD := Lib.hid hd
  clear hd h
  by_cases h1 : a.length < b.length
  · have hr : Hid (r = true) := by show _ = _; rw [HD.out]; simp [h1]
    clear HD
    go_enter Try.func34, Try.ntmps34
    go_wp2_with fail
    go_ret
    exact ⟨by rw [hr.out]; rfl, rfl⟩
  · by_cases h2 : a.length = b.length
    · have hr : Hid (r = Op.bytesLess a b) := by show _ = _; rw [HD.out]; simp [h2]
      have t1 : ((a.length : Int) == (b.length : Int)) = true := by rw [h2]; simp
      have t2 : decide (a.length < b.length) = false := by simp; omega
      clear HD h1 h2
      go_enter Try.func34, Try.ntmps34
      go_wp2_with fail
      go_ret
      exact ⟨by rw [hr.out]; rfl, rfl⟩
    · have hr : Hid (r = false) := by show _ = _; rw [HD.out]; simp [h1, h2]
      have t1 : ((a.length : Int) == (b.length : Int)) = false := by simp; omega
      have t2 : decide (a.length < b.length) = false := by simp; omega
      clear HD h1 h2
      go_enter Try.func34, Try.ntmps34
      go_wp2_with fail
      go_ret
      exact ⟨by rw [hr.out]; rfl, rfl⟩

end Go.Proofs.Ytekkofldhhdpgaa

end

section

/-
  THE CONTRACTS OF ident.Is (with isLetter, isInner), Put, Take AND OF THE DOCUMENT'S ANSWERS TO THEM.
-/
namespace Go.Proofs.Ytekkofldhhdpgaa
open Go.RowKit

def runeLc (r : Int) : Bool := decide (97 ≤ r) && decide (r ≤ 122)
def runeIn (r : Int) : Bool := (decide (48 ≤ r) && decide (r ≤ 57)) || decide (r = 45)

set_option maxHeartbeats 400000 in
set_option maxRecDepth 100000 in
theorem letter_eq (r : Int) {b : Bool} (h : Hid (runeLc r = b)) (w : World) :
    Calls Try.prog 73 #[.int .i32 r] w fun e w' => e = .returned (.bool b) ∧ w = w' := by
  have h' := h.out
  unfold runeLc at h'
  clear h
  by_cases h1 : 97 ≤ r
  · by_cases h2 : r ≤ 122
    · obtain rfl : b = true := by rw [← h']; simp [h1, h2]
      clear h'
      go_enter Try.func73, Try.ntmps73
      go_wp2_with fail
      go_ret
      exact ⟨by first | rfl | simp_all, rfl⟩
    · obtain rfl : b = false := by rw [← h']; simp [h2]
      have h3 : 122 < r := by omega
      clear h' h2
      go_enter Try.func73, Try.ntmps73
      go_wp2_with fail
      go_ret
      exact ⟨by first | rfl | simp_all, rfl⟩
  · obtain rfl : b = false := by rw [← h']; simp [h1]
    have h3 : r < 97 := by omega
    clear h' h1
    go_enter Try.func73, Try.ntmps73
    go_wp2_with fail
    go_ret
    exact ⟨by first | rfl | simp_all, rfl⟩

set_option maxHeartbeats 400000 in
set_option maxRecDepth 100000 in
theorem inner_eq (r : Int) {b : Bool} (h : Hid (runeIn r = b)) (w : World) :
    Calls Try.prog 74 #[.int .i32 r] w fun e w' => e = .returned (.bool b) ∧ w = w' := by
  have h' := h.out
  unfold runeIn at h'
  clear h
  by_cases h0 : r = 45
  · subst h0
    obtain rfl : b = true := by rw [← h']; decide
    clear h'
    go_enter Try.func74, Try.ntmps74
    go_wp2_with fail
    go_ret
    exact ⟨rfl, rfl⟩
  · have t0 : (r == 45) = false := by simpa using h0
    by_cases h1 : 48 ≤ r
    · by_cases h2 : r ≤ 57
      · obtain rfl : b = true := by rw [← h']; simp [h1, h2]
        clear h' h0
        go_enter Try.func74, Try.ntmps74
        go_wp2_with fail
        go_ret
        exact ⟨rfl, rfl⟩
      · obtain rfl : b = false := by rw [← h']; simp [h2, h0]
        have h3 : decide (r ≤ 57) = false := by simp; omega
        clear h' h2 h0
        go_enter Try.func74, Try.ntmps74
        go_wp2_with fail
        go_ret
        exact ⟨rfl, rfl⟩
    · obtain rfl : b = false := by rw [← h']; simp [h1, h0]
      have h3 : r < 48 := by omega
      clear h' h1 h0
      go_enter Try.func74, Try.ntmps74
      go_wp2_with fail
      go_ret
      exact ⟨rfl, rfl⟩

theorem runeLc_byte (b : UInt8) : runeLc (b.toNat : Int) = lcOk b := by
  unfold runeLc lcOk
  rw [Bool.eq_iff_iff]
  simp
  omega

theorem runeIn_byte (b : UInt8) : runeIn (b.toNat : Int) = dgOk b := by
  unfold runeIn dgOk
  rw [Bool.eq_iff_iff]
  simp
  omega

theorem rune_high {r : Nat} (h : 128 ≤ r) : runeLc (r : Int) = false ∧ runeIn (r : Int) = false := by
  unfold runeLc runeIn
  constructor
  · rw [Bool.eq_false_iff]; simp; omega
  · rw [Bool.eq_false_iff]; simp; omega

theorem all_succ {l : List UInt8} {k : Nat} {b : UInt8} (hb : l[k]? = some b) (p : UInt8 → Bool) : (l.take (k + 1)).all p = ((l.take k).all p && p b) := by
  obtain ⟨h1, h2⟩ := List.getElem?_eq_some_iff.1 hb
  rw [List.take_succ_eq_append_getElem h1, h2, List.all_append]
  simp

theorem idIs_bad {l : List UInt8} {k : Nat} {b : UInt8} (hb : l[k]? = some b) (h : inOk b = false) : idIs l = false := by
  rw [Bool.eq_false_iff]
  intro h'
  have := List.all_eq_true.1 (idIs_parts h').2.2.2 b (List.mem_of_getElem? hb)
  rw [h] at this
  cases this

theorem idIs_first {l : List UInt8} {b : UInt8} (hb : l[0]? = some b) (h : lcOk b = false) : idIs l = false := by
  rw [Bool.eq_false_iff]
  intro h'
  have := (idIs_parts h').2.2.1
  rw [List.getD, hb] at this
  simp [h] at this

set_option maxHeartbeats 1600000 in
set_option maxRecDepth 100000 in
theorem is_any (l : List UInt8) (hl : l.length ≤ 4294967296) (w : World) :
    Calls Try.prog 45 #[.string ⟨l.toArray⟩] w fun e w' => e = .returned (.bool (idIs l)) ∧ Below w.heap.size w w' := by
  by_cases h0 : l = []
  · subst h0
    go_enter Try.func45, Try.ntmps45
    go_wp2_with fail
    go_ret
    exact ⟨rfl, Below.refl _ _⟩
  · have t0 : (l == []) = false := by simpa using h0
    have hpos : 1 ≤ l.length := by
      rcases l with _ | ⟨_, _⟩
      · exact absurd rfl h0
      · simp
    by_cases h16 : 16 < l.length
    · have HR := Lib.hid (idIs_long h16)
      have H0 := Lib.hid h0
      clear h0
      go_enter Try.func45, Try.ntmps45
      go_wp2_with fail
      go_ret
      exact ⟨by rw [HR.out]; rfl, Below.refl _ _⟩
    · have H0 := Lib.hid h0
      clear h0
      go_enter Try.func45, Try.ntmps45
      go_wp2_with fail
      go_loopw [] (fun wr => ∃ pos : Nat, pos ≤ l.length ∧ Hid (wr.heap[w.heap.size]? = some (.stringIter ⟨l.toArray⟩ pos)) ∧ Below w.heap.size w wr ∧ Hid (pos = 0 ∨ lcOk (l.getD 0 0) = true) ∧ Hid ((l.take pos).all inOk = true)) (fun wr => l.length - wr.iterPos w.heap.size)
      case atStart => exact ⟨0, by omega, World.iter_heap w _ 0, (Below.refl _ w).alloc (Nat.le_refl _) _, .inl rfl, by show _ = _; simp⟩
      case round =>
        obtain ⟨pos, hp, HI, hnx, HF, HA⟩ := hrel
        have HN := Lib.hid hnx
        have hpi : Hid (wr.iterPos w.heap.size = pos) := by show _ = _; simp only [World.iterPos, HI.out]
        by_cases hlt : pos < l.length
        · have hlt' : pos < (⟨l.toArray⟩ : ByteArray).size := by rw [size_bytes]; exact hlt
          obtain ⟨b, hb⟩ : ∃ b : UInt8, (⟨l.toArray⟩ : ByteArray)[pos]'hlt' = b := ⟨_, rfl⟩
          have HB : Hid (l[pos]? = some b) := by rw [← hb]; exact bytes_at l pos hlt'
          have hb256 := b.toNat_lt
          by_cases h128 : b.toNat < 128
          · have hnext := fun ty => Lib.run_next_ascii_at (P := Try.prog) wr w.heap.size ⟨l.toArray⟩ pos ty HI.out hlt' (by rw [hb]; exact h128)
            rw [hb] at hnext
            have HI2 := Lib.hid (Lib.iterAt_heap wr w.heap.size ⟨l.toArray⟩ pos (pos + 1) HI.out)
            have HN2 := Lib.hid (Lib.below_iterAt hnx (k := w.heap.size) (Nat.le_refl _) ⟨l.toArray⟩ (pos + 1))
            have hp2 : Hid ((wr.iterAt w.heap.size ⟨l.toArray⟩ (pos + 1)).iterPos w.heap.size = pos + 1) := by show _ = _; simp only [World.iterPos, HI2.out]
            clear hb hnx
            cases hl : lcOk b with
            | true =>
              have HL : Hid (runeLc (b.toNat : Int) = true) := by show _ = _; rw [runeLc_byte]; exact hl
              have HA2 : Hid ((l.take (pos + 1)).all inOk = true) := by show _ = _; rw [all_succ HB.out, HA.out]; simp [inOk, hl]
              have HF2 : Hid (pos + 1 = 0 ∨ lcOk (l.getD 0 0) = true) := by
                show _ ∨ _
                right
                rcases HF.out with h | h
                · subst h; rw [List.getD, HB.out]; exact hl
                · exact h
              clear hl
              go_wp2_with fail
              refine (letter_eq _ HL _).mono ?_
              rintro e w' ⟨rfl, rfl⟩
              go_wp2_with fail
              go_roundw
              case rel => exact ⟨pos + 1, by omega, HI2, HN2.out, HF2, HA2⟩
              case measure => rw [hp2.out, hpi.out]; omega
            | false =>
              have HL : Hid (runeLc (b.toNat : Int) = false) := by show _ = _; rw [runeLc_byte]; exact hl
              by_cases hz : pos = 0
              · have HR : Hid (idIs l = false) := by show _ = _; subst hz; exact idIs_first HB.out hl
                subst hz
                clear hl
                go_wp2_with fail
                refine (letter_eq _ HL _).mono ?_
                rintro e w' ⟨rfl, rfl⟩
                go_wp2_with fail
                go_ret
                exact ⟨by rw [HR.out]; rfl, HN2.out⟩
              · have hz' : 0 < pos := by omega
                clear hz
                cases hd : dgOk b with
                | true =>
                  have HD : Hid (runeIn (b.toNat : Int) = true) := by show _ = _; rw [runeIn_byte]; exact hd
                  have HA2 : Hid ((l.take (pos + 1)).all inOk = true) := by show _ = _; rw [all_succ HB.out, HA.out]; simp [inOk, hd]
                  have HF2 : Hid (pos + 1 = 0 ∨ lcOk (l.getD 0 0) = true) := by
                    show _ ∨ _
                    right
                    rcases HF.out with h | h
                    · omega
                    · exact h
                  clear hl hd
                  go_wp2_with fail
                  refine (letter_eq _ HL _).mono ?_
                  rintro e w' ⟨rfl, rfl⟩
                  go_wp2_with fail
                  refine (inner_eq _ HD _).mono ?_
                  rintro e w' ⟨rfl, rfl⟩
                  go_wp2_with fail
                  go_roundw
                  case rel => exact ⟨pos + 1, by omega, HI2, HN2.out, HF2, HA2⟩
                  case measure => rw [hp2.out, hpi.out]; omega
                | false =>
                  have HD : Hid (runeIn (b.toNat : Int) = false) := by show _ = _; rw [runeIn_byte]; exact hd
                  have HR : Hid (idIs l = false) := by show _ = _; exact idIs_bad HB.out (by simp [inOk, hl, hd])
                  clear hl hd
                  go_wp2_with fail
                  refine (letter_eq _ HL _).mono ?_
                  rintro e w' ⟨rfl, rfl⟩
                  go_wp2_with fail
                  refine (inner_eq _ HD _).mono ?_
                  rintro e w' ⟨rfl, rfl⟩
                  go_wp2_with fail
                  go_ret
                  exact ⟨by rw [HR.out]; rfl, HN2.out⟩
          · obtain ⟨hh1, _⟩ := decode_high ⟨l.toArray⟩ pos hlt' (by rw [hb]; omega)
            have hnext := fun ty => Lib.run_next_any_at (P := Try.prog) wr w.heap.size ⟨l.toArray⟩ pos ty HI.out hlt'
            have HN2 := Lib.hid (Lib.below_iterAt hnx (k := w.heap.size) (Nat.le_refl _) ⟨l.toArray⟩ (pos + (Utf8.decode ⟨l.toArray⟩ pos).2))
            have HR : Hid (idIs l = false) := by show _ = _; exact idIs_high (List.mem_of_getElem? HB.out) (by omega)
            obtain ⟨r, hr⟩ : ∃ r, (Utf8.decode ⟨l.toArray⟩ pos).1 = r := ⟨_, rfl⟩
            obtain ⟨q, hq⟩ : ∃ q, pos + (Utf8.decode ⟨l.toArray⟩ pos).2 = q := ⟨_, rfl⟩
            rw [hr, hq] at hnext
            rw [hq] at HN2
            rw [hr] at hh1
            have HL := Lib.hid (rune_high hh1).1
            have HD := Lib.hid (rune_high hh1).2
            clear hr hq hb hnx
            go_wp2_with fail
            refine (letter_eq _ HL _).mono ?_
            rintro e w' ⟨rfl, rfl⟩
            by_cases hz : pos = 0
            · subst hz
              go_wp2_with fail
              go_ret
              exact ⟨by rw [HR.out]; rfl, HN2.out⟩
            · have hz' : 0 < pos := by omega
              clear hz
              go_wp2_with fail
              refine (inner_eq _ HD _).mono ?_
              rintro e w' ⟨rfl, rfl⟩
              go_wp2_with fail
              go_ret
              exact ⟨by rw [HR.out]; rfl, HN2.out⟩
        · obtain rfl : pos = l.length := by omega
          have hnext := fun ty => Lib.run_next_end_at (P := Try.prog) wr w.heap.size ⟨l.toArray⟩ l.length ty HI.out (by rw [size_bytes]; omega)
          have HR : Hid (idIs l = true) := by
            show _ = _
            have ha := HA.out
            rw [List.take_length] at ha
            refine idIs_mk hpos (by omega) ?_ ha
            rcases HF.out with h | h
            · omega
            · exact h
          clear hnx
          go_wp2_with fail
          go_ret
          exact ⟨by rw [HR.out]; rfl, HN.out⟩

end Go.Proofs.Ytekkofldhhdpgaa

end

section

/-
  THE CONTRACT OF ident.Fold (with small): a Builder, written in a range over a string.
-/
namespace Go.Proofs.Ytekkofldhhdpgaa
open Go.RowKit Go.Lib

def smallR (r : Int) : Int := if 65 ≤ r ∧ r ≤ 90 then r + 32 else r

/-- Where the folding of l stands: at pos; acc is what is written. -/
def FoldAt (l : List UInt8) (pos : Nat) (acc : List UInt8) : Prop :=
  (pos ≤ l.length ∧ acc = idLow (l.take pos)) ∨ ((∃ b ∈ acc, 128 ≤ b.toNat) ∧ ∃ b ∈ l, 128 ≤ b.toNat)

theorem ownsRowF_later {w w' : World} {base e size : Nat} {v : Value} {n : Nat} {xs : List Value} (h : w.ownsRowF base e size v n xs) (hb : Below w.heap.size w w') : w'.ownsRowF base e size v n xs := by
  refine ⟨h.1, ?_⟩
  rcases h.2 with h' | ⟨g, cap, cur, fz, h1, h2, h3, h4⟩
  · exact .inl h'
  · exact .inr ⟨g, cap, cur, fz, h1, h2, by rw [hb.block g (Array.getElem?_eq_some_iff.1 h3).1]; exact h3, h4⟩

theorem builderAt_later {T e B b : Nat} {p : Value} {bs : List Value} {w w' : World} (h : BuilderAtF T e B b p bs w) (hb : Below w.heap.size w w') : BuilderAtF T e B b p bs w' := by
  obtain ⟨h1, v, h2, h3, h4⟩ := h
  exact ⟨h1, v, by rw [hb.block b (Array.getElem?_eq_some_iff.1 h2).1]; exact h2, ownsRowF_later h3 hb, h4⟩

theorem builder_later {T e B b : Nat} {bs : List Value} {w w' : World} (h : IsBuilderF T e B b bs w) (hb : Below w.heap.size w w') : IsBuilderF T e B b bs w' :=
  h.elim (fun x => .inl (builderAt_later x hb)) (fun x => .inr (builderAt_later x hb))

theorem is_eq (l : List UInt8) (hl : l.length ≤ 4294967296) {r : Bool} (h : Hid (idIs l = r)) (w : World) :
    Calls Try.prog 45 #[.string ⟨l.toArray⟩] w fun e w' => e = .returned (.bool r) ∧ Below w.heap.size w w' := by
  have := is_any l hl w
  rwa [h.out] at this

end Go.Proofs.Ytekkofldhhdpgaa

end

section

/-
  THE CONTRACTS OF ident.Put AND ident.Take.
-/
namespace Go.Proofs.Ytekkofldhhdpgaa
open Go.RowKit

theorem vtake_short {l : List UInt8} {p m : Int} {t : List UInt8} {f er : Nat} (h : vtake l p m = (t, f, er)) : t.length ≤ l.length := by
  unfold vtake at h
  generalize vget l p = g at h
  obtain ⟨n, g, e⟩ := g
  dsimp only at h
  repeat' split at h
  all_goals
    simp only [Prod.mk.injEq] at h
    obtain ⟨rfl, _, _⟩ := h
    simp
  try omega

set_option maxHeartbeats 400000 in
set_option maxRecDepth 100000 in
theorem idput_eq (l : List UInt8) (hl : l.length ≤ 4294967296) {t : List UInt8} {r : Bool} (h : Hid (idPut l = (t, r))) (w : World) :
    Calls Try.prog 50 #[.string ⟨l.toArray⟩] w fun e w' => e = .returned (.tuple #[.string ⟨t.toArray⟩, .bool r]) ∧ Below w.heap.size w w' := by
  have e := h.out
  unfold idPut at e
  clear h
  cases hi : idIs l with
  | false =>
    rw [hi] at e
    simp only [Bool.false_eq_true, if_false, Prod.mk.injEq] at e
    obtain ⟨rfl, rfl⟩ := e
    have HI := Lib.hid hi
    clear hi
    go_enter Try.func50, Try.ntmps50
    go_wp2_with fail
    refine (is_eq l hl HI _).mono ?_
    rintro e w1 ⟨rfl, hb1⟩
    go_wp2_with fail
    go_ret2
    exact ⟨rfl, hb1⟩
  | true =>
    rw [hi] at e
    simp only [if_true, Prod.mk.injEq] at e
    obtain ⟨rfl, rfl⟩ := e
    have HI := Lib.hid hi
    clear hi
    go_enter Try.func50, Try.ntmps50
    go_wp2_with fail
    refine (is_eq l hl HI _).mono ?_
    rintro e w1 ⟨rfl, hb1⟩
    go_wp2_with fail
    refine (text_any l hl _).mono ?_
    rintro e w2 ⟨rfl, hb2⟩
    go_wp2_with fail
    go_ret2
    exact ⟨rfl, below2' hb1 hb2⟩

theorem take_eq16 (l : List UInt8) (hl : l.length ≤ 4294967296) (p : Int) (w : World) {t : List UInt8} {f er : Nat} (h : Hid (vtake l p 16 = (t, f, er))) :
    Calls Try.prog 93 #[.string ⟨l.toArray⟩, .int .i64 p, .int .i64 16] w fun e w' => e = .returned (.tuple #[.string ⟨t.toArray⟩, .int .i64 f, .int .i64 er]) ∧ w = w' := take_eq l hl p 16 (by decide) w h

set_option maxHeartbeats 400000 in
set_option maxRecDepth 100000 in
theorem idtake_eq (l : List UInt8) (hl : l.length ≤ 4294967296) (p : Int) {t : List UInt8} {f er : Nat} (h : Hid (idTake l p = (t, f, er))) (w : World) :
    Calls Try.prog 83 #[.string ⟨l.toArray⟩, .int .i64 p] w fun e w' => e = .returned (.tuple #[.string ⟨t.toArray⟩, .int .i64 f, .int .i64 er]) ∧ Below w.heap.size w w' := by
  obtain ⟨u, g, ue, hu⟩ : ∃ u g ue, vtake l p 16 = (u, g, ue) := ⟨_, _, _, rfl⟩
  have e := h.out
  unfold idTake at e
  rw [hu] at e
  dsimp only at e
  have hs := vtake_short hu
  have HU := Lib.hid hu
  clear h hu
  by_cases he : ue = 0
  · subst he
    rw [if_neg (by simp)] at e
    cases hi : idIs u with
    | false =>
      rw [hi] at e
      simp only [Bool.false_eq_true, if_false, Prod.mk.injEq] at e
      obtain ⟨rfl, rfl, rfl⟩ := e
      have HI := Lib.hid hi
      clear hi
      go_enter Try.func83, Try.ntmps83
      go_wp2_with fail
      refine (take_eq16 l hl p _ HU).mono ?_
      rintro e w1 ⟨rfl, rfl⟩
      go_wp2_with fail
      refine (is_eq u (by omega) HI _).mono ?_
      rintro e w1 ⟨rfl, hb1⟩
      go_wp2_with fail
      go_ret3
      exact ⟨rfl, hb1⟩
    | true =>
      rw [hi] at e
      simp only [if_true, Prod.mk.injEq] at e
      obtain ⟨rfl, rfl, rfl⟩ := e
      have HI := Lib.hid hi
      clear hi
      go_enter Try.func83, Try.ntmps83
      go_wp2_with fail
      refine (take_eq16 l hl p _ HU).mono ?_
      rintro e w1 ⟨rfl, rfl⟩
      go_wp2_with fail
      refine (is_eq u (by omega) HI _).mono ?_
      rintro e w1 ⟨rfl, hb1⟩
      go_wp2_with fail
      go_ret3
      exact ⟨rfl, hb1⟩
  · rw [if_pos he] at e
    simp only [Prod.mk.injEq] at e
    obtain ⟨rfl, rfl, rfl⟩ := e
    have t1 : ((ue : Int) != 0) = true := by simp; omega
    clear he
    go_enter Try.func83, Try.ntmps83
    go_wp2_with fail
    refine (take_eq16 l hl p _ HU).mono ?_
    rintro e w1 ⟨rfl, rfl⟩
    go_wp2_with fail
    go_ret3
    exact ⟨rfl, Below.refl _ _⟩

end Go.Proofs.Ytekkofldhhdpgaa

end

section

/-
  A TEXT TURNED INTO A NEW ROW OF BYTES: what is known of the world behind it. Over any program.
-/
namespace Go.Proofs.Ytekkofldhhdpgaa
open Go.RowKit

theorem bytesWorld_below (w : World) (e : TypeId) (s : ByteArray) : Below w.heap.size w (Lib.bytesWorld w e s) :=
  ⟨by simp [Lib.bytesWorld, World.freeze, World.alloc, World.drew, -World.alloc_eq, -World.drew_eq], by simp [Lib.bytesWorld, World.freeze, World.alloc, World.drew, -World.alloc_eq, -World.drew_eq],
    by simp [Lib.bytesWorld, World.freeze, World.alloc, World.drew, -World.alloc_eq, -World.drew_eq], by rw [Lib.bytesWorld_size]; omega, fun k hk => Lib.bytesWorld_at_old w e s k hk⟩

theorem bytesWorld_frozen (w : World) (e : TypeId) (s : ByteArray) (j : Nat) (hj : j < s.size) : (Lib.bytesWorld w e s).frozen? ⟨w.heap.size, j, none⟩ = false := by
  have h : s.size ≤ (Lib.bytesCells w e s).size := by
    unfold Lib.bytesCells
    rw [Array.size_append, Array.size_map]
    exact Nat.le_add_right _ _
  simp only [World.frozen?, Lib.bytesWorld_at_new]
  simp only [Bool.and_eq_false_iff, decide_eq_false_iff_not]
  exact .inl (by omega)

/-- The row that it made, as the list of the text's bytes. -/
theorem bytesWorld_list (w : World) (e : TypeId) (l : List UInt8) (j : Nat) (hj : j < l.length) : (Lib.bytesWorld w e ⟨l.toArray⟩).cell? ⟨w.heap.size, j, none⟩ = some (.int .u8 (l.getD j 0).toNat) := by
  have := Lib.bytesWorld_cell w e ⟨l.toArray⟩ j (by rw [size_bytes]; exact hj)
  simpa using this

end Go.Proofs.Ytekkofldhhdpgaa

end

section

/-
  THE CONTRACTS OF THE DOCUMENT'S ANSWERS Is, Fold, Put, Take OF LAYER 3.
-/
namespace Go.Proofs.Ytekkofldhhdpgaa
open Go.RowKit

set_option maxHeartbeats 800000 in
set_option maxRecDepth 100000 in
theorem ris_any (l : List UInt8) (hl : l.length ≤ 4294967296) (w : World) :
    Calls Try.prog 28 #[.string ⟨l.toArray⟩] w fun e w' => e = .returned (.bool (idIs l)) ∧ w = w' := by
  by_cases h0 : l.length < 1
  · obtain rfl : l = [] := List.length_eq_zero_iff.1 (by omega)
    clear h0
    go_enter Try.func28, Try.ntmps28
    go_wp2_with fail
    go_ret
    exact ⟨rfl, rfl⟩
  · have hpos : 1 ≤ l.length := by omega
    clear h0
    by_cases h16 : 16 < l.length
    · have HR := Lib.hid (idIs_long h16)
      go_enter Try.func28, Try.ntmps28
      go_wp2_with fail
      go_ret
      exact ⟨by rw [HR.out]; rfl, rfl⟩
    · have hq : 0 < (⟨l.toArray⟩ : ByteArray).size := by rw [size_bytes]; omega
      obtain ⟨x, hx⟩ : ∃ x : UInt8, (⟨l.toArray⟩ : ByteArray)[0]'hq = x := ⟨_, rfl⟩
      have hx256 := x.toNat_lt
      have HX : Hid (l[0]? = some x) := by show _ = _; rw [← hx]; exact bytes_at l 0 hq
      by_cases hlow : x.toNat < 97
      · have HR : Hid (idIs l = false) := idIs_first HX.out (by unfold lcOk; simp; omega)
        go_enter Try.func28, Try.ntmps28
        go_wp2_with fail
        go_ret
        exact ⟨by rw [HR.out]; rfl, rfl⟩
      · by_cases hhi : 122 < x.toNat
        · have HR : Hid (idIs l = false) := idIs_first HX.out (by unfold lcOk; simp; omega)
          go_enter Try.func28, Try.ntmps28
          go_wp2_with fail
          go_ret
          exact ⟨by rw [HR.out]; rfl, rfl⟩
        · have HF : Hid (lcOk (l.getD 0 0) = true) := by show _ = _; rw [List.getD, HX.out]; unfold lcOk; simp; omega
          go_enter Try.func28, Try.ntmps28
          go_wp2_with fail
          clear hx
          go_loop [3] (fun i => ∃ k : Nat, k ≤ l.length ∧ i = .int .i64 k ∧ Hid ((l.take k).all inOk = true)) (fun i => l.length - (intOf i).toNat)
          case atStart => exact ⟨0, by omega, rfl, by show _ = _; simp⟩
          case round =>
            obtain ⟨k, hk, rfl, HA⟩ := hrel
            by_cases hlt : k < l.length
            · have hlt' : k < (⟨l.toArray⟩ : ByteArray).size := by rw [size_bytes]; exact hlt
              obtain ⟨b, hb⟩ : ∃ b : UInt8, (⟨l.toArray⟩ : ByteArray)[k]'hlt' = b := ⟨_, rfl⟩
              have HB : Hid (l[k]? = some b) := by show _ = _; rw [← hb]; exact bytes_at l k hlt'
              have hb256 := b.toNat_lt
              have hcase : (97 ≤ b.toNat ∧ b.toNat ≤ 122) ∨ (48 ≤ b.toNat ∧ b.toNat ≤ 57) ∨ b.toNat = 45 ∨ (b.toNat < 48 ∧ ¬ b.toNat = 45) ∨ (57 < b.toNat ∧ b.toNat < 97) ∨ 122 < b.toNat := by omega
              have HC := Lib.hid hcase
              clear hcase hpos h16 hlow hhi
              rcases HC.out with ⟨h1, h2⟩ | ⟨h1, h2⟩ | h1 | ⟨h1, h2⟩ | ⟨h1, h2⟩ | h1
              · have HN : Hid ((l.take (k + 1)).all inOk = true) := by show _ = _; rw [all_succ HB.out, HA.out]; simp [inOk, lcOk, dgOk]; omega
                go_wp2_with fail
                go_round
                case rel => exact ⟨k + 1, by omega, by go_num, HN⟩
                case measure => simp [intOf]; omega
              · have HN : Hid ((l.take (k + 1)).all inOk = true) := by show _ = _; rw [all_succ HB.out, HA.out]; simp [inOk, lcOk, dgOk]; omega
                go_wp2_with fail
                go_round
                case rel => exact ⟨k + 1, by omega, by go_num, HN⟩
                case measure => simp [intOf]; omega
              · have HN : Hid ((l.take (k + 1)).all inOk = true) := by show _ = _; rw [all_succ HB.out, HA.out]; simp [inOk, lcOk, dgOk]; omega
                have t5 : ((b.toNat : Int) != 45) = false := by rw [h1]; rfl
                go_wp2_with fail
                go_round
                case rel => exact ⟨k + 1, by omega, by go_num, HN⟩
                case measure => simp [intOf]; omega
              all_goals
                have HR : Hid (idIs l = false) := idIs_bad HB.out (by simp [inOk, lcOk, dgOk]; omega)
                have t5 : ((b.toNat : Int) != 45) = true := by simp; omega
                go_wp2_with fail
                go_ret
                exact ⟨by rw [HR.out]; rfl, rfl⟩
            · obtain rfl : k = l.length := by omega
              have HR : Hid (idIs l = true) := idIs_mk hpos (by omega) HF.out (by have := HA.out; rwa [List.take_length] at this)
              go_wp2_with fail
              go_ret
              exact ⟨by rw [HR.out]; rfl, rfl⟩

theorem ris_eq (l : List UInt8) (hl : l.length ≤ 4294967296) {r : Bool} (h : Hid (idIs l = r)) (w : World) :
    Calls Try.prog 28 #[.string ⟨l.toArray⟩] w fun e w' => e = .returned (.bool r) ∧ w = w' := by
  have := ris_any l hl w
  rwa [h.out] at this

/-- l, folded up to k. -/
def lowAt (l : List UInt8) (k : Nat) : List UInt8 := idLow (l.take k) ++ l.drop k

/-- A row of bytes in memory that may be written. -/
def RowB (w : World) (B : Nat) (u : List UInt8) : Prop := ∀ j, j < u.length → w.cell? ⟨B, j, none⟩ = some (.int .u8 (u.getD j 0).toNat) ∧ w.frozen? ⟨B, j, none⟩ = false

theorem RowB.drew {w : World} {B : Nat} {u : List UInt8} (h : RowB w B u) : RowB w.drew B u := h

theorem RowB.set {w : World} {B : Nat} {u : List UInt8} (h : RowB w B u) (j : Nat) (b : UInt8) (hj : j < u.length) : RowB (w.setCell ⟨B, j, none⟩ (.int .u8 b.toNat)) B (u.set j b) := by
  intro i hi
  have hi' : i < u.length := by simpa using hi
  refine ⟨?_, (World.frozen?_setCell w _ _ _).trans (h i hi').2⟩
  by_cases hij : i = j
  · subst hij
    rw [World.cell?_setCell_same _ _ _ (h i hj).1]
    simp [List.getD, hj]
  · rw [World.cell?_setCell_other _ _ _ _ (by simp), (h i hi').1]
    simp [List.getD, show ¬ j = i by omega]

theorem row_text {w : World} {B : Nat} {u : List UInt8} (h : RowB w B u) (cap : Nat) :
    (convert 54 9 (.slice (some ⟨B, 0, none⟩) u.length cap)).run Try.prog w = .ok (.string ⟨u.toArray⟩) w :=
  run_convert_bytes_back (P := Try.prog) w 54 9 5 ⟨B, 0, none⟩ cap u Try.underlying54 Try.underlying5 Try.underlying9 (fun j hj => by
    have := (h j hj).1
    rw [Addr.add_lit, Nat.zero_add, this]
    simp [List.getD, List.getElem?_eq_getElem hj])

end Go.Proofs.Ytekkofldhhdpgaa

end
