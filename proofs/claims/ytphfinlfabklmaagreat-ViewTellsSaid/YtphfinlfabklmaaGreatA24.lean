/-
  TEXTS OF THE PROOF, one behind the other: DigPure, ViewPure, SesOf, HeaLay, HeaSwap, HeaBest, HeaRise, HeaFind, HeaPut, HeaDrop, HeaAbs, HeaEq, HeaRef, BesRef, HeaRput.
-/
import Derived.Test.YtphfinlfabklmaaGreatA01
import Derived.Test.YtphfinlfabklmaaGreatA23
import Derived.Test.YtphfinlfabklmaaGreatA12
import Derived.Test.YtphfinlfabklmaaGreatA20
import Derived.Deep.AppendLies
import Derived.Laws.StructEq

section

/-
  PLAIN MATHEMATICS OF LAYER 5 (digest): tables, their bytes and their sum, changes that are set and told. No program in sight.
-/
namespace Go.Proofs.YtphfinlfabklmaaGreat

/-- A row of a table. -/
structure Row where
  c : List UInt8
  v : Val

def Row.zero : Row := ⟨[], Val.zero⟩

/-- A change. -/
structure Chg where
  c : List UInt8
  on : Bool
  v : Val

def vSame (x y : Val) : Bool := (x.sh == y.sh && (x.pr == y.pr && (x.si == y.si && x.st == y.st)))

theorem vSame_iff {x y : Val} : vSame x y = true ↔ x = y := by
  obtain ⟨a, b, c, s⟩ := x
  obtain ⟨a', b', c', s'⟩ := y
  simp [vSame]

theorem vSame_self (x : Val) : vSame x x = true := vSame_iff.2 rfl
def rSame (x y : Row) : Bool := (x.c == y.c) && vSame x.v y.v

theorem rSame_iff {x y : Row} : rSame x y = true ↔ x = y := by
  obtain ⟨a, b⟩ := x
  obtain ⟨a', b'⟩ := y
  simp [rSame, vSame_iff]

theorem rSame_self (x : Row) : rSame x x = true := rSame_iff.2 rfl
def cSame (x y : Chg) : Bool := (x.c == y.c) && ((x.on == y.on) && vSame x.v y.v)

theorem cSame_iff {x y : Chg} : cSame x y = true ↔ x = y := by
  obtain ⟨a, o, b⟩ := x
  obtain ⟨a', o', b'⟩ := y
  simp [cSame, vSame_iff]

theorem cSame_self (x : Chg) : cSame x x = true := cSame_iff.2 rfl

theorem row_at {t : List Row} {k : Nat} (h : k < t.length) : t[k]? = some (t.getD k Row.zero) := by simp [List.getD, List.getElem?_eq_getElem h]
theorem row_get {t : List Row} {k : Nat} (h : k < t.length) : t[k] = t.getD k Row.zero := by simp [List.getD, List.getElem?_eq_getElem h]

/-- Two tables, row by row. -/
def tSame (a b : List Row) : Bool := decide (a.length = b.length) && (List.range a.length).all fun i => rSame (a.getD i Row.zero) (b.getD i Row.zero)

theorem tSame_iff {a b : List Row} : tSame a b = true ↔ a = b := by
  constructor
  · intro h
    unfold tSame at h
    simp only [Bool.and_eq_true, decide_eq_true_eq] at h
    obtain ⟨h1, h2⟩ := h
    refine List.ext_getElem h1 fun i p q => ?_
    have := List.all_eq_true.1 h2 i (List.mem_range.2 p)
    rw [row_get p, row_get q]
    exact rSame_iff.1 this
  · intro h
    subst h
    unfold tSame
    simp [rSame_self]

theorem tSame_len {a b : List Row} (h : ¬ a.length = b.length) : tSame a b = false := by
  unfold tSame
  simp [h]

theorem tSame_off {a b : List Row} {k : Nat} (_hk : k < a.length) (h : rSame (a.getD k Row.zero) (b.getD k Row.zero) = false) : tSame a b = false := by
  rw [Bool.eq_false_iff]
  intro h'
  rw [tSame_iff] at h'
  subst h'
  rw [rSame_self] at h
  cases h

theorem tSame_on {a b : List Row} (hl : a.length = b.length) (h : (List.range a.length).all (fun i => rSame (a.getD i Row.zero) (b.getD i Row.zero)) = true) : tSame a b = true := by
  unfold tSame
  rw [h]
  simp [hl]

theorem range_all_succ {k : Nat} {f : Nat → Bool} (h : (List.range k).all f = true) (hk : f k = true) : (List.range (k + 1)).all f = true := by
  rw [List.range_succ, List.all_append, h]
  simp [hk]

theorem range_all_no {n k : Nat} {f : Nat → Bool} (hk : k < n) (h : f k = false) : (List.range n).all f = false := by
  rw [Bool.eq_false_iff]
  intro h'
  have := List.all_eq_true.1 h' k (List.mem_range.2 hk)
  rw [h] at this
  cases this

/-! ### What may be -/

def rowOk (r : Row) : Bool := idIs r.c && vaMay r.v

def rowAt (t : List Row) (j : Nat) : Bool := rowOk (t.getD j Row.zero) && (decide (j = 0) || idLess (t.getD (j - 1) Row.zero).c (t.getD j Row.zero).c)

def diMay (t : List Row) : Bool := decide (t.length ≤ 32) && (List.range t.length).all (rowAt t)

/-- Contacts rise. -/
def RRise (t : List Row) : Prop := t.Pairwise fun x y => idLess x.c y.c = true

theorem diMay_long {t : List Row} (h : 32 < t.length) : diMay t = false := by
  unfold diMay
  simp
  omega

theorem diMay_iff {t : List Row} : diMay t = true ↔ t.length ≤ 32 ∧ (∀ r ∈ t, rowOk r = true) ∧ RRise t := by
  unfold diMay
  simp only [Bool.and_eq_true, decide_eq_true_eq, List.all_eq_true, List.mem_range]
  constructor
  · rintro ⟨h1, h2⟩
    refine ⟨h1, ?_, ?_⟩
    · intro r hr
      obtain ⟨k, hk, rfl⟩ := List.getElem_of_mem hr
      have := h2 k hk
      unfold rowAt at this
      rw [← row_get hk] at this
      simp only [Bool.and_eq_true] at this
      exact this.1
    · have key : ∀ d i, i + d + 1 < t.length → idLess (t.getD i Row.zero).c (t.getD (i + d + 1) Row.zero).c = true := by
        intro d
        induction d with
        | zero =>
          intro i hi
          have := h2 (i + 1) (by omega)
          unfold rowAt at this
          simp only [Bool.and_eq_true] at this
          simpa using this.2
        | succ d ih =>
          intro i hi
          have a := ih i (by omega)
          have := h2 (i + d + 1 + 1) (by omega)
          unfold rowAt at this
          simp only [Bool.and_eq_true] at this
          have b : idLess (t.getD (i + d + 1) Row.zero).c (t.getD (i + d + 1 + 1) Row.zero).c = true := by simpa using this.2
          exact idLess_trans a b
      refine List.pairwise_iff_getElem.2 fun i j hi hj hij => ?_
      rw [row_get hi, row_get hj]
      have := key (j - i - 1) i (by omega)
      rwa [show i + (j - i - 1) + 1 = j by omega] at this
  · rintro ⟨h1, h2, h3⟩
    refine ⟨h1, fun k hk => ?_⟩
    unfold rowAt
    rw [← row_get hk, h2 _ (List.getElem_mem hk)]
    simp only [Bool.true_and, Bool.or_eq_true, decide_eq_true_eq]
    by_cases h0 : k = 0
    · exact .inl h0
    · right
      have := List.pairwise_iff_getElem.1 h3 (k - 1) k (by omega) hk (by omega)
      rwa [row_get (show k - 1 < t.length by omega)] at this

/-! ### Bytes -/

def rowBytes (r : Row) : List UInt8 := (vput r.c.length ++ r.c) ++ vaBytes r.v
def rowsBytes (t : List Row) : List UInt8 := (t.map rowBytes).flatten
def diBytes (t : List Row) : List UInt8 := vput t.length ++ rowsBytes t
def diPut (t : List Row) : List UInt8 × Bool := if diMay t = true then (diBytes t, true) else ([], false)

/-- The row at a place of bytes: row, place behind it, error. -/
def diTakeRow (l : List UInt8) (p : Nat) : Row × Nat × Nat :=
  if (idTake l p).2.2 ≠ 0 then (Row.zero, 0, (idTake l p).2.2)
  else if (vaTake l (idTake l p).2.1).2.2 ≠ 0 then (Row.zero, 0, (vaTake l (idTake l p).2.1).2.2)
  else (⟨(idTake l p).1, (vaTake l (idTake l p).2.1).1⟩, (vaTake l (idTake l p).2.1).2.1, 0)

/-- n rows. -/
def diRows : Nat → List UInt8 → Nat → List Row × Nat × Nat
  | 0, _, p => ([], p, 0)
  | n + 1, l, p =>
    if (diTakeRow l p).2.2 ≠ 0 then ([], 0, (diTakeRow l p).2.2)
    else if (diRows n l (diTakeRow l p).2.1).2.2 ≠ 0 then ([], 0, (diRows n l (diTakeRow l p).2.1).2.2)
    else ((diTakeRow l p).1 :: (diRows n l (diTakeRow l p).2.1).1, (diRows n l (diTakeRow l p).2.1).2.1, 0)

/-- The table. -/
def diTake (l : List UInt8) (p : Int) : List Row × Nat × Nat :=
  if (vget l p).2.2 ≠ 0 then ([], 0, (vget l p).2.2)
  else if 32 < (vget l p).1 then ([], 0, 3)
  else if (diRows (vget l p).1 l (vget l p).2.1).2.2 ≠ 0 then ([], 0, (diRows (vget l p).1 l (vget l p).2.1).2.2)
  else if diMay (diRows (vget l p).1 l (vget l p).2.1).1 = false then ([], 0, 3)
  else ((diRows (vget l p).1 l (vget l p).2.1).1, (diRows (vget l p).1 l (vget l p).2.1).2.1, 0)

/-- What was taken so far, and what is still to be taken. -/
def diComb (acc : List Row) (r : List Row × Nat × Nat) : List Row × Nat × Nat := if r.2.2 ≠ 0 then ([], 0, r.2.2) else (acc ++ r.1, r.2.1, 0)

/-! ### The sum -/

def fnvM : Nat := 18446744073709551616
def fnvP : Nat := 1099511628211
def fnvB : Nat := 14695981039346656037
def fnv1 (h : Nat) (b : UInt8) : Nat := ((h ^^^ b.toNat) * fnvP) % fnvM
def fnv (l : List UInt8) : Nat := l.foldl fnv1 fnvB
def diSum (t : List Row) : Nat := fnv (diPut t).1

/-! ### Get and Set -/

def diGet : List Row → List UInt8 → Val × Bool
  | [], _ => (Val.zero, false)
  | r :: t, x => if r.c = x then (r.v, true) else diGet t x

def gSame (p q : Val × Bool) : Bool := vSame p.1 q.1 && (p.2 == q.2)

theorem gSame_iff {p q : Val × Bool} : gSame p q = true ↔ p = q := by
  obtain ⟨a, b⟩ := p
  obtain ⟨a', b'⟩ := q
  simp [gSame, vSame_iff]

def diRest (t : List Row) (x : List UInt8) : List Row := t.filter fun r => !(r.c == x)

def plc (t : List Row) (x : List UInt8) : Nat → Nat
  | 0 => 0
  | k + 1 => if idLess (t.getD k Row.zero).c x = true then k + 1 else plc t x k

def diPlace (t : List Row) (x : List UInt8) : Nat := plc t x t.length

def diIns (t : List Row) (r : Row) : List Row := t.take (diPlace t r.c) ++ ([r] ++ t.drop (diPlace t r.c))

def diSet (t : List Row) (c : Chg) : List Row := if c.on = true then diIns (diRest t c.c) ⟨c.c, c.v⟩ else diRest t c.c

/-- What a change makes of its own contact. -/
def chGet (c : Chg) : Val × Bool := if c.on = true then (c.v, true) else (Val.zero, false)

theorem diGet_hit {r : Row} {x : List UInt8} (h : r.c = x) (t : List Row) : diGet (r :: t) x = (r.v, true) := by unfold diGet; rw [if_pos h]
theorem diGet_miss {r : Row} {x : List UInt8} (h : ¬ r.c = x) (t : List Row) : diGet (r :: t) x = diGet t x := by conv => lhs; unfold diGet
                                                                                                                  rw [if_neg h]

theorem diGet_append : ∀ (a b : List Row) (x : List UInt8), diGet (a ++ b) x = if (diGet a x).2 = true then diGet a x else diGet b x
  | [], b, x => by simp [diGet]
  | r :: a, b, x => by
    rw [List.cons_append]
    by_cases h : r.c = x
    · rw [diGet_hit h, diGet_hit h]; simp
    · rw [diGet_miss h, diGet_miss h]
      exact diGet_append a b x

theorem diGet_some {t : List Row} {x : List UInt8} : ∀ {v : Val}, diGet t x = (v, true) → ⟨x, v⟩ ∈ t := by
  induction t with
  | nil => intro v h; simp [diGet] at h
  | cons r t ih =>
    intro v h
    unfold diGet at h
    by_cases hr : r.c = x
    · rw [if_pos hr] at h
      simp only [Prod.mk.injEq, and_true] at h
      subst hr h
      simp
    · rw [if_neg hr] at h
      exact List.mem_cons_of_mem _ (ih h)

theorem diGet_zero (t : List Row) (x : List UInt8) : (diGet t x).2 = true ∨ diGet t x = (Val.zero, false) := by
  induction t with
  | nil => exact .inr rfl
  | cons r t ih =>
    unfold diGet
    by_cases h : r.c = x
    · rw [if_pos h]; exact .inl rfl
    · rw [if_neg h]; exact ih

theorem diGet_has (t : List Row) (x : List UInt8) : (diGet t x).2 = true ↔ x ∈ t.map (·.c) := by
  induction t with
  | nil => simp [diGet]
  | cons r t ih =>
    unfold diGet
    by_cases h : r.c = x
    · rw [if_pos h]; simp [h]
    · rw [if_neg h, ih]
      simp only [List.map_cons, List.mem_cons]
      constructor
      · exact .inr
      · rintro (e | e)
        · exact absurd e.symm h
        · exact e

/-! ### Rising tables -/

/-! ### Changes -/

def cts (t : List Row) : List (List UInt8) := t.map (·.c)

def chg (a b : List Row) (x : List UInt8) : Option Chg := if gSame (diGet a x) (diGet b x) = true then none else some ⟨x, (diGet b x).2, (diGet b x).1⟩

def diChanges (a b : List Row) : List Chg := (mrg (cts a ++ cts b)).filterMap (chg a b)

/-- Changes, set one behind the other. -/
def setAll (t : List Row) (l : List Chg) : List Row := l.foldl diSet t

end Go.Proofs.YtphfinlfabklmaaGreat

end

section

/-
  LAYER 15, PLAIN: what a watcher is to see.
-/
namespace Go.Proofs.YtphfinlfabklmaaGreat

/-- P15.1, of a state that may be. -/
def vwVal (t : Sta) (w c : List UInt8) : Val × Bool := if roSees t.e w c = true ∧ seOf t.s c ≠ [] then (besV (seOf t.s c), true) else (Val.zero, false)
def vwValue (t : Sta) (w c : List UInt8) : Val × Bool := if stMay t = true then vwVal t w c else (Val.zero, false)

/-- A row of one who is seen. -/
def vwRow (t : Sta) (w c : List UInt8) : Option Row := if (vwVal t w c).2 = true then some ⟨c, (vwVal t w c).1⟩ else none
def vwOf (t : Sta) (w : List UInt8) : List Row := if stMay t = true then (roOf t.e w).filterMap (vwRow t w) else []
def vwWat (t : Sta) (c : List UInt8) : List (List UInt8) := if stMay t = true ∧ seOf t.s c ≠ [] then roWat t.e c else []

theorem vwVal_is {t : Sta} {w c : List UInt8} : (vwVal t w c).2 = true ↔ roSees t.e w c = true ∧ seOf t.s c ≠ [] := by
  unfold vwVal
  by_cases h : roSees t.e w c = true ∧ seOf t.s c ≠ []
  · rw [if_pos h]
    exact ⟨fun _ => h, fun _ => rfl⟩
  · rw [if_neg h]
    exact ⟨fun e => (by cases e), fun e => absurd e h⟩

theorem vwRow_eq {t : Sta} {w c : List UInt8} {r : Row} : vwRow t w c = some r ↔ r.c = c ∧ vwVal t w c = (r.v, true) := by
  unfold vwRow
  obtain ⟨⟨v, b⟩, h⟩ : ∃ p, vwVal t w c = p := ⟨_, rfl⟩
  rw [h]
  obtain ⟨rc, rv⟩ := r
  cases b with
  | false =>
    rw [if_neg (by simp)]
    constructor
    · intro h; cases h
    · rintro ⟨_, h⟩; cases h
  | true =>
    rw [if_pos rfl]
    constructor
    · intro h
      injection h with h
      injection h with h1 h2
      exact ⟨h1.symm, by have h2 : v = rv := h2; rw [h2]⟩
    · rintro ⟨h1, h2⟩
      simp only at h1 h2
      injection h2 with h2 _
      rw [h1, h2]

/-- Who is seen is on the watcher's list. -/
theorem sees_of {l : List Ent} {w c : List UInt8} (h : roSees l w c = true) : c ∈ roOf l w := by
  rw [roOf_mem]
  refine Classical.byContradiction fun hn => ?_
  have : roIt l w c = It.zero := roIt_none fun e he h' => hn ⟨e, he, h'⟩
  unfold roSees suSees at h
  rw [roGet_it, this] at h
  simp [It.zero] at h

theorem vwOf_mem {t : Sta} (hm : stMay t = true) {w : List UInt8} {r : Row} : r ∈ vwOf t w ↔ vwVal t w r.c = (r.v, true) := by
  unfold vwOf
  rw [if_pos hm, List.mem_filterMap]
  constructor
  · rintro ⟨c, _, h⟩
    obtain ⟨rfl, h⟩ := vwRow_eq.1 h
    exact h
  · intro h
    refine ⟨r.c, ?_, vwRow_eq.2 ⟨rfl, h⟩⟩
    exact sees_of (vwVal_is.1 (by rw [h])).1

theorem stMay_parts {t : Sta} (h : stMay t = true) : RoM t.e ∧ seMay t.s = true := by
  unfold stMay at h
  rw [Bool.and_eq_true] at h
  exact ⟨roMay_iff.1 h.1, h.2⟩

theorem vwOf_rise {t : Sta} (hm : stMay t = true) (w : List UInt8) : RRise (vwOf t w) := by
  unfold vwOf RRise
  rw [if_pos hm, List.pairwise_filterMap]
  refine (roOf_rise (stMay_parts hm).1.1 w).imp ?_
  intro a b hab x hx y hy
  rw [(vwRow_eq.1 hx).1, (vwRow_eq.1 hy).1]
  exact hab

theorem vwOf_len {t : Sta} (hm : stMay t = true) (w : List UInt8) : (vwOf t w).length ≤ 16 := by
  unfold vwOf
  rw [if_pos hm]
  refine Nat.le_trans (List.length_filterMap_le _ _) ?_
  by_cases h : ∃ e ∈ t.e, e.o = w
  · obtain ⟨e, he, rfl⟩ := h
    exact ((stMay_parts hm).1.2 e he).2.2.2.1
  · have : roOf t.e w = [] := List.eq_nil_iff_forall_not_mem.2 fun c hc => by
      obtain ⟨e, he, ho, _⟩ := roOf_mem.1 hc
      exact h ⟨e, he, ho⟩
    rw [this]
    exact Nat.zero_le _

/-- Among the watchers just if seen. -/
theorem vwWat_mem {t : Sta} (hm : stMay t = true) {w c : List UInt8} : w ∈ vwWat t c ↔ (vwVal t w c).2 = true := by
  rw [vwVal_is]
  unfold vwWat
  by_cases h : seOf t.s c = []
  · rw [if_neg (fun e => e.2 h)]
    exact ⟨fun e => (by cases e), fun e => absurd h e.2⟩
  · rw [if_pos ⟨hm, h⟩, roWat_mem (stMay_parts hm).1.1]
    exact ⟨fun e => ⟨e, h⟩, fun e => e.1⟩

theorem sat_memV {l : List Ses} {j : Nat} (h : j < l.length) : sat l j ∈ l := by
  unfold sat
  rw [List.getD_eq_getElem?_getD, List.getElem?_eq_getElem h]
  exact List.getElem_mem h

/-- The value that comes of sessions that may be may be. -/
theorem besV_may {l : List Ses} (h0 : 0 < l.length) (h : ∀ s ∈ l, vaMay s.v = true) : vaMay (besV l) = true := by
  obtain ⟨j, hj, e, -⟩ := besOf_spec h0
  have hv := h _ (sat_memV hj)
  rw [← e] at hv
  unfold vaMay numsOk at hv ⊢
  rw [Bool.and_eq_true, decide_eq_true_eq] at hv ⊢
  obtain ⟨⟨a1, a2, a3⟩, a4⟩ := hv
  refine ⟨⟨?_, ?_, a3⟩, a4⟩
  · exact Int.le_trans a1 (shTo_spec l (besOf l).v.sh l.length).1
  · show shTo l (besOf l).v.sh l.length ≤ 4
    rcases (shTo_spec l (besOf l).v.sh l.length).2.2 with e | ⟨i, hi, e⟩
    · rw [e]; exact a2
    · rw [e]
      have hv := h _ (sat_memV hi)
      unfold vaMay numsOk at hv
      rw [Bool.and_eq_true, decide_eq_true_eq] at hv
      exact hv.1.2.1

theorem roOf_id {t : Sta} (hm : stMay t = true) {w c : List UInt8} (h : c ∈ roOf t.e w) : idIs c = true := by
  obtain ⟨e, he, _, rfl⟩ := roOf_mem.1 h
  exact ((stMay_parts hm).1.2 e he).2.1

/-- P15.4: a view may be a table. -/
theorem vwOf_may {t : Sta} (hm : stMay t = true) (w : List UInt8) : diMay (vwOf t w) = true := by
  rw [diMay_iff]
  refine ⟨Nat.le_trans (vwOf_len hm w) (by decide), fun r hr => ?_, vwOf_rise hm w⟩
  have hv := (vwOf_mem hm).1 hr
  have his := vwVal_is.1 (by rw [hv] : (vwVal t w r.c).2 = true)
  have e : besV (seOf t.s r.c) = r.v := by
    unfold vwVal at hv
    rw [if_pos his] at hv
    exact (Prod.mk.inj hv).1
  unfold rowOk
  rw [Bool.and_eq_true]
  refine ⟨roOf_id hm (sees_of his.1), ?_⟩
  rw [← e]
  refine besV_may (List.length_pos_iff.2 his.2) fun s hs => ?_
  have hs' : s ∈ t.s := (List.mem_filter.1 hs).1
  have h1 := (seMay_rise (stMay_parts hm).2).2.2 s hs'
  unfold seOne at h1
  simp only [Bool.and_eq_true] at h1
  exact h1.2.2.2

theorem diGet_none' : ∀ {t : List Row} {x : List UInt8} {v : Val}, (diGet t x).2 = false → ⟨x, v⟩ ∈ t → False := by
  intro t x v h hm
  have := (diGet_has t x).2 (List.mem_map.2 ⟨_, hm, rfl⟩)
  rw [h] at this
  cases this

/-- The view's row of c is the value at which c is seen. -/
theorem vwOf_get {t : Sta} (hm : stMay t = true) (w c : List UInt8) : diGet (vwOf t w) c = vwVal t w c := by
  obtain ⟨⟨v, b⟩, h⟩ : ∃ p, diGet (vwOf t w) c = p := ⟨_, rfl⟩
  cases b with
  | true => rw [h]; exact ((vwOf_mem hm).1 (diGet_some h)).symm
  | false =>
    have h0 : diGet (vwOf t w) c = (Val.zero, false) := (diGet_zero _ _).resolve_left (by rw [h]; simp)
    rw [h0]
    obtain ⟨⟨v', b'⟩, h'⟩ : ∃ p, vwVal t w c = p := ⟨_, rfl⟩
    cases b' with
    | true =>
      have := diGet_none' (t := vwOf t w) (x := c) (v := v') (by rw [h]) ((vwOf_mem hm (r := ⟨c, v'⟩)).2 h')
      exact this.elim
    | false =>
      rw [h']
      have : ¬ (roSees t.e w c = true ∧ seOf t.s c ≠ []) := fun e => by have := vwVal_is.2 e; rw [h'] at this; cases this
      unfold vwVal at h'
      rw [if_neg this] at h'
      exact h'

def vwBetween (a b : Sta) (w : List UInt8) : List Chg := diChanges (vwOf a w) (vwOf b w)

end Go.Proofs.YtphfinlfabklmaaGreat

end

section

/-
  LAYER 9: the sessions of a User, the code's and the document's.
-/
namespace Go.Proofs.YtphfinlfabklmaaGreat
open Go.RowKit

theorem seOf_succ {l : List Ses} {k : Nat} (hk : k < l.length) (u : List UInt8) : seOf (l.take (k + 1)) u = if (l.getD k Ses.zero).u = u then seOf (l.take k) u ++ [l.getD k Ses.zero] else seOf (l.take k) u := by
  unfold seOf
  rw [List.take_succ_eq_append_getElem hk, sgetD hk, List.filter_append]
  by_cases h : l[k].u = u
  · rw [if_pos h, List.filter_cons, if_pos (by simp [h])]
    rfl
  · rw [if_neg h, List.filter_cons, if_neg (by simp [h])]
    simp

theorem seOf_le (l : List Ses) (u : List UInt8) : (seOf l u).length ≤ l.length := List.length_filter_le _ _

set_option maxHeartbeats 1600000 in
set_option maxRecDepth 100000 in
theorem sof_any {w : World} {v : Value} {l : List Ses} (hv : Sess w v l) (hl : l.length ≤ 1000) (u : List UInt8) :
    Calls Tryz.prog 117 #[v, .string ⟨u.toArray⟩] w fun e w' => ∃ x, e = .returned x ∧ OwnSes w' w.heap.size x (seOf l u) ∧ Below w.heap.size w w' := by
  have HV := Lib.hid hv
  obtain ⟨a, cap, rfl, _⟩ := hv.open'
  clear hv
  go_enter Tryz.func117, Tryz.ntmps117
  go_wp2_with fail
  go_loopw [5, 10] (fun s i wr => ∃ k : Nat, k ≤ l.length ∧ i = .int .i64 k ∧ Hid (OwnSes wr w.heap.size s (seOf (l.take k) u)) ∧ Hid (Below w.heap.size w wr)) (fun _ i _ => l.length - (intOf i).toNat)
  case atStart => exact ⟨0, by omega, rfl, ownS_nil _ _, Below.refl _ _⟩
  case round =>
    obtain ⟨k, hk, rfl, HO, HN⟩ := hrel
    by_cases hlt : k < l.length
    · obtain ⟨b, off, rfl, hc⟩ := HV.out.row HN.out k hlt
      have hX := seOf_succ hlt u
      obtain ⟨⟨eu, ei, ⟨ea, eb, ec, es⟩⟩, hr⟩ : ∃ r, l.getD k Ses.zero = r := ⟨_, rfl⟩
      rw [hr] at hc hX
      try simp only at hX
      obtain ⟨h0, h1, h2, h3, h4, h5⟩ := cells6 hc
      try simp only at h0 h1 h2 h3 h4 h5
      have O1 := Lib.hid (HO.out.alloc (.cells #[.string ⟨eu.toArray⟩, .int .i64 ei, .int .i64 ea, .int .i64 eb, .int .i64 ec, .string ⟨es.toArray⟩] 122))
      have N1 := Lib.hid (bl_allocZ HN.out (.cells #[.string ⟨eu.toArray⟩, .int .i64 ei, .int .i64 ea, .int .i64 eb, .int .i64 ec, .string ⟨es.toArray⟩] 122))
      clear hr hc
      by_cases ho : eu = u
      · rw [if_pos ho] at hX
        have HX := Lib.hid hX
        subst ho
        have O2 := Lib.hid (O1.out.alloc (.cells #[.string ⟨eu.toArray⟩, .int .i64 ei, .int .i64 ea, .int .i64 eb, .int .i64 ec, .string ⟨es.toArray⟩] 122))
        have N2 := Lib.hid (bl_allocZ N1.out (.cells #[.string ⟨eu.toArray⟩, .int .i64 ei, .int .i64 ea, .int .i64 eb, .int .i64 ec, .string ⟨es.toArray⟩] 122))
        have hz3 := N2.out.size
        have hcl : (seOf (l.take k) eu).length ≤ 1000 := by have := seOf_le (l.take k) eu; rw [List.length_take] at this; omega
        have C4 := Lib.hid (srcS_new (vals := sesVals) (w := wr.alloc (.cells #[.string ⟨eu.toArray⟩, .int .i64 ei, .int .i64 ea, .int .i64 eb, .int .i64 ec, .string ⟨es.toArray⟩] 122)) (r := ⟨eu, ei, ⟨ea, eb, ec, es⟩⟩) (cs := #[.string ⟨eu.toArray⟩, .int .i64 ei, .int .i64 ea, .int .i64 eb, .int .i64 ec, .string ⟨es.toArray⟩]) (e := 122) rfl (B := wr.heap.size + 1) (by simp))
        clear hX HO O1 N1
        go_wp2_with (at_builtin; refine wpList_append_S sesOK rfl _ _ rfl w.heap.size _ (seOf (l.take k) eu) rfl O2.out (some ⟨wr.heap.size + 1, 0, none⟩) 1 1 [⟨eu, ei, ⟨ea, eb, ec, es⟩⟩] rfl rfl (fun e => by cases e) C4.out (by simp only [List.length_cons, List.length_nil]; omega) hz3 ?_)
        intro v' w' hown' hb'
        rw [← HX.out] at hown'
        have O3 := Lib.hid hown'
        have N3 := Lib.hid (N2.out.trans hb')
        clear hown' hb' O2 C4 h0 h1 h2 h3 h4 h5
        go_wp2_with fail
        go_roundw
        case rel => exact ⟨k + 1, by omega, by go_num, O3, N3⟩
        case measure => simp [intOf]; omega
      · rw [if_neg ho] at hX
        have o3 := O1.out
        rw [← hX] at o3
        have O3 := Lib.hid o3
        clear o3
        have t1 : (eu == u) = false := by rw [beq_eq_false_iff_ne]; exact ho
        clear hX HO ho
        go_wp2_with fail
        go_roundw
        case rel => exact ⟨k + 1, by omega, by go_num, O3, N1⟩
        case measure => simp [intOf]; omega
    · obtain rfl : k = l.length := by omega
      have ht := HO.out
      rw [List.take_length] at ht
      have HT := Lib.hid ht
      clear ht
      go_wp2_with fail
      go_ret
      exact ⟨_, rfl, HT.out, HN.out⟩

set_option maxHeartbeats 1600000 in
set_option maxRecDepth 100000 in
theorem rsof_any {w : World} {v : Value} {l : List Ses} (hv : Sess w v l) (hl : l.length ≤ 1000) (u : List UInt8) :
    Calls Tryz.prog 71 #[v, .string ⟨u.toArray⟩] w fun e w' => ∃ x, e = .returned x ∧ OwnSes w' w.heap.size x (seOf l u) ∧ Below w.heap.size w w' := by
  have HV := Lib.hid hv
  obtain ⟨a, cap, rfl, _⟩ := hv.open'
  clear hv
  go_enter Tryz.func71, Tryz.ntmps71
  go_wp2_with fail
  go_loopw [5, 6] (fun s i wr => ∃ k : Nat, k ≤ l.length ∧ i = .int .i64 k ∧ Hid (OwnSes wr w.heap.size s (seOf (l.take k) u)) ∧ Hid (Below w.heap.size w wr)) (fun _ i _ => l.length - (intOf i).toNat)
  case atStart => exact ⟨0, by omega, rfl, ownS_nil _ _, Below.refl _ _⟩
  case round =>
    obtain ⟨k, hk, rfl, HO, HN⟩ := hrel
    by_cases hlt : k < l.length
    · obtain ⟨b, off, rfl, hc⟩ := HV.out.row HN.out k hlt
      have hX := seOf_succ hlt u
      obtain ⟨⟨eu, ei, ⟨ea, eb, ec, es⟩⟩, hr⟩ : ∃ r, l.getD k Ses.zero = r := ⟨_, rfl⟩
      rw [hr] at hc hX
      try simp only at hX
      obtain ⟨h0, h1, h2, h3, h4, h5⟩ := cells6 hc
      try simp only at h0 h1 h2 h3 h4 h5
      clear hr hc
      by_cases ho : eu = u
      · rw [if_pos ho] at hX
        have HX := Lib.hid hX
        subst ho
        have O2 := Lib.hid (HO.out.alloc (.cells #[.string ⟨eu.toArray⟩, .int .i64 ei, .int .i64 ea, .int .i64 eb, .int .i64 ec, .string ⟨es.toArray⟩] 122))
        have N2 := Lib.hid (bl_allocZ HN.out (.cells #[.string ⟨eu.toArray⟩, .int .i64 ei, .int .i64 ea, .int .i64 eb, .int .i64 ec, .string ⟨es.toArray⟩] 122))
        have hz3 := N2.out.size
        have hcl : (seOf (l.take k) eu).length ≤ 1000 := by have := seOf_le (l.take k) eu; rw [List.length_take] at this; omega
        have C4 := Lib.hid (srcS_new (vals := sesVals) (w := wr) (r := ⟨eu, ei, ⟨ea, eb, ec, es⟩⟩) (cs := #[.string ⟨eu.toArray⟩, .int .i64 ei, .int .i64 ea, .int .i64 eb, .int .i64 ec, .string ⟨es.toArray⟩]) (e := 122) rfl (B := wr.heap.size) rfl)
        clear hX HO
        go_wp2_with (at_builtin; refine wpList_append_S sesOK rfl _ _ rfl w.heap.size _ (seOf (l.take k) eu) rfl O2.out (some ⟨wr.heap.size, 0, none⟩) 1 1 [⟨eu, ei, ⟨ea, eb, ec, es⟩⟩] rfl rfl (fun e => by cases e) C4.out (by simp only [List.length_cons, List.length_nil]; omega) hz3 ?_)
        intro v' w' hown' hb'
        rw [← HX.out] at hown'
        have O3 := Lib.hid hown'
        have N3 := Lib.hid (N2.out.trans hb')
        clear hown' hb' O2 C4 h0 h1 h2 h3 h4 h5
        go_wp2_with fail
        go_roundw
        case rel => exact ⟨k + 1, by omega, by go_num, O3, N3⟩
        case measure => simp [intOf]; omega
      · rw [if_neg ho] at hX
        have o3 := HO.out
        rw [← hX] at o3
        have O3 := Lib.hid o3
        clear o3
        have t1 : (eu == u) = false := by rw [beq_eq_false_iff_ne]; exact ho
        clear hX HO ho
        go_wp2_with fail
        go_roundw
        case rel => exact ⟨k + 1, by omega, by go_num, O3, HN⟩
        case measure => simp [intOf]; omega
    · obtain rfl : k = l.length := by omega
      have ht := HO.out
      rw [List.take_length] at ht
      have HT := Lib.hid ht
      clear ht
      go_wp2_with fail
      go_ret
      exact ⟨_, rfl, HT.out, HN.out⟩

end Go.Proofs.YtphfinlfabklmaaGreat

end

section

/-
  LAYER 10, THE CODE: a slot laid at a place.
-/
namespace Go.Proofs.YtphfinlfabklmaaGreat
open Go.RowKit

end Go.Proofs.YtphfinlfabklmaaGreat

end

section

/-
  LAYER 10, THE CODE: two slots changed about; the best one among one and its children.
-/
namespace Go.Proofs.YtphfinlfabklmaaGreat
open Go.RowKit

/-- Ids that an int holds. -/
def Fits (l : List Sl) : Prop := ∀ s ∈ l, (Lit.int .i64 s.id).wf = true

theorem Fits.at0 {l : List Sl} (h : Fits l) {i : Nat} (hi : i < l.length) : (Lit.int .i64 (at0 l i).id).wf = true := by
  rw [at0_get hi]; exact h _ (List.getElem_mem hi)

/-- What a call of a heap turns. -/
structure Turn (w w' : World) (base B : Nat) (v : Value) (M : Nat) : Prop where
  beside : Beside w w' (Foot B M v)
  size : w.heap.size ≤ w'.heap.size
  below : Below base w w'

theorem Turn.trans {a b c : World} {base B : Nat} {v : Value} {M : Nat} (h : Turn a b base B v M) (k : Turn b c base B v M) : Turn a c base B v M :=
  ⟨h.beside.trans h.size k.beside, Nat.le_trans h.size k.size, h.below.trans k.below⟩

end Go.Proofs.YtphfinlfabklmaaGreat

end

section

/-
  LAYER 10, THE CODE: the best one among one and its children.
-/
namespace Go.Proofs.YtphfinlfabklmaaGreat
open Go.RowKit

/-- The best one of one and its children below c. -/
def BestTo (l : List Sl) (a c b : Nat) : Prop :=
  b < l.length ∧ (b = a ∨ (0 < b ∧ par b = a ∧ slBet (at0 l b) (at0 l a) = true)) ∧ ∀ x, 0 < x → x < c → x < l.length → par x = a → slBet (at0 l x) (at0 l b) = false

/-- .. of all of them. -/
def BestOf (l : List Sl) (a b : Nat) : Prop := b < l.length ∧ (b = a ∨ (0 < b ∧ par b = a ∧ slBet (at0 l b) (at0 l a) = true)) ∧ ∀ x, 0 < x → x < l.length → par x = a → slBet (at0 l x) (at0 l b) = false

end Go.Proofs.YtphfinlfabklmaaGreat

end

section

/-
  LAYER 10, THE CODE: a slot rises, sinks, settles.
-/
namespace Go.Proofs.YtphfinlfabklmaaGreat
open Go.RowKit

end Go.Proofs.YtphfinlfabklmaaGreat

end

section

/-
  LAYER 10, THE CODE: find, Len, Top, Get, Slots, New.
-/
namespace Go.Proofs.YtphfinlfabklmaaGreat
open Go.RowKit

/-- What find tells. -/
def findV (l : List Sl) (id : Int) : Value := .tuple #[.int .i64 ((spot l id).getD 0 : Nat), .bool (spot l id).isSome]

/-- Who is on top. -/
def topV (l : List Sl) : Value := .tuple #[.agg #[.int .i64 (at0 l 0).id, .int .i64 (at0 l 0).r0, .int .i64 (at0 l 0).r1, .int .i64 (at0 l 0).r2], .bool (decide (0 < l.length))]

/-! ### of a nil heap -/

end Go.Proofs.YtphfinlfabklmaaGreat

end

section

/-
  LAYER 10, THE CODE: Put.
-/
namespace Go.Proofs.YtphfinlfabklmaaGreat
open Go.RowKit

/-- A slot put: instead of the one of its id, or at the end. -/
def slPut (l : List Sl) (s : Sl) : List Sl :=
  match spot l s.id with
  | some p => l.set p s
  | none => l ++ [s]

/-- .. and the slots' slice may have gone to a new block. -/
structure TurnV (w w' : World) (base B : Nat) (v : Value) (M : Nat) (v' : Value) : Prop where
  turn : Turn w w' base B v M
  new : ∀ g n c, v' = .slice (some ⟨g, 0, none⟩) n c → (∃ n c, v = .slice (some ⟨g, 0, none⟩) n c) ∨ w.heap.size ≤ g

theorem TurnV.trans {a b c : World} {base B : Nat} {v v' v'' : Value} {M : Nat} (h : TurnV a b base B v M v') (k : TurnV b c base B v' M v'') : TurnV a c base B v M v'' := by
  refine ⟨⟨fun x hx hn => ?_, Nat.le_trans h.turn.size k.turn.size, h.turn.below.trans k.turn.below⟩, fun g n c hv => ?_⟩
  · refine (k.turn.beside x (Nat.lt_of_lt_of_le hx h.turn.size) ?_).trans (h.turn.beside x hx hn)
    rintro (e | e | ⟨n, c, e⟩)
    · exact hn (.inl e)
    · exact hn (.inr (.inl e))
    · rcases h.new x n c e with ⟨n', c', e'⟩ | hge
      · exact hn (.inr (.inr ⟨n', c', e'⟩))
      · omega
  · rcases k.new g n c hv with ⟨n', c', e'⟩ | hge
    · exact h.new g n' c' e'
    · exact .inr (Nat.le_trans h.turn.size hge)

/-- What is known behind an append of one element. -/
def OutG {α : Type} (vals : α → List Value) (sz : Nat) (T : TypeId) (w w' : World) (base : Nat) (v : Value) (t : List α) (m : α) (v' : Value) : Prop :=
  ∃ g cap, v' = .slice (some ⟨g, 0, none⟩) (t.length + 1) cap ∧ OwnS vals sz T w' base v' (t ++ [m]) ∧ w.grownBy w' v.ownBlock ∧ (v.ownBlock = some g ∨ g = w.heap.size) ∧ g < w'.heap.size

end Go.Proofs.YtphfinlfabklmaaGreat

end

section

/-
  LAYER 10, THE CODE: Drop; Slots.
-/
namespace Go.Proofs.YtphfinlfabklmaaGreat
open Go.RowKit Go.ChangeMaps Go.MapKept

/-- A list without its p-th slot, the last one in its place. -/
def slCut (l : List Sl) (p : Nat) : List Sl := (l.take (l.length - 1)).set p (at0 l (l.length - 1))

end Go.Proofs.YtphfinlfabklmaaGreat

end

section

/-
  LAYER 10, THE CODE: a heap by what was put into it, in whatever order it stands.
-/
namespace Go.Proofs.YtphfinlfabklmaaGreat
open Go.RowKit

/-- All but the one of an id. -/
def slDel (L : List Sl) (id : Int) : List Sl := L.filter fun s => decide (s.id ≠ id)

/-- Who is on top. -/
def IsTop (L : List Sl) (s : Sl) : Prop := s ∈ L ∧ ∀ x ∈ L, slBet x s = false

theorem TurnV.far {w w' : World} {base B : Nat} {v : Value} {M : Nat} {v' : Value} (ht : TurnV w w' base B v M v') {X : Nat} (hX : X < w.heap.size) (hf : ¬ Foot B M v X) : ¬ Foot B M v' X ∧ w'.heap[X]? = w.heap[X]? := by
  refine ⟨?_, ht.turn.beside X hX hf⟩
  rintro (e | e | ⟨n, c, e⟩)
  · exact hf (.inl e)
  · exact hf (.inr (.inl e))
  · rcases ht.new X n c e with h | h
    · exact hf (.inr (.inr h))
    · omega

end Go.Proofs.YtphfinlfabklmaaGreat

end

section

/-
  LAYER 10: when two ranks, two slots are the same.
-/
namespace Go.Proofs.YtphfinlfabklmaaGreat
open Go.RowKit

def rkSame (a b c a' b' c' : Int) : Bool := decide (a = a') && (decide (b = b') && decide (c = c'))

def slSame (a b : Sl) : Bool := decide (a.id = b.id) && rkSame a.r0 a.r1 a.r2 b.r0 b.r1 b.r2

end Go.Proofs.YtphfinlfabklmaaGreat

end

section

/-
  LAYER 10, THE DOCUMENT's: which slot is better; where an id stands; Get, Top.
-/
namespace Go.Proofs.YtphfinlfabklmaaGreat
open Go.RowKit

/-- The place of an id, or -1. -/
def placeI (L : List Sl) (id : Int) : Int := match spot L id with | some p => (p : Int) | none => -1

set_option maxHeartbeats 1600000 in
set_option maxRecDepth 100000 in
theorem rbetter_any (i a0 a1 a2 j b0 b1 b2 : Int) (w : World) :
    Calls Tryz.prog 212 #[.agg #[.int .i64 i, .int .i64 a0, .int .i64 a1, .int .i64 a2], .agg #[.int .i64 j, .int .i64 b0, .int .i64 b1, .int .i64 b2]] w fun e w' => e = .returned (.bool (slBet ⟨i, a0, a1, a2⟩ ⟨j, b0, b1, b2⟩)) ∧ Below w.heap.size w w' := by
  have HB0 := Lib.hid (show Below w.heap.size w ((w.alloc (.cells #[.int .i64 i, .int .i64 a0, .int .i64 a1, .int .i64 a2] 234)).alloc (.cells #[.int .i64 j, .int .i64 b0, .int .i64 b1, .int .i64 b2] 234)) from ((Below.refl _ _).alloc (Nat.le_refl _) _).alloc (by simp) _)
  have HXa := Lib.hid ((cellsAt_made (w := w) (cs := #[.int .i64 i, .int .i64 a0, .int .i64 a1, .int .i64 a2]) (vs := slVals ⟨i, a0, a1, a2⟩) rfl 234 rfl).later (bl_newZ _ (.cells #[.int .i64 j, .int .i64 b0, .int .i64 b1, .int .i64 b2] 234)))
  have HXb := Lib.hid (cellsAt_made (w := w.alloc (.cells #[.int .i64 i, .int .i64 a0, .int .i64 a1, .int .i64 a2] 234)) (cs := #[.int .i64 j, .int .i64 b0, .int .i64 b1, .int .i64 b2]) (vs := slVals ⟨j, b0, b1, b2⟩) rfl 234 (B := w.heap.size + 1) (by simp))
  go_enter Tryz.func212, Tryz.ntmps212
  go_wp2_with fail
  generalize (w.alloc (.cells #[.int .i64 i, .int .i64 a0, .int .i64 a1, .int .i64 a2] 234)).alloc (.cells #[.int .i64 j, .int .i64 b0, .int .i64 b1, .int .i64 b2] 234) = w1 at HB0 HXa HXb ⊢
  go_loopw [5] (fun t wr => ∃ k : Nat, k ≤ 3 ∧ t = .int .i64 k ∧ Hid (∀ x, x < k → rk ⟨i, a0, a1, a2⟩ x = rk ⟨j, b0, b1, b2⟩ x) ∧ Hid (Below w1.heap.size w1 wr)) (fun t _ => 3 - (intOf t).toNat)
  case atStart => exact ⟨0, by omega, rfl, by show ∀ _, _; intro x hx; omega, Below.refl _ _⟩
  case round =>
    obtain ⟨k, hk, rfl, HA, HB⟩ := hrel
    have BW := Lib.hid (HB0.out.trans (HB.out.mono HB0.out.size))
    obtain ⟨x0, x1, x2, x3⟩ := cells4 (HXa.out.later HB.out)
    obtain ⟨y0, y1, y2, y3⟩ := cells4 (HXb.out.later HB.out)
    simp only [Nat.zero_add] at x0 x1 x2 x3 y0 y1 y2 y3
    have h3 : k = 0 ∨ k = 1 ∨ k = 2 ∨ k = 3 := by omega
    rcases h3 with rfl | rfl | rfl | rfl
    · by_cases h : a0 = b0
      · have HA2 : Hid (∀ x, x < 1 → rk ⟨i, a0, a1, a2⟩ x = rk ⟨j, b0, b1, b2⟩ x) := by
          show ∀ _, _
          intro x hx
          by_cases e : x = 0
          · subst e; exact h
          · exact HA.out x (by omega)
        have t1 : (a0 != b0) = false := by simpa using h
        clear h
        go_wp2_with fail
        have p0 := cell_regrown x0
        have p1 := cell_regrown x1
        have p2 := cell_regrown x2
        have p3 := cell_regrown x3
        have q0 := cell_regrown y0
        have q1 := cell_regrown y1
        have q2 := cell_regrown y2
        have q3 := cell_regrown y3
        refine wp_region_quiet_below (by kernel_rfl) (by kernel_rfl) ?_
        repeat (go_big_quiet_step (fail))
        refine wpQuiet_nil ?_
        intro w5 hw
        have b := regrownZ hw
        have B5 := Lib.hid (below2Z HB.out b)
        replace x0 := cellLaterZ x0 b
        replace x1 := cellLaterZ x1 b
        replace x2 := cellLaterZ x2 b
        replace x3 := cellLaterZ x3 b
        replace y0 := cellLaterZ y0 b
        replace y1 := cellLaterZ y1 b
        replace y2 := cellLaterZ y2 b
        replace y3 := cellLaterZ y3 b
        clear hw b p0 p1 p2 p3 q0 q1 q2 q3
        go_wp2_with fail
        go_roundw
        case rel => exact ⟨1, by omega, rfl, HA2, B5⟩
        case measure => simp [intOf]
      · have HR := Lib.hid (slBet_at (a := ⟨i, a0, a1, a2⟩) (b := ⟨j, b0, b1, b2⟩) (k := 0) (by omega) HA.out h)
        have t1 : (a0 != b0) = true := by simpa using h
        clear h
        go_wp2_with fail
        have p0 := cell_regrown x0
        have p1 := cell_regrown x1
        have p2 := cell_regrown x2
        have p3 := cell_regrown x3
        have q0 := cell_regrown y0
        have q1 := cell_regrown y1
        have q2 := cell_regrown y2
        have q3 := cell_regrown y3
        refine wp_region_quiet_below (by kernel_rfl) (by kernel_rfl) ?_
        repeat (go_big_quiet_step (fail))
        refine wpQuiet_nil ?_
        intro w5 hw
        have b := regrownZ hw
        have B5 := Lib.hid (below2Z HB.out b)
        replace x0 := cellLaterZ x0 b
        replace x1 := cellLaterZ x1 b
        replace x2 := cellLaterZ x2 b
        replace x3 := cellLaterZ x3 b
        replace y0 := cellLaterZ y0 b
        replace y1 := cellLaterZ y1 b
        replace y2 := cellLaterZ y2 b
        replace y3 := cellLaterZ y3 b
        clear hw b p0 p1 p2 p3 q0 q1 q2 q3
        go_wp2_with fail
        have p0 := cell_regrown x0
        have p1 := cell_regrown x1
        have p2 := cell_regrown x2
        have p3 := cell_regrown x3
        have q0 := cell_regrown y0
        have q1 := cell_regrown y1
        have q2 := cell_regrown y2
        have q3 := cell_regrown y3
        refine wp_region_quiet_below (by kernel_rfl) (by kernel_rfl) ?_
        repeat (go_big_quiet_step (fail))
        refine wpQuiet_nil ?_
        intro w6 hw
        have b := regrownZ hw
        have B6 := Lib.hid (below2Z B5.out b)
        replace x0 := cellLaterZ x0 b
        replace x1 := cellLaterZ x1 b
        replace x2 := cellLaterZ x2 b
        replace x3 := cellLaterZ x3 b
        replace y0 := cellLaterZ y0 b
        replace y1 := cellLaterZ y1 b
        replace y2 := cellLaterZ y2 b
        replace y3 := cellLaterZ y3 b
        clear hw b p0 p1 p2 p3 q0 q1 q2 q3
        go_wp2_with fail
        go_ret
        exact ⟨by rw [HR.out]; rfl, HB0.out.trans (B6.out.mono HB0.out.size)⟩
    · by_cases h : a1 = b1
      · have HA2 : Hid (∀ x, x < 2 → rk ⟨i, a0, a1, a2⟩ x = rk ⟨j, b0, b1, b2⟩ x) := by
          show ∀ _, _
          intro x hx
          by_cases e : x = 1
          · subst e; exact h
          · exact HA.out x (by omega)
        have t1 : (a1 != b1) = false := by simpa using h
        clear h
        go_wp2_with fail
        have p0 := cell_regrown x0
        have p1 := cell_regrown x1
        have p2 := cell_regrown x2
        have p3 := cell_regrown x3
        have q0 := cell_regrown y0
        have q1 := cell_regrown y1
        have q2 := cell_regrown y2
        have q3 := cell_regrown y3
        refine wp_region_quiet_below (by kernel_rfl) (by kernel_rfl) ?_
        repeat (go_big_quiet_step (fail))
        refine wpQuiet_nil ?_
        intro w5 hw
        have b := regrownZ hw
        have B5 := Lib.hid (below2Z HB.out b)
        replace x0 := cellLaterZ x0 b
        replace x1 := cellLaterZ x1 b
        replace x2 := cellLaterZ x2 b
        replace x3 := cellLaterZ x3 b
        replace y0 := cellLaterZ y0 b
        replace y1 := cellLaterZ y1 b
        replace y2 := cellLaterZ y2 b
        replace y3 := cellLaterZ y3 b
        clear hw b p0 p1 p2 p3 q0 q1 q2 q3
        go_wp2_with fail
        go_roundw
        case rel => exact ⟨2, by omega, rfl, HA2, B5⟩
        case measure => simp [intOf]
      · have HR := Lib.hid (slBet_at (a := ⟨i, a0, a1, a2⟩) (b := ⟨j, b0, b1, b2⟩) (k := 1) (by omega) HA.out h)
        have t1 : (a1 != b1) = true := by simpa using h
        clear h
        go_wp2_with fail
        have p0 := cell_regrown x0
        have p1 := cell_regrown x1
        have p2 := cell_regrown x2
        have p3 := cell_regrown x3
        have q0 := cell_regrown y0
        have q1 := cell_regrown y1
        have q2 := cell_regrown y2
        have q3 := cell_regrown y3
        refine wp_region_quiet_below (by kernel_rfl) (by kernel_rfl) ?_
        repeat (go_big_quiet_step (fail))
        refine wpQuiet_nil ?_
        intro w5 hw
        have b := regrownZ hw
        have B5 := Lib.hid (below2Z HB.out b)
        replace x0 := cellLaterZ x0 b
        replace x1 := cellLaterZ x1 b
        replace x2 := cellLaterZ x2 b
        replace x3 := cellLaterZ x3 b
        replace y0 := cellLaterZ y0 b
        replace y1 := cellLaterZ y1 b
        replace y2 := cellLaterZ y2 b
        replace y3 := cellLaterZ y3 b
        clear hw b p0 p1 p2 p3 q0 q1 q2 q3
        go_wp2_with fail
        have p0 := cell_regrown x0
        have p1 := cell_regrown x1
        have p2 := cell_regrown x2
        have p3 := cell_regrown x3
        have q0 := cell_regrown y0
        have q1 := cell_regrown y1
        have q2 := cell_regrown y2
        have q3 := cell_regrown y3
        refine wp_region_quiet_below (by kernel_rfl) (by kernel_rfl) ?_
        repeat (go_big_quiet_step (fail))
        refine wpQuiet_nil ?_
        intro w6 hw
        have b := regrownZ hw
        have B6 := Lib.hid (below2Z B5.out b)
        replace x0 := cellLaterZ x0 b
        replace x1 := cellLaterZ x1 b
        replace x2 := cellLaterZ x2 b
        replace x3 := cellLaterZ x3 b
        replace y0 := cellLaterZ y0 b
        replace y1 := cellLaterZ y1 b
        replace y2 := cellLaterZ y2 b
        replace y3 := cellLaterZ y3 b
        clear hw b p0 p1 p2 p3 q0 q1 q2 q3
        go_wp2_with fail
        go_ret
        exact ⟨by rw [HR.out]; rfl, HB0.out.trans (B6.out.mono HB0.out.size)⟩
    · by_cases h : a2 = b2
      · have HA2 : Hid (∀ x, x < 3 → rk ⟨i, a0, a1, a2⟩ x = rk ⟨j, b0, b1, b2⟩ x) := by
          show ∀ _, _
          intro x hx
          by_cases e : x = 2
          · subst e; exact h
          · exact HA.out x (by omega)
        have t1 : (a2 != b2) = false := by simpa using h
        clear h
        go_wp2_with fail
        have p0 := cell_regrown x0
        have p1 := cell_regrown x1
        have p2 := cell_regrown x2
        have p3 := cell_regrown x3
        have q0 := cell_regrown y0
        have q1 := cell_regrown y1
        have q2 := cell_regrown y2
        have q3 := cell_regrown y3
        refine wp_region_quiet_below (by kernel_rfl) (by kernel_rfl) ?_
        repeat (go_big_quiet_step (fail))
        refine wpQuiet_nil ?_
        intro w5 hw
        have b := regrownZ hw
        have B5 := Lib.hid (below2Z HB.out b)
        replace x0 := cellLaterZ x0 b
        replace x1 := cellLaterZ x1 b
        replace x2 := cellLaterZ x2 b
        replace x3 := cellLaterZ x3 b
        replace y0 := cellLaterZ y0 b
        replace y1 := cellLaterZ y1 b
        replace y2 := cellLaterZ y2 b
        replace y3 := cellLaterZ y3 b
        clear hw b p0 p1 p2 p3 q0 q1 q2 q3
        go_wp2_with fail
        go_roundw
        case rel => exact ⟨3, by omega, rfl, HA2, B5⟩
        case measure => simp [intOf]
      · have HR := Lib.hid (slBet_at (a := ⟨i, a0, a1, a2⟩) (b := ⟨j, b0, b1, b2⟩) (k := 2) (by omega) HA.out h)
        have t1 : (a2 != b2) = true := by simpa using h
        clear h
        go_wp2_with fail
        have p0 := cell_regrown x0
        have p1 := cell_regrown x1
        have p2 := cell_regrown x2
        have p3 := cell_regrown x3
        have q0 := cell_regrown y0
        have q1 := cell_regrown y1
        have q2 := cell_regrown y2
        have q3 := cell_regrown y3
        refine wp_region_quiet_below (by kernel_rfl) (by kernel_rfl) ?_
        repeat (go_big_quiet_step (fail))
        refine wpQuiet_nil ?_
        intro w5 hw
        have b := regrownZ hw
        have B5 := Lib.hid (below2Z HB.out b)
        replace x0 := cellLaterZ x0 b
        replace x1 := cellLaterZ x1 b
        replace x2 := cellLaterZ x2 b
        replace x3 := cellLaterZ x3 b
        replace y0 := cellLaterZ y0 b
        replace y1 := cellLaterZ y1 b
        replace y2 := cellLaterZ y2 b
        replace y3 := cellLaterZ y3 b
        clear hw b p0 p1 p2 p3 q0 q1 q2 q3
        go_wp2_with fail
        have p0 := cell_regrown x0
        have p1 := cell_regrown x1
        have p2 := cell_regrown x2
        have p3 := cell_regrown x3
        have q0 := cell_regrown y0
        have q1 := cell_regrown y1
        have q2 := cell_regrown y2
        have q3 := cell_regrown y3
        refine wp_region_quiet_below (by kernel_rfl) (by kernel_rfl) ?_
        repeat (go_big_quiet_step (fail))
        refine wpQuiet_nil ?_
        intro w6 hw
        have b := regrownZ hw
        have B6 := Lib.hid (below2Z B5.out b)
        replace x0 := cellLaterZ x0 b
        replace x1 := cellLaterZ x1 b
        replace x2 := cellLaterZ x2 b
        replace x3 := cellLaterZ x3 b
        replace y0 := cellLaterZ y0 b
        replace y1 := cellLaterZ y1 b
        replace y2 := cellLaterZ y2 b
        replace y3 := cellLaterZ y3 b
        clear hw b p0 p1 p2 p3 q0 q1 q2 q3
        go_wp2_with fail
        go_ret
        exact ⟨by rw [HR.out]; rfl, HB0.out.trans (B6.out.mono HB0.out.size)⟩
    · have HR := Lib.hid (slBet_id HA.out)
      go_wp2_with fail
      go_ret
      exact ⟨by rw [HR.out]; rfl, BW.out⟩

theorem rbetter_eq (i a0 a1 a2 j b0 b1 b2 : Int) {r : Bool} (h : slBet ⟨i, a0, a1, a2⟩ ⟨j, b0, b1, b2⟩ = r) (w : World) :
    Calls Tryz.prog 212 #[.agg #[.int .i64 i, .int .i64 a0, .int .i64 a1, .int .i64 a2], .agg #[.int .i64 j, .int .i64 b0, .int .i64 b1, .int .i64 b2]] w fun e w' => e = .returned (.bool r) ∧ Below w.heap.size w w' := by
  rw [← h]
  exact rbetter_any i a0 a1 a2 j b0 b1 b2 w

end Go.Proofs.YtphfinlfabklmaaGreat

end

section

/-
  LAYER 11, THE DOCUMENT's: the slots, and the best one; and of no session at all.
-/
namespace Go.Proofs.YtphfinlfabklmaaGreat
open Go.RowKit

theorem bst_next {l : List Ses} {k : Nat} (h : 1 ≤ k) : bst l k = if sbet (sat l k) (bst l (k - 1)) = true then sat l k else bst l (k - 1) := by
  obtain ⟨j, rfl⟩ : ∃ j, k = j + 1 := ⟨k - 1, by omega⟩
  rfl

set_option maxHeartbeats 800000 in
set_option maxRecDepth 100000 in
theorem rbslot_any (k st : List UInt8) (id a b c : Int) (w : World) :
    Calls Tryz.prog 213 #[.agg #[.string ⟨k.toArray⟩, .int .i64 id, .int .i64 a, .int .i64 b, .int .i64 c, .string ⟨st.toArray⟩]] w fun e w' => e = .returned (.agg #[.int .i64 id, .int .i64 b, .int .i64 c, .int .i64 0]) ∧ Below w.heap.size w w' := by
  go_enter Tryz.func213, Tryz.ntmps213
  go_wp2_with fail
  refine bodyPost_ret (v := .agg #[.int .i64 id, .int .i64 b, .int .i64 c, .int .i64 0]) (by simp [results, Tryz.results213, go_sem]) rfl ⟨rfl, ?_⟩
  repeat (first | exact Below.refl _ _ | refine Below.setCell ?_ (by first | (simp; done) | (simp; omega)) _ | refine Below.alloc ?_ (by first | (simp; done) | (simp; omega)) _)


set_option maxRecDepth 100000 in
theorem best_no {w : World} {v : Value} (hv : Sess w v []) :
    Calls Tryz.prog 185 #[v] w fun e w' => e = .returned (.tuple #[.agg #[.string ⟨#[]⟩, .int .i64 0, .int .i64 0, .int .i64 0, .int .i64 0, .string ⟨#[]⟩], .bool false]) ∧ Below w.heap.size w w' := by
  obtain ⟨ao, cap, rfl, hm⟩ := hv.open'
  clear hv hm
  simp only [List.length_nil]
  go_enter Tryz.func185, Tryz.ntmps185
  go_wp2_with fail
  refine bodyPost_ret (v := .tuple #[.agg #[.string ⟨#[]⟩, .int .i64 0, .int .i64 0, .int .i64 0, .int .i64 0, .string ⟨#[]⟩], .bool false]) (by simp [results, Tryz.results185, go_sem]) rfl ⟨rfl, ?_⟩
  repeat (first | exact Below.refl _ _ | refine Below.setCell ?_ (by first | (simp; done) | (simp; omega)) _ | refine Below.alloc ?_ (by first | (simp; done) | (simp; omega)) _)

set_option maxRecDepth 100000 in
theorem rbest_no {w : World} {v : Value} (hv : Sess w v []) :
    Calls Tryz.prog 187 #[v] w fun e w' => e = .returned (.tuple #[.agg #[.string ⟨#[]⟩, .int .i64 0, .int .i64 0, .int .i64 0, .int .i64 0, .string ⟨#[]⟩], .bool false]) ∧ Below w.heap.size w w' := by
  obtain ⟨ao, cap, rfl, hm⟩ := hv.open'
  clear hv hm
  simp only [List.length_nil]
  go_enter Tryz.func187, Tryz.ntmps187
  go_wp2_with fail
  refine bodyPost_ret (v := .tuple #[.agg #[.string ⟨#[]⟩, .int .i64 0, .int .i64 0, .int .i64 0, .int .i64 0, .string ⟨#[]⟩], .bool false]) (by simp [results, Tryz.results187, go_sem]) rfl ⟨rfl, ?_⟩
  repeat (first | exact Below.refl _ _ | refine Below.setCell ?_ (by first | (simp; done) | (simp; omega)) _ | refine Below.alloc ?_ (by first | (simp; done) | (simp; omega)) _)

set_option maxHeartbeats 3200000 in
set_option maxRecDepth 100000 in
theorem rbest_yes {w : World} {v : Value} {l : List Ses} (hv : Sess w v l) (h0 : 0 < l.length) {n st : List UInt8} {i a b c : Int} (hr : besOf l = ⟨n, i, ⟨a, b, c, st⟩⟩) :
    Calls Tryz.prog 187 #[v] w fun e w' => e = .returned (.tuple #[.agg #[.string ⟨n.toArray⟩, .int .i64 i, .int .i64 a, .int .i64 b, .int .i64 c, .string ⟨st.toArray⟩], .bool true]) ∧ Below w.heap.size w w' := by
  have hb1 := bl_newZ w (.cells #[.string ⟨#[]⟩, .int .i64 0, .int .i64 0, .int .i64 0, .int .i64 0, .string ⟨#[]⟩] 122)
  obtain ⟨ao, cap, rfl, hm⟩ := hv.open'
  obtain ⟨bk, off, rfl, hc0⟩ := hv.row hb1 0 h0
  obtain ⟨⟨kn, id, ⟨sh, pr, si, sst⟩⟩, hz⟩ : ∃ s, sat l 0 = s := ⟨_, rfl⟩
  rw [show l.getD 0 Ses.zero = sat l 0 from rfl, hz] at hc0
  obtain ⟨s0, s1, s2, s3, s4, s5⟩ := cells6 hc0
  simp only [Nat.zero_mul, Nat.add_zero] at s0 s1 s2 s3 s4 s5
  have t0 : ((l.length : Int) == 0) = false := by rw [beq_eq_false_iff_ne]; omega
  have t1 : (0 : Int) < (l.length : Int) := by omega
  have HV := Lib.hid hv
  have HR := Lib.hid hr
  obtain ⟨W, hW⟩ : ∃ W, W = (w.alloc (.cells #[.string ⟨#[]⟩, .int .i64 0, .int .i64 0, .int .i64 0, .int .i64 0, .string ⟨#[]⟩] 122)).alloc (.cells #[.string ⟨kn.toArray⟩, .int .i64 id, .int .i64 sh, .int .i64 pr, .int .i64 si, .string ⟨sst.toArray⟩] 122) := ⟨_, rfl⟩
  have hW2 : Below w.heap.size w W := by rw [hW]; exact ((Below.refl _ _).alloc (Nat.le_refl _) _).alloc (by simp) _
  have HW := Lib.hid hW2
  have hsz : W.heap.size = w.heap.size + 2 := by rw [hW]; simp
  have X2 : Hid (W.heap[w.heap.size + 1]? = some (.cells (sesVals (bst l (1 - 1))).toArray 122 (0, 0))) := by
    show _ = _
    rw [show bst l (1 - 1) = ⟨kn, id, ⟨sh, pr, si, sst⟩⟩ from hz, hW]
    have := heap_alloc_new (w.alloc (.cells #[.string ⟨#[]⟩, .int .i64 0, .int .i64 0, .int .i64 0, .int .i64 0, .string ⟨#[]⟩] 122)) (.cells #[.string ⟨kn.toArray⟩, .int .i64 id, .int .i64 sh, .int .i64 pr, .int .i64 si, .string ⟨sst.toArray⟩] 122)
    rwa [World.size_alloc] at this
  have R2 : Hid (W.heap[w.heap.size]? = some (.cells #[.string ⟨#[]⟩, .int .i64 0, .int .i64 0, .int .i64 0, .int .i64 0, .string ⟨#[]⟩] 122 (0, 0))) := by
    show _ = _
    rw [hW]
    exact (heap_alloc_old _ _ (by simp)).trans (heap_alloc_new w _)
  clear hv hb1 hW2 hz hc0 hr
  go_enter Tryz.func187, Tryz.ntmps187
  go_wp2_with fail
  rw [← hW]
  clear hW s0 s1 s2 s3 s4 s5 t1
  generalize hB : w.heap.size + 1 = B at X2 ⊢
  go_loopw [5] (fun t wr => ∃ k : Nat, 1 ≤ k ∧ k ≤ l.length ∧ t = .int .i64 k ∧ Hid (wr.heap[B]? = some (.cells (sesVals (bst l (k - 1))).toArray 122 (0, 0))) ∧ Hid (Below B W wr)) (fun t _ => l.length - (intOf t).toNat)
  case atStart => exact ⟨1, Nat.le_refl _, h0, rfl, X2, Below.refl _ _⟩
  case round =>
    clear X2
    obtain ⟨k, hk1, hk, rfl, HX, HB⟩ := hrel
    have hBl := (Array.getElem?_eq_some_iff.1 HX.out).1
    by_cases hlt : k < l.length
    · obtain ⟨bd, od, ead, hc⟩ := HV.out.row (HW.out.trans (HB.out.mono (by omega))) k hlt
      rw [Option.some.injEq, Addr.mk.injEq] at ead
      obtain ⟨rfl, rfl, -⟩ := ead
      rw [show l.getD k Ses.zero = sat l k from rfl] at hc
      obtain ⟨⟨xn, xi, ⟨xa, xb, xc, xs⟩⟩, hx⟩ : ∃ s, sat l k = s := ⟨_, rfl⟩
      obtain ⟨⟨yn, yi, ⟨ya, yb, yc, ys⟩⟩, hy⟩ : ∃ s, bst l (k - 1) = s := ⟨_, rfl⟩
      rw [hx] at hc
      have hX := HX.out
      rw [hy] at hX
      have hnx := bst_next (l := l) hk1
      rw [hx, hy] at hnx
      obtain ⟨q, hq⟩ : ∃ q, sbet ⟨xn, xi, ⟨xa, xb, xc, xs⟩⟩ ⟨yn, yi, ⟨ya, yb, yc, ys⟩⟩ = q := ⟨_, rfl⟩
      rw [hq] at hnx
      have HQ : Hid (∀ w, Calls Tryz.prog 212 #[.agg #[.int .i64 xi, .int .i64 xb, .int .i64 xc, .int .i64 0], .agg #[.int .i64 yi, .int .i64 yb, .int .i64 yc, .int .i64 0]] w fun e w' => e = .returned (.bool q) ∧ Below w.heap.size w w') := Lib.hid (rbetter_eq xi xb xc 0 yi yb yc 0 hq)
      have HS1 : Hid (∀ w, Calls Tryz.prog 213 #[.agg #[.string ⟨xn.toArray⟩, .int .i64 xi, .int .i64 xa, .int .i64 xb, .int .i64 xc, .string ⟨xs.toArray⟩]] w fun e w' => e = .returned (.agg #[.int .i64 xi, .int .i64 xb, .int .i64 xc, .int .i64 0]) ∧ Below w.heap.size w w') := Lib.hid (rbslot_any xn xs xi xa xb xc)
      have HS2 : Hid (∀ w, Calls Tryz.prog 213 #[.agg #[.string ⟨yn.toArray⟩, .int .i64 yi, .int .i64 ya, .int .i64 yb, .int .i64 yc, .string ⟨ys.toArray⟩]] w fun e w' => e = .returned (.agg #[.int .i64 yi, .int .i64 yb, .int .i64 yc, .int .i64 0]) ∧ Below w.heap.size w w') := Lib.hid (rbslot_any yn ys yi ya yb yc)
      have HN := Lib.hid hnx
      have HC := Lib.hid hc
      have HZ : Hid (CellsAt wr B 0 (sesVals ⟨yn, yi, ⟨ya, yb, yc, ys⟩⟩)) := Lib.hid (fun j u hu => by rw [Nat.zero_add]; exact (cell_of_row wr B j _ _ (0, 0) hX).trans (by simpa using hu))
      obtain ⟨p0, p1, p2, p3, p4, p5⟩ := cells6_regrown hc
      obtain ⟨q0, q1, q2, q3, q4, q5⟩ := cells6_regrown HZ.out
      simp only [Nat.zero_add] at q0 q1 q2 q3 q4 q5
      try simp only at p0 p1 p2 p3 p4 p5
      try simp only at q0 q1 q2 q3 q4 q5
      have t1 : (0 : Int) ≤ (k : Int) := by omega
      have t2 : (k : Int) < (l.length : Int) := by omega
      clear hx hy hq hnx hc
      go_wp2_with fail
      refine wp_region_quiet_below (by kernel_rfl) (by kernel_rfl) ?_
      repeat (go_big_quiet_step (first | with_reducible exact rgB HS1.out _ _ _ | with_reducible exact rgB HS2.out _ _ _ | with_reducible exact rgB HQ.out _ _ _))
      refine wpQuiet_nil ?_
      intro w5 hw
      have b5 := regrownZ hw
      have HX5 := (b5.block B hBl).trans hX
      have HB5 := Lib.hid (HB.out.trans (b5.mono (Nat.le_of_lt hBl)))
      obtain ⟨s0, s1, s2, s3, s4, s5⟩ := cells6 (HC.out.later b5)
      try simp only at s0 s1 s2 s3 s4 s5
      have g0 := frozen_of_row w5 B 0 _ _ HX5
      have g1 := frozen_of_row w5 B 1 _ _ HX5
      have g2 := frozen_of_row w5 B 2 _ _ HX5
      have g3 := frozen_of_row w5 B 3 _ _ HX5
      have g4 := frozen_of_row w5 B 4 _ _ HX5
      have g5 := frozen_of_row w5 B 5 _ _ HX5
      have z0 : w5.cell? ⟨B, 0, none⟩ = some (.string ⟨yn.toArray⟩) := cell_of_row w5 B 0 _ _ (0, 0) HX5
      have z1 : w5.cell? ⟨B, 1, none⟩ = some (.int .i64 yi) := cell_of_row w5 B 1 _ _ (0, 0) HX5
      have z2 : w5.cell? ⟨B, 2, none⟩ = some (.int .i64 ya) := cell_of_row w5 B 2 _ _ (0, 0) HX5
      have z3 : w5.cell? ⟨B, 3, none⟩ = some (.int .i64 yb) := cell_of_row w5 B 3 _ _ (0, 0) HX5
      have z4 : w5.cell? ⟨B, 4, none⟩ = some (.int .i64 yc) := cell_of_row w5 B 4 _ _ (0, 0) HX5
      have z5 : w5.cell? ⟨B, 5, none⟩ = some (.string ⟨ys.toArray⟩) := cell_of_row w5 B 5 _ _ (0, 0) HX5
      clear hw b5 p0 p1 p2 p3 p4 p5 q0 q1 q2 q3 q4 q5 HX
      cases q with
      | true =>
        have r0 := heap_setCell_same w5 B 0 _ _ (.string ⟨xn.toArray⟩) HX5
        have r1 := heap_setCell_same _ B 1 _ _ (.int .i64 xi) r0
        have r2 := heap_setCell_same _ B 2 _ _ (.int .i64 xa) r1
        have r3 := heap_setCell_same _ B 3 _ _ (.int .i64 xb) r2
        have r4 := heap_setCell_same _ B 4 _ _ (.int .i64 xc) r3
        have r5 := heap_setCell_same _ B 5 _ _ (.string ⟨xs.toArray⟩) r4
        have HX2 : Hid (((((((w5.setCell ⟨B, 0, none⟩ (.string ⟨xn.toArray⟩)).setCell ⟨B, 1, none⟩ (.int .i64 xi)).setCell ⟨B, 2, none⟩ (.int .i64 xa)).setCell ⟨B, 3, none⟩ (.int .i64 xb)).setCell ⟨B, 4, none⟩ (.int .i64 xc)).setCell ⟨B, 5, none⟩ (.string ⟨xs.toArray⟩)).heap[B]? = some (.cells (sesVals (bst l (k + 1 - 1))).toArray 122 (0, 0))) := by
          show _ = _
          rw [show k + 1 - 1 = k from rfl, HN.out, r5]
          rfl
        have HB2 : Hid (Below B W ((((((w5.setCell ⟨B, 0, none⟩ (.string ⟨xn.toArray⟩)).setCell ⟨B, 1, none⟩ (.int .i64 xi)).setCell ⟨B, 2, none⟩ (.int .i64 xa)).setCell ⟨B, 3, none⟩ (.int .i64 xb)).setCell ⟨B, 4, none⟩ (.int .i64 xc)).setCell ⟨B, 5, none⟩ (.string ⟨xs.toArray⟩))) := ((((((HB5.out.setCell (Nat.le_refl _) _).setCell (Nat.le_refl _) _).setCell (Nat.le_refl _) _).setCell (Nat.le_refl _) _).setCell (Nat.le_refl _) _).setCell (Nat.le_refl _) _)
        clear r0 r1 r2 r3 r4 r5 HX5 hX
        go_wp2_with fail
        go_roundw
        case rel => exact ⟨k + 1, by omega, by omega, by go_num, HX2, HB2⟩
        case measure => simp [intOf]; omega
      | false =>
        have HX2 : Hid (w5.heap[B]? = some (.cells (sesVals (bst l (k + 1 - 1))).toArray 122 (0, 0))) := by
          show _ = _
          rw [show k + 1 - 1 = k from rfl, HN.out, HX5]
          rfl
        clear HX5 hX
        go_wp2_with fail
        go_roundw
        case rel => exact ⟨k + 1, by omega, by omega, by go_num, HX2, HB5⟩
        case measure => simp [intOf]; omega
    · obtain rfl : k = l.length := by omega
      have hX := HX.out
      rw [show bst l (l.length - 1) = besOf l from rfl, HR.out] at hX
      obtain ⟨z0, z1, z2, z3, z4, z5⟩ := cells6 (show CellsAt wr B 0 (sesVals ⟨n, i, ⟨a, b, c, st⟩⟩) from fun j u hu => by rw [Nat.zero_add]; exact (cell_of_row wr B j _ _ (0, 0) hX).trans (by simpa using hu))
      simp only [Nat.zero_add] at z0 z1 z2 z3 z4 z5
      try simp only at z0 z1 z2 z3 z4 z5
      have HWR := Lib.hid (HW.out.trans (HB.out.mono (by omega)))
      have hR := (HB.out.block w.heap.size (by omega)).trans R2.out
      have o0 : wr.cell? ⟨w.heap.size, 0, none⟩ = some (.string ⟨#[]⟩) := cell_of_row wr _ 0 _ _ (0, 0) hR
      have o1 : wr.cell? ⟨w.heap.size, 1, none⟩ = some (.int .i64 0) := cell_of_row wr _ 1 _ _ (0, 0) hR
      have o2 : wr.cell? ⟨w.heap.size, 2, none⟩ = some (.int .i64 0) := cell_of_row wr _ 2 _ _ (0, 0) hR
      have o3 : wr.cell? ⟨w.heap.size, 3, none⟩ = some (.int .i64 0) := cell_of_row wr _ 3 _ _ (0, 0) hR
      have o4 : wr.cell? ⟨w.heap.size, 4, none⟩ = some (.int .i64 0) := cell_of_row wr _ 4 _ _ (0, 0) hR
      have o5 : wr.cell? ⟨w.heap.size, 5, none⟩ = some (.string ⟨#[]⟩) := cell_of_row wr _ 5 _ _ (0, 0) hR
      have y0 : wr.frozen? ⟨w.heap.size, 0, none⟩ = false := frozen_of_row wr _ 0 _ _ hR
      have y1 : wr.frozen? ⟨w.heap.size, 1, none⟩ = false := frozen_of_row wr _ 1 _ _ hR
      have y2 : wr.frozen? ⟨w.heap.size, 2, none⟩ = false := frozen_of_row wr _ 2 _ _ hR
      have y3 : wr.frozen? ⟨w.heap.size, 3, none⟩ = false := frozen_of_row wr _ 3 _ _ hR
      have y4 : wr.frozen? ⟨w.heap.size, 4, none⟩ = false := frozen_of_row wr _ 4 _ _ hR
      have y5 : wr.frozen? ⟨w.heap.size, 5, none⟩ = false := frozen_of_row wr _ 5 _ _ hR
      clear hX hR HX HB
      go_wp2_with fail
      refine bodyPost_ret (v := .tuple #[.agg #[.string ⟨n.toArray⟩, .int .i64 i, .int .i64 a, .int .i64 b, .int .i64 c, .string ⟨st.toArray⟩], .bool true]) (by simp [results, Tryz.results187, go_sem, o0, o1, o2, o3, o4, o5]) rfl ⟨rfl, ?_⟩
      exact (((((HWR.out.setCell (Nat.le_refl _) _).setCell (Nat.le_refl _) _).setCell (Nat.le_refl _) _).setCell (Nat.le_refl _) _).setCell (Nat.le_refl _) _).setCell (Nat.le_refl _) _


end Go.Proofs.YtphfinlfabklmaaGreat

end

section

/-
  LAYER 10, THE DOCUMENT's: Put.
-/
namespace Go.Proofs.YtphfinlfabklmaaGreat
open Go.RowKit

theorem setCell_id {w : World} {b i : Nat} {v : Value} (h : w.cell? ⟨b, i, none⟩ = some v) : w.setCell ⟨b, i, none⟩ v = w := by
  obtain ⟨H, tp, dr, os, out⟩ := w
  unfold World.setCell
  congr 1
  refine Array.ext_getElem? fun k => ?_
  rw [Array.getElem?_modify]
  split
  · rename_i e
    have e' : b = k := e
    subst e'
    cases hb : H[b]? with
    | none => rfl
    | some o =>
      simp only [World.cell?, hb] at h
      cases o with
      | cells cs T fr =>
        simp at h
        simp [Option.map]
        rw [Array.setIfInBounds_def]
        split
        · rename_i hi
          rw [Array.getElem?_eq_getElem hi] at h
          refine Array.ext_getElem? fun j => ?_
          rw [Array.getElem?_set]
          split
          · rename_i ej
            subst ej
            rw [Array.getElem?_eq_getElem hi, h]
          · rfl
        · rfl
      | _ => rfl
  · rfl

/-- What the document's heap may turn. -/
def FootK (K : Nat) (v : Value) (b : Nat) : Prop := b = K ∨ ∃ n c, v = .slice (some ⟨b, 0, none⟩) n c

structure TurnK (w w' : World) (base K : Nat) (v v' : Value) : Prop where
  beside : Beside w w' (FootK K v)
  size : w.heap.size ≤ w'.heap.size
  below : Below base w w'
  new : ∀ g n c, v' = .slice (some ⟨g, 0, none⟩) n c → (∃ n c, v = .slice (some ⟨g, 0, none⟩) n c) ∨ w.heap.size ≤ g

end Go.Proofs.YtphfinlfabklmaaGreat

end
