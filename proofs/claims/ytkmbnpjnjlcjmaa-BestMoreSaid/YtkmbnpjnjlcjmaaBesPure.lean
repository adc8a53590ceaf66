/-
  LAYER 11, PLAIN: the best one of sessions, and their presence.
-/
import Derived.Test.YtkmbnpjnjlcjmaaSesBase
import Derived.Test.YtkmbnpjnjlcjmaaHeaPure
namespace Go.Proofs.Ytkmbnpjnjlcjmaa

def besSlot (s : Ses) : Sl := ⟨s.id, s.v.pr, s.v.si, 0⟩
def besShown (s : Ses) : Sl := ⟨s.id, s.v.sh, s.v.pr, s.v.si⟩

abbrev sat (l : List Ses) (i : Nat) : Ses := l.getD i Ses.zero

theorem sgetDB {l : List Ses} {i : Nat} (h : i < l.length) : l.getD i Ses.zero = l[i] := by
  rw [List.getD_eq_getElem?_getD, List.getElem?_eq_getElem h]
  rfl

/-- Is a's slot better than b's? -/
def sbet (a b : Ses) : Bool := slBet (besSlot a) (besSlot b)

/-- The best one of those at 0 to k. -/
def bst (l : List Ses) : Nat → Ses
  | 0 => sat l 0
  | k + 1 => if sbet (sat l (k + 1)) (bst l k) = true then sat l (k + 1) else bst l k

def besOf (l : List Ses) : Ses := bst l (l.length - 1)

/-- The greatest Show of those below k, and v. -/
def shTo (l : List Ses) (v : Int) : Nat → Int
  | 0 => v
  | k + 1 => max (shTo l v k) (sat l k).v.sh

def besV (l : List Ses) : Val := ⟨shTo l (besOf l).v.sh l.length, (besOf l).v.pr, (besOf l).v.si, (besOf l).v.st⟩

def worth (a b : Val) : Int := if a.sh < b.sh then -1 else if b.sh < a.sh then 1 else if a.pr < b.pr then -1 else if b.pr < a.pr then 1 else 0

theorem shTo_next (l : List Ses) (v : Int) (k : Nat) : shTo l v (k + 1) = if shTo l v k < (sat l k).v.sh then (sat l k).v.sh else shTo l v k := by
  show max _ _ = _
  split <;> omega

theorem sbet_iff (a b : Ses) : sbet a b = true ↔ (b.v.pr < a.v.pr ∨ (a.v.pr = b.v.pr ∧ (b.v.si < a.v.si ∨ (a.v.si = b.v.si ∧ a.id < b.id)))) := by
  unfold sbet
  rw [slBet_iff]
  simp [besSlot]

theorem sbet_no (a b : Ses) : sbet a b = false ↔ ¬ (b.v.pr < a.v.pr ∨ (a.v.pr = b.v.pr ∧ (b.v.si < a.v.si ∨ (a.v.si = b.v.si ∧ a.id < b.id)))) := by
  rw [← sbet_iff, Bool.not_eq_true]

/-- The best one: which one it is, that none is better, that it is better than all ahead of it. -/
theorem bst_spec (l : List Ses) : ∀ k, ∃ j, j ≤ k ∧ bst l k = sat l j ∧ (∀ i, i ≤ k → sbet (sat l i) (sat l j) = false) ∧ ∀ i, i < j → sbet (sat l j) (sat l i) = true := by
  intro k
  induction k with
  | zero =>
    refine ⟨0, Nat.le_refl _, rfl, fun i hi => ?_, fun i hi => by omega⟩
    obtain rfl : i = 0 := by omega
    exact slBet_irrefl _
  | succ k ih =>
    obtain ⟨j, h1, h2, h3, h4⟩ := ih
    unfold bst
    by_cases hb : sbet (sat l (k + 1)) (bst l k) = true
    · rw [if_pos hb]
      rw [h2] at hb
      refine ⟨k + 1, Nat.le_refl _, rfl, fun i hi => ?_, fun i hi => ?_⟩
      · by_cases e : i = k + 1
        · subst e; exact slBet_irrefl _
        · have := h3 i (by omega)
          rw [sbet_no] at *
          rw [sbet_iff] at hb
          omega
      · have := h3 i (by omega)
        rw [sbet_no] at this
        rw [sbet_iff] at *
        omega
    · rw [if_neg hb]
      have hb' : sbet (sat l (k + 1)) (bst l k) = false := by simpa using hb
      rw [h2] at hb'
      refine ⟨j, by omega, h2, fun i hi => ?_, h4⟩
      by_cases e : i = k + 1
      · subst e; exact hb'
      · exact h3 i (by omega)

theorem besOf_spec {l : List Ses} (h : 0 < l.length) : ∃ j, j < l.length ∧ besOf l = sat l j ∧ (∀ i, i < l.length → sbet (sat l i) (sat l j) = false) ∧ ∀ i, i < j → sbet (sat l j) (sat l i) = true := by
  obtain ⟨j, h1, h2, h3, h4⟩ := bst_spec l (l.length - 1)
  exact ⟨j, by omega, h2, fun i hi => h3 i (by omega), h4⟩

theorem besOf_one {l : List Ses} {j : Nat} (hj : j < l.length) (h1 : ∀ i, i < l.length → sbet (sat l i) (sat l j) = false) (h2 : ∀ i, i < j → sbet (sat l j) (sat l i) = true) : besOf l = sat l j := by
  obtain ⟨i, hi, h3, h4, h5⟩ := besOf_spec (l := l) (by omega)
  rw [h3]
  rcases Nat.lt_trichotomy i j with h | h | h
  · have := h2 i h
    rw [h4 j hj] at this
    simp at this
  · rw [h]
  · have := h5 j h
    rw [h1 i hi] at this
    simp at this

theorem shTo_spec (l : List Ses) (v : Int) : ∀ n, v ≤ shTo l v n ∧ (∀ i, i < n → (sat l i).v.sh ≤ shTo l v n) ∧ (shTo l v n = v ∨ ∃ i, i < n ∧ shTo l v n = (sat l i).v.sh) := by
  intro n
  induction n with
  | zero => exact ⟨Int.le_refl _, fun i hi => by omega, .inl rfl⟩
  | succ n ih =>
    obtain ⟨h1, h2, h3⟩ := ih
    unfold shTo
    refine ⟨by omega, fun i hi => ?_, ?_⟩
    · by_cases e : i = n
      · subst e; omega
      · have := h2 i (by omega); omega
    · by_cases hm : shTo l v n ≤ (sat l n).v.sh
      · exact .inr ⟨n, by omega, by omega⟩
      · rcases h3 with h | ⟨i, hi, h⟩
        · exact .inl (by omega)
        · exact .inr ⟨i, by omega, by omega⟩

/-- The greatest Show of all: it is one's, and none is above it. -/
theorem besV_sh {l : List Ses} (h : 0 < l.length) : (∀ i, i < l.length → (sat l i).v.sh ≤ (besV l).sh) ∧ ∃ i, i < l.length ∧ (besV l).sh = (sat l i).v.sh := by
  obtain ⟨h1, h2, h3⟩ := shTo_spec l (besOf l).v.sh l.length
  refine ⟨h2, ?_⟩
  rcases h3 with h3 | h3
  · obtain ⟨j, hj, h4, -⟩ := besOf_spec h
    exact ⟨j, hj, by show shTo _ _ _ = _; rw [h3, h4]⟩
  · exact h3

theorem besV_ext {a b : Val} (h1 : a.sh = b.sh) (h2 : a.pr = b.pr) (h3 : a.si = b.si) (h4 : a.st = b.st) : a = b := by
  cases a; cases b
  simp_all

/-! ### Numbers in halves -/

def sgI (i : Int) : Int := if i < 0 then -1 else if 0 < i then 1 else 0

def orB (x y : Int) : Int := if x = 0 then y else x

/-- How the first number that differs stands. -/
def lead2 (m n m' n' : Int) : Int := orB (sgI (m - m')) (sgI (n - n'))

theorem sgI_cases (i : Int) : (i < 0 ∧ sgI i = -1) ∨ (i = 0 ∧ sgI i = 0) ∨ (0 < i ∧ sgI i = 1) := by
  unfold sgI
  rcases Int.lt_trichotomy i 0 with h | h | h
  · left; exact ⟨h, by rw [if_pos h]⟩
  · right; left; subst h; exact ⟨rfl, rfl⟩
  · right; right; exact ⟨h, by rw [if_neg (by omega), if_pos h]⟩

theorem lead2_worth (a b : Val) : lead2 a.sh a.pr b.sh b.pr = worth a b := by
  unfold lead2 orB worth
  rcases sgI_cases (a.sh - b.sh) with ⟨h, e⟩ | ⟨h, e⟩ | ⟨h, e⟩ <;> rcases sgI_cases (a.pr - b.pr) with ⟨g, d⟩ | ⟨g, d⟩ | ⟨g, d⟩ <;> rw [e, d]
  all_goals split <;> first | omega | skip
  all_goals (repeat' split) <;> omega

theorem lead2_sbet (a b : Ses) : (decide (0 < lead2 a.v.pr a.v.si b.v.pr b.v.si) || (decide (lead2 a.v.pr a.v.si b.v.pr b.v.si = 0) && slBet (besSlot a) (besSlot b))) = sbet a b := by
  have hs : slBet (besSlot a) (besSlot b) = sbet a b := rfl
  rw [hs]
  have h1 := sbet_iff a b
  cases hb : sbet a b with
  | true =>
    have := h1.1 hb
    unfold lead2 orB
    rcases sgI_cases (a.v.pr - b.v.pr) with ⟨h, e⟩ | ⟨h, e⟩ | ⟨h, e⟩ <;> rcases sgI_cases (a.v.si - b.v.si) with ⟨g, d⟩ | ⟨g, d⟩ | ⟨g, d⟩ <;> rw [e, d] <;> first | (exfalso; omega) | simp
  | false =>
    have := (sbet_no a b).1 hb
    unfold lead2 orB
    rcases sgI_cases (a.v.pr - b.v.pr) with ⟨h, e⟩ | ⟨h, e⟩ | ⟨h, e⟩ <;> rcases sgI_cases (a.v.si - b.v.si) with ⟨g, d⟩ | ⟨g, d⟩ | ⟨g, d⟩ <;> rw [e, d] <;> first | (exfalso; omega) | simp

end Go.Proofs.Ytkmbnpjnjlcjmaa
