/-
  TEXTS OF THE PROOF, one behind the other: PairKey, SubPure, RosPure, RosMay, Ord, OrdSet, RosMayP, RosDoP, RosWatP, FnMap, SubMap, SubOne, SubEq, SubTell, SubRact, SubSet, SubAct0.
-/
import Derived.Test.YtlckphdmflofgaaProg
import Derived.Test.YtlckphdmflofgaaB01
import Derived.DeepKeys4
import Derived.Maps.OwnSet
import Derived.Lib.Hide
import Derived.Test.YtlckphdmflofgaaRows
import Derived.Laws.StructEq
import Derived.BigRegion
import Derived.Deep.QuietTactic
import Derived.BigQuiet
import Derived.RegionTactic
import Derived.ChangeAlike
import Derived.Deep.RegionHeld

section
/-
  KEYS THAT ARE TWO TEXTS: what a map's key of type [2]string stands for; unlike pairs have unlike keys.
-/
namespace Go.Proofs.Ytlckphdmflofgaa
open Go.RowKit Go.ChangeMaps Go.MapKept

def pkV (a b : List UInt8) : Value := .agg #[.string ⟨a.toArray⟩, .string ⟨b.toArray⟩]

/-- The literal of a pair. -/
def pkL (a b : List UInt8) : Lit := .string (keyBytes [.string a, .string b])

end Go.Proofs.Ytlckphdmflofgaa
end

section
/-
  LAYER 7, PLAIN: items that face one another, and what is done to them.
-/
namespace Go.Proofs.Ytlckphdmflofgaa

structure It where
  to : Bool
  fr : Bool
  out : Bool
  inn : Bool
  bl : Bool
deriving DecidableEq

def It.zero : It := ⟨false, false, false, false, false⟩

def suMay (a b : It) : Bool := (a.to == b.fr) && ((a.fr == b.to) && ((a.out == b.inn) && ((a.inn == b.out) && (!(a.to && a.out) && !(b.to && b.out)))))
def suSees (a b : It) : Bool := a.to && (!a.bl && !b.bl)
def suEmpty (a : It) : Bool := !a.to && (!a.fr && (!a.out && (!a.inn && !a.bl)))
def suName (a : It) : List UInt8 :=
  if a.to = true then (if a.fr = true then [98, 111, 116, 104] else [116, 111]) else (if a.fr = true then [102, 114, 111, 109] else [110, 111, 110, 101])

/-- What is done of items that may be. -/
def suDo (a b : It) (k : Int) : It × It × Nat :=
  if k = 1 then (if (a.bl || b.bl) = true then (a, b, 8) else if (a.to || a.out) = true then (a, b, 7) else (⟨a.to, a.fr, true, a.inn, a.bl⟩, ⟨b.to, b.fr, b.out, true, b.bl⟩, 0))
  else if k = 2 then (if (a.bl || b.bl) = true then (a, b, 8) else if a.inn = false then (a, b, 7) else (⟨a.to, true, a.out, false, a.bl⟩, ⟨true, b.fr, false, b.inn, b.bl⟩, 0))
  else if k = 3 then (if (a.to || a.out) = false then (a, b, 7) else (⟨false, a.fr, false, a.inn, a.bl⟩, ⟨b.to, false, b.out, false, b.bl⟩, 0))
  else if k = 4 then (if (a.fr || a.inn) = false then (a, b, 7) else (⟨a.to, false, a.out, false, a.bl⟩, ⟨false, b.fr, false, b.inn, b.bl⟩, 0))
  else if k = 5 then (if a.bl = true then (a, b, 7) else (⟨a.to, a.fr, a.out, a.inn, true⟩, b, 0))
  else (if a.bl = false then (a, b, 7) else (⟨a.to, a.fr, a.out, a.inn, false⟩, b, 0))

def suAct (a b : It) (k : Int) : It × It × Nat :=
  if suMay a b = true ∧ 1 ≤ k ∧ k ≤ 6 then suDo a b k else (a, b, 1)

theorem suMay_comm (a b : It) : suMay a b = suMay b a := by
  obtain ⟨a1, a2, a3, a4, a5⟩ := a
  obtain ⟨b1, b2, b3, b4, b5⟩ := b
  cases a1 <;> cases a2 <;> cases a3 <;> cases a4 <;> cases b1 <;> cases b2 <;> cases b3 <;> cases b4 <;> rfl

/-- Beside an error nothing has turned. -/
theorem suAct_err {a b x y : It} {k : Int} {e : Nat} (h : suAct a b k = (x, y, e)) (he : e ≠ 0) : x = a ∧ y = b := by
  unfold suAct at h
  split at h
  · unfold suDo at h
    repeat' split at h
    all_goals (simp only [Prod.mk.injEq] at h; obtain ⟨h1, h2, h3⟩ := h; first | exact ⟨h1.symm, h2.symm⟩ | exact absurd h3.symm he)
  · simp only [Prod.mk.injEq] at h
    exact ⟨h.1.symm, h.2.1.symm⟩

theorem suAct_ok {a b x y : It} {k : Int} (h : suAct a b k = (x, y, 0)) : suMay a b = true ∧ 1 ≤ k ∧ k ≤ 6 ∧ suDo a b k = (x, y, 0) := by
  unfold suAct at h
  split at h
  · next hc => exact ⟨hc.1, hc.2.1, hc.2.2, h⟩
  · simp at h

/-- What may be stays so; what was done can't be done again. -/
theorem suDo_may : ∀ a1 a2 a3 a4 a5 b1 b2 b3 b4 b5 : Bool, suMay ⟨a1, a2, a3, a4, a5⟩ ⟨b1, b2, b3, b4, b5⟩ = true → ∀ k : Fin 6,
    let r := suDo ⟨a1, a2, a3, a4, a5⟩ ⟨b1, b2, b3, b4, b5⟩ ((k.val : Int) + 1)
    r.2.2 = 0 → suMay r.1 r.2.1 = true ∧ (suDo r.1 r.2.1 ((k.val : Int) + 1)).2.2 ≠ 0 := by decide +kernel

theorem suAct_may {a b x y : It} {k : Int} (h : suAct a b k = (x, y, 0)) : suMay x y = true ∧ (suAct x y k).2.2 ≠ 0 := by
  obtain ⟨h1, h2, h3, h4⟩ := suAct_ok h
  obtain ⟨a1, a2, a3, a4, a5⟩ := a
  obtain ⟨b1, b2, b3, b4, b5⟩ := b
  obtain ⟨n, rfl⟩ : ∃ n : Fin 6, k = (n.val : Int) + 1 := ⟨⟨(k - 1).toNat, by omega⟩, by simp; omega⟩
  have := suDo_may a1 a2 a3 a4 a5 b1 b2 b3 b4 b5 h1 n
  rw [h4] at this
  obtain ⟨g1, g2⟩ := this rfl
  refine ⟨g1, ?_⟩
  unfold suAct
  rw [if_pos ⟨g1, h2, h3⟩]
  exact g2

end Go.Proofs.Ytlckphdmflofgaa
end

section
/-
  LAYER 8, PLAIN: entries of rosters, their order, where one belongs; what may be.
-/
namespace Go.Proofs.Ytlckphdmflofgaa

structure Ent where
  o : List UInt8
  c : List UInt8
  it : It

def Ent.zero : Ent := ⟨[], [], It.zero⟩

/-- One entry's place is ahead of the other one's. -/
def entLt (a b : Ent) : Bool := idLess a.o b.o || (decide (a.o = b.o) && idLess a.c b.c)

/-- The same Owner and Contact. -/
def entIs (a b : Ent) : Bool := decide (a.o = b.o) && decide (a.c = b.c)

theorem entLt_irrefl (a : Ent) : entLt a a = false := by
  unfold entLt
  rw [idLess_irrefl, idLess_irrefl]
  simp

theorem entLt_trans {a b c : Ent} (h1 : entLt a b = true) (h2 : entLt b c = true) : entLt a c = true := by
  unfold entLt at *
  simp only [Bool.or_eq_true, Bool.and_eq_true, decide_eq_true_eq] at *
  rcases h1 with h1 | ⟨e1, h1⟩
  · rcases h2 with h2 | ⟨e2, h2⟩
    · exact .inl (idLess_trans h1 h2)
    · rw [← e2]; exact .inl h1
  · rcases h2 with h2 | ⟨e2, h2⟩
    · rw [e1]; exact .inl h2
    · exact .inr ⟨e1.trans e2, idLess_trans h1 h2⟩

/-- Just one of the three. -/
theorem entLt_tri (a b : Ent) : (entLt a b = true ∧ entLt b a = false ∧ entIs a b = false) ∨ (entLt a b = false ∧ entLt b a = true ∧ entIs a b = false) ∨ (entLt a b = false ∧ entLt b a = false ∧ entIs a b = true) := by
  unfold entLt entIs
  rcases idLess_tri a.o b.o with ⟨h1, h2, h3⟩ | ⟨h1, h2, h3⟩ | ⟨h1, h2, h3⟩
  · have h3' : ¬ b.o = a.o := fun e => h3 e.symm
    exact .inl ⟨by simp [h1], by simp [h2, h3'], by simp [h3]⟩
  · have h3' : ¬ b.o = a.o := fun e => h3 e.symm
    exact .inr (.inl ⟨by simp [h1, h3], by simp [h2], by simp [h3]⟩)
  · rcases idLess_tri a.c b.c with ⟨g1, g2, g3⟩ | ⟨g1, g2, g3⟩ | ⟨g1, g2, g3⟩
    · exact .inl ⟨by simp [h3, g1], by simp [h3, idLess_irrefl, g2], by simp [h3, g3]⟩
    · exact .inr (.inl ⟨by simp [h3, idLess_irrefl, g1], by simp [h3, g2], by simp [h3, g3]⟩)
    · exact .inr (.inr ⟨by simp [h3, idLess_irrefl, g1], by simp [h3, idLess_irrefl, g2], by simp [h3, g3]⟩)

theorem entIs_iff {a b : Ent} : entIs a b = true ↔ a.o = b.o ∧ a.c = b.c := by
  unfold entIs
  simp

theorem entLt_same {a b x : Ent} (h : entIs a b = true) : entLt a x = entLt b x ∧ entLt x a = entLt x b := by
  obtain ⟨h1, h2⟩ := entIs_iff.1 h
  unfold entLt
  rw [h1, h2]
  exact ⟨rfl, rfl⟩

/-- Entries rise. -/
def Rise (l : List Ent) : Prop := l.Pairwise fun a b => entLt a b = true

/-- How many stand ahead of x. -/
def entPlace (l : List Ent) (x : Ent) : Nat := (l.takeWhile fun e => entLt e x).length

theorem entPlace_le (l : List Ent) (x : Ent) : entPlace l x ≤ l.length := by
  unfold entPlace
  exact (List.takeWhile_sublist _).length_le

/-- In entries that rise just those ahead of its place are less. -/
theorem entPlace_spec : ∀ {l : List Ent} (_ : Rise l) (x : Ent) {h : Nat} (_ : h < l.length), entLt (l.getD h Ent.zero) x = decide (h < entPlace l x)
  | [], _, _, _, hh => by simp at hh
  | e :: l, hr, x, h, hh => by
    obtain ⟨h1, h2⟩ := List.pairwise_cons.1 hr
    unfold entPlace
    rw [List.takeWhile_cons]
    by_cases he : entLt e x = true
    · rw [if_pos he]
      cases h with
      | zero => simp [he]
      | succ h =>
        have ih := entPlace_spec h2 x (h := h) (by simpa using hh)
        simp only [List.getD_cons_succ, List.length_cons]
        rw [ih]
        unfold entPlace
        simp
    · rw [if_neg he]
      simp only [List.length_nil, Nat.not_lt_zero, decide_false]
      cases h with
      | zero => simpa using he
      | succ h =>
        simp only [List.getD_cons_succ]
        rw [Bool.eq_false_iff]
        intro hx
        have hh' : h < l.length := by simpa using hh
        have hm : l.getD h Ent.zero ∈ l := by
          rw [List.getD_eq_getElem?_getD, List.getElem?_eq_getElem hh']
          exact List.getElem_mem hh'
        exact he (entLt_trans (h1 _ hm) hx)

/-- One of that Owner and Contact is there just if it stands at its place. -/
theorem entPlace_there {l : List Ent} (hr : Rise l) (x : Ent) : (decide (entPlace l x < l.length) && entIs (l.getD (entPlace l x) Ent.zero) x) = l.any fun e => entIs e x := by
  rw [Bool.eq_iff_iff]
  simp only [Bool.and_eq_true, decide_eq_true_eq, List.any_eq_true]
  constructor
  · rintro ⟨h1, h2⟩
    refine ⟨_, ?_, h2⟩
    rw [List.getD_eq_getElem?_getD, List.getElem?_eq_getElem h1]
    exact List.getElem_mem h1
  · rintro ⟨e, he, hx⟩
    obtain ⟨i, hi, rfl⟩ := List.getElem_of_mem he
    have g : ∀ j (hj : j < l.length), l.getD j Ent.zero = l[j] := fun j hj => by rw [List.getD_eq_getElem?_getD, List.getElem?_eq_getElem hj]; rfl
    have hi1 := entPlace_spec hr x hi
    rw [g i hi] at hi1
    rw [(entLt_same hx).1, entLt_irrefl] at hi1
    have hle : entPlace l x ≤ i := by
      have := decide_eq_false_iff_not.1 hi1.symm
      omega
    have hp : entPlace l x < l.length := by omega
    refine ⟨hp, ?_⟩
    rw [g _ hp]
    by_cases e : entPlace l x = i
    · simp only [e]; exact hx
    · exfalso
      have hlt : entPlace l x < i := by omega
      have h3 := (List.pairwise_iff_getElem.1 hr) _ _ hp hi hlt
      have h4 := entPlace_spec hr x hp
      rw [g _ hp, ← (entLt_same hx).2, h3] at h4
      simp at h4

end Go.Proofs.Ytlckphdmflofgaa
end

section
/-
  LAYER 8, PLAIN: an Owner has more entries than may be just if one stands sixteen places behind one of the same Owner.
-/
namespace Go.Proofs.Ytlckphdmflofgaa

def ofOwner (o : List UInt8) (e : Ent) : Bool := decide (e.o = o)

/-- The Contacts of that Owner. -/
def roOf (l : List Ent) (o : List UInt8) : List (List UInt8) := (l.filter (ofOwner o)).map fun e => e.c

theorem roOf_len (l : List Ent) (o : List UInt8) : (roOf l o).length = (l.filter (ofOwner o)).length := by simp [roOf]

/-- One more than its Owner may have. -/
def roOver (l : List Ent) (i : Nat) : Bool := decide (16 ≤ i) && decide ((l.getD (i - 16) Ent.zero).o = (l.getD i Ent.zero).o)

/-- Owners don't go back. -/
theorem entLt_owner {a b : Ent} (h : entLt a b = true) : idLess b.o a.o = false := by
  unfold entLt at h
  simp only [Bool.or_eq_true, Bool.and_eq_true, decide_eq_true_eq] at h
  rcases h with h | ⟨h, _⟩
  · rcases idLess_tri a.o b.o with ⟨_, g, _⟩ | ⟨g, _, _⟩ | ⟨g, _, _⟩
    · exact g
    · rw [h] at g; cases g
    · rw [h] at g; cases g
  · rw [h]; exact idLess_irrefl _

/-- What stands between two of one Owner is that Owner's. -/
theorem between {a b c : Ent} (h1 : entLt a b = true) (h2 : entLt b c = true) (h : a.o = c.o) : b.o = c.o := by
  have g1 := entLt_owner h1
  have g2 := entLt_owner h2
  rw [h] at g1
  rcases idLess_tri b.o c.o with ⟨g, _, _⟩ | ⟨_, g, _⟩ | ⟨_, _, g⟩
  · rw [g1] at g; cases g
  · rw [g2] at g; cases g
  · exact g

/-- Behind an entry of that Owner, its entries stand together. -/
theorem filter_while {o : List UInt8} : ∀ {e : Ent} {l : List Ent}, Rise (e :: l) → e.o = o → l.filter (ofOwner o) = l.takeWhile (ofOwner o)
  | _, [], _, _ => rfl
  | e, x :: l, hr, he => by
    obtain ⟨h1, h2⟩ := List.pairwise_cons.1 hr
    rw [List.filter_cons, List.takeWhile_cons]
    by_cases hx : x.o = o
    · have : ofOwner o x = true := by simp [ofOwner, hx]
      rw [if_pos this, if_pos this, filter_while h2 hx]
    · have : ¬ ofOwner o x = true := by simp [ofOwner, hx]
      rw [if_neg this, if_neg this, List.filter_eq_nil_iff]
      intro y hy hyo
      have hyo' : y.o = o := by simpa [ofOwner] using hyo
      have hex := h1 x (by simp)
      have hxy := (List.pairwise_cons.1 h2).1 y hy
      exact hx ((between hex hxy (he.trans hyo'.symm)).trans hyo')

theorem takeWhile_get {p : Ent → Bool} : ∀ {l : List Ent} {i : Nat}, i < (l.takeWhile p).length → p (l.getD i Ent.zero) = true
  | [], _, h => by simp at h
  | x :: l, i, h => by
    rw [List.takeWhile_cons] at h
    by_cases hx : p x = true
    · rw [if_pos hx] at h
      cases i with
      | zero => exact hx
      | succ i => exact takeWhile_get (l := l) (i := i) (by simpa using h)
    · rw [if_neg hx] at h; simp at h

/-- More than sixteen: one stands sixteen places behind. -/
theorem over_of_many (o : List UInt8) : ∀ {l : List Ent}, Rise l → 16 < (l.filter (ofOwner o)).length → ∃ i, i < l.length ∧ (l.getD i Ent.zero).o = o ∧ roOver l i = true
  | [], _, h => by simp at h
  | e :: l, hr, h => by
    rw [List.filter_cons] at h
    by_cases he : e.o = o
    · have hp : ofOwner o e = true := by simp [ofOwner, he]
      rw [if_pos hp, filter_while hr he] at h
      have h15 : 15 < (l.takeWhile (ofOwner o)).length := by rw [List.length_cons] at h; omega
      have hg := takeWhile_get h15
      have hlen := (List.takeWhile_sublist (ofOwner o) (l := l)).length_le
      refine ⟨16, by simp only [List.length_cons]; omega, by simpa [ofOwner] using hg, ?_⟩
      unfold roOver
      have : (l.getD 15 Ent.zero).o = o := by simpa [ofOwner] using hg
      show (decide (16 ≤ 16) && decide (e.o = (l.getD 15 Ent.zero).o)) = true
      rw [this, he]
      simp
    · have hp : ¬ ofOwner o e = true := by simp [ofOwner, he]
      rw [if_neg hp] at h
      obtain ⟨i, h1, h2, h3⟩ := over_of_many o (List.pairwise_cons.1 hr).2 h
      refine ⟨i + 1, by simp only [List.length_cons]; omega, h2, ?_⟩
      unfold roOver at h3 ⊢
      simp only [Bool.and_eq_true, decide_eq_true_eq] at h3 ⊢
      refine ⟨by omega, ?_⟩
      rw [show i + 1 - 16 = (i - 16) + 1 by omega]
      exact h3.2

theorem getD_at {l : List Ent} {i : Nat} (h : i < l.length) : l.getD i Ent.zero = l[i] := by
  rw [List.getD_eq_getElem?_getD, List.getElem?_eq_getElem h]; rfl

/-- .. and the other way round. -/
theorem many_of_over {l : List Ent} (hr : Rise l) {i : Nat} (hi : i < l.length) (h : roOver l i = true) : 16 < (l.filter (ofOwner (l.getD i Ent.zero).o)).length := by
  unfold roOver at h
  simp only [Bool.and_eq_true, decide_eq_true_eq] at h
  obtain ⟨h16, ho⟩ := h
  have hp := List.pairwise_iff_getElem.1 hr
  have hall : ∀ j, i - 16 ≤ j → j ≤ i → (l.getD j Ent.zero).o = (l.getD i Ent.zero).o := by
    intro j h1 h2
    by_cases e1 : j = i
    · rw [e1]
    · by_cases e2 : j = i - 16
      · rw [e2]; exact ho
      · have hj : j < l.length := by omega
        have hk : i - 16 < l.length := by omega
        have a := hp (i - 16) j hk hj (by omega)
        have b := hp j i hj hi (by omega)
        rw [getD_at hk, getD_at hi] at ho
        rw [getD_at hj, getD_at hi]
        exact between a b ho
  have hsub : ((l.drop (i - 16)).take 17).Sublist l := (List.take_sublist _ _).trans (List.drop_sublist _ _)
  have hf := hsub.filter (ofOwner (l.getD i Ent.zero).o)
  have hs : ((l.drop (i - 16)).take 17).filter (ofOwner (l.getD i Ent.zero).o) = (l.drop (i - 16)).take 17 := by
    rw [List.filter_eq_self]
    intro e he
    obtain ⟨j, hj, rfl⟩ := List.getElem_of_mem he
    have hj' : j < 17 ∧ i - 16 + j < l.length := by
      rw [List.length_take, List.length_drop] at hj
      omega
    have := hall (i - 16 + j) (by omega) (by omega)
    rw [getD_at hj'.2] at this
    simp only [ofOwner, List.getElem_take, List.getElem_drop, decide_eq_true_eq]
    exact this
  rw [hs] at hf
  have := hf.length_le
  rw [List.length_take, List.length_drop] at this
  omega

/-- No Owner has more than may be just if nothing stands sixteen places behind one of the same Owner. -/
theorem over_iff {l : List Ent} (hr : Rise l) : (∀ i, i < l.length → (roOf l (l.getD i Ent.zero).o).length ≤ 16) ↔ ∀ i, i < l.length → roOver l i = false := by
  constructor
  · intro h i hi
    rw [Bool.eq_false_iff]
    intro ho
    have h1 := many_of_over hr hi ho
    have h2 := h i hi
    rw [roOf_len] at h2
    omega
  · intro h i hi
    rw [roOf_len]
    apply Nat.le_of_not_lt
    intro hm
    obtain ⟨j, h1, _, h3⟩ := over_of_many _ hr hm
    rw [h j h1] at h3
    cases h3

end Go.Proofs.Ytlckphdmflofgaa
end

section
/-
  PLAIN: lists that rise by an order of keys: where one belongs, one put in or taken out, what stands in them then.
-/
namespace Go.Proofs.Ytlckphdmflofgaa

/-- An order: of two just one stands ahead, or they are alike. -/
structure OrdOK {α : Type} (lt eq : α → α → Bool) : Prop where
  irrefl : ∀ a, lt a a = false
  trans : ∀ a b c, lt a b = true → lt b c = true → lt a c = true
  tri : ∀ a b, (lt a b = true ∧ lt b a = false ∧ eq a b = false) ∨ (lt a b = false ∧ lt b a = true ∧ eq a b = false) ∨ (lt a b = false ∧ lt b a = false ∧ eq a b = true)
  same : ∀ a b x, eq a b = true → lt a x = lt b x ∧ lt x a = lt x b

section
variable {α : Type} {lt eq : α → α → Bool} {zero : α}

theorem OrdOK.refl (O : OrdOK lt eq) (a : α) : eq a a = true := by
  rcases O.tri a a with ⟨h, _, _⟩ | ⟨_, h, _⟩ | ⟨_, _, h⟩
  · rw [O.irrefl] at h; cases h
  · rw [O.irrefl] at h; cases h
  · exact h

theorem OrdOK.eq_of (O : OrdOK lt eq) {a b : α} (h1 : lt a b = false) (h2 : lt b a = false) : eq a b = true := by
  rcases O.tri a b with ⟨h, _, _⟩ | ⟨_, h, _⟩ | ⟨_, _, h⟩
  · rw [h1] at h; cases h
  · rw [h2] at h; cases h
  · exact h

theorem OrdOK.eq_no (O : OrdOK lt eq) {a b : α} (h : eq a b = true) : lt a b = false ∧ lt b a = false := by
  rcases O.tri a b with ⟨_, _, g⟩ | ⟨_, _, g⟩ | ⟨g1, g2, _⟩
  · rw [h] at g; cases g
  · rw [h] at g; cases g
  · exact ⟨g1, g2⟩

theorem OrdOK.symm (O : OrdOK lt eq) (a b : α) : eq a b = eq b a := by
  rcases O.tri a b with ⟨h1, h2, h3⟩ | ⟨h1, h2, h3⟩ | ⟨h1, h2, h3⟩
  all_goals rcases O.tri b a with ⟨g1, g2, g3⟩ | ⟨g1, g2, g3⟩ | ⟨g1, g2, g3⟩
  all_goals simp_all

theorem OrdOK.eq_trans (O : OrdOK lt eq) {a b c : α} (h1 : eq a b = true) (h2 : eq b c = true) : eq a c = true := by
  have e1 := O.same a b c h1
  have e2 := O.eq_no h2
  exact O.eq_of (by rw [e1.1]; exact e2.1) (by rw [e1.2]; exact e2.2)

theorem OrdOK.asymm (O : OrdOK lt eq) {a b : α} (h : lt a b = true) : lt b a = false := by
  rcases O.tri a b with ⟨_, g, _⟩ | ⟨g, _, _⟩ | ⟨g, _, _⟩
  · exact g
  · rw [h] at g; cases g
  · rw [h] at g; cases g

/-- A list that rises. -/
def RiseO (lt : α → α → Bool) (l : List α) : Prop := l.Pairwise fun a b => lt a b = true

/-- How many stand ahead of x. -/
def placeO (lt : α → α → Bool) (l : List α) (x : α) : Nat := (l.takeWhile fun e => lt e x).length

/-- Where the first one like x stands. -/
def findO (eq : α → α → Bool) (l : List α) (x : α) : Option Nat := l.findIdx? fun e => eq e x

/-- x at its place, instead of the one like it. -/
def putO (lt eq : α → α → Bool) (l : List α) (x : α) : List α :=
  match findO eq l x with
  | some i => l.set i x
  | none => putS l (placeO lt l x) x

/-- All but such as are like x. -/
def dropO (eq : α → α → Bool) (l : List α) (x : α) : List α := l.filter fun e => !eq e x

theorem placeO_le (l : List α) (x : α) : placeO lt l x ≤ l.length := by
  unfold placeO
  exact (List.takeWhile_sublist _).length_le

theorem findO_some {l : List α} {x : α} {i : Nat} (h : findO eq l x = some i) : ∃ hi : i < l.length, eq l[i] x = true ∧ ∀ j (hj : j < i), eq (l[j]'(by omega)) x = false := by
  unfold findO at h
  rw [List.findIdx?_eq_some_iff_getElem] at h
  obtain ⟨hi, h2, h3⟩ := h
  exact ⟨hi, h2, fun j hj => by simpa using h3 j hj⟩

theorem findO_none {l : List α} {x : α} (h : findO eq l x = none) : ∀ y ∈ l, eq y x = false := by
  unfold findO at h
  rw [List.findIdx?_eq_none_iff] at h
  intro y hy
  simpa using h y hy

theorem rise_get {l : List α} (h : RiseO lt l) {i j : Nat} (hj : j < l.length) (hij : i < j) : lt (l[i]'(by omega)) l[j] = true :=
  List.pairwise_iff_getElem.1 h i j (by omega) hj hij

theorem placeO_ahead {l : List α} {x : α} {k : Nat} (h : k < placeO lt l x) : lt (l[k]'(Nat.lt_of_lt_of_le h (placeO_le l x))) x = true := by
  unfold placeO at h
  have h1 : (l.takeWhile fun e => lt e x)[k] ∈ l.takeWhile fun e => lt e x := List.getElem_mem h
  have h2 := List.all_takeWhile (l := l) (p := fun e => lt e x)
  rw [List.all_eq_true] at h2
  have h3 := h2 _ h1
  have h4 := (List.takeWhile_prefix (fun e => lt e x) (l := l)).getElem h
  rwa [h4] at h3

theorem takeWhile_stop {p : α → Bool} : ∀ {l : List α} (h : (l.takeWhile p).length < l.length), p (l[(l.takeWhile p).length]'h) = false
  | [], h => by simp at h
  | a :: l, h => by
    by_cases hp : p a = true
    · have e : (a :: l).takeWhile p = a :: l.takeWhile p := by rw [List.takeWhile_cons, if_pos hp]
      simp only [e, List.length_cons, List.getElem_cons_succ]
      exact takeWhile_stop (l := l) (by simpa [e] using h)
    · have e : (a :: l).takeWhile p = [] := by rw [List.takeWhile_cons, if_neg hp]
      simp only [e, List.length_nil, List.getElem_cons_zero]
      simpa using hp

theorem placeO_behind (O : OrdOK lt eq) {l : List α} (hr : RiseO lt l) {x : α} {k : Nat} (hk : k < l.length) (h : placeO lt l x ≤ k) : lt l[k] x = false := by
  have hp : placeO lt l x < l.length := by omega
  have h0 : lt (l[placeO lt l x]'hp) x = false := takeWhile_stop hp
  by_cases e : placeO lt l x = k
  · simp only [← e]; exact h0
  · have h1 := rise_get hr hk (show placeO lt l x < k by omega)
    rw [Bool.eq_false_iff]
    intro h2
    rw [O.trans _ _ _ h1 h2] at h0
    cases h0

/-- What stands at its place is like x, if any is. -/
theorem findO_place (O : OrdOK lt eq) {l : List α} (hr : RiseO lt l) {x : α} {i : Nat} (h : findO eq l x = some i) : i = placeO lt l x := by
  obtain ⟨hi, he, _⟩ := findO_some h
  rcases Nat.lt_trichotomy i (placeO lt l x) with hlt | he2 | hlt
  · have := placeO_ahead hlt
    rw [(O.eq_no he).1] at this; cases this
  · exact he2
  · have hp : placeO lt l x < l.length := by omega
    have h1 := rise_get hr hi hlt
    have h2 := placeO_behind O hr hp (Nat.le_refl _)
    rw [← (O.same _ _ (l[placeO lt l x]) he).2, h1] at h2
    cases h2

theorem rise_one (O : OrdOK lt eq) {l : List α} (hr : RiseO lt l) {i j : Nat} (hi : i < l.length) (hj : j < l.length) (h : eq l[i] l[j] = true) : i = j := by
  rcases Nat.lt_trichotomy i j with hlt | he | hlt
  · have := rise_get hr hj hlt
    rw [(O.eq_no h).1] at this; cases this
  · exact he
  · have := rise_get hr hi hlt
    rw [(O.eq_no h).2] at this; cases this

theorem rise_mem (O : OrdOK lt eq) {l : List α} (hr : RiseO lt l) {a b : α} (ha : a ∈ l) (hb : b ∈ l) (h : eq a b = true) : a = b := by
  obtain ⟨i, hi, rfl⟩ := List.getElem_of_mem ha
  obtain ⟨j, hj, rfl⟩ := List.getElem_of_mem hb
  have := rise_one O hr hi hj h
  subst this
  rfl

/-- Two lists that rise, of the same ones, are the same. -/
theorem rise_unique (O : OrdOK lt eq) : ∀ {l m : List α}, RiseO lt l → RiseO lt m → (∀ x, x ∈ l ↔ x ∈ m) → l = m
  | [], [], _, _, _ => rfl
  | [], b :: m, _, _, h => by have := (h b).2 (by simp); simp at this
  | a :: l, [], _, _, h => by have := (h a).1 (by simp); simp at this
  | a :: l, b :: m, hl, hm, h => by
    obtain ⟨l1, l2⟩ := List.pairwise_cons.1 hl
    obtain ⟨m1, m2⟩ := List.pairwise_cons.1 hm
    have hab : a = b := by
      have ha := (h a).1 (by simp)
      have hb := (h b).2 (by simp)
      rcases List.mem_cons.1 ha with e | ha'
      · exact e
      · rcases List.mem_cons.1 hb with e | hb'
        · exact e.symm
        · have x1 := m1 a ha'
          have x2 := l1 b hb'
          rw [O.asymm x1] at x2; cases x2
    subst hab
    have hn : ∀ x, x ∈ l ↔ x ∈ m := by
      intro x
      constructor
      · intro hx
        rcases List.mem_cons.1 ((h x).1 (List.mem_cons_of_mem _ hx)) with e | h'
        · have := l1 x hx
          rw [e, O.irrefl] at this; cases this
        · exact h'
      · intro hx
        rcases List.mem_cons.1 ((h x).2 (List.mem_cons_of_mem _ hx)) with e | h'
        · have := m1 x hx
          rw [e, O.irrefl] at this; cases this
        · exact h'
    rw [rise_unique O l2 m2 hn]

theorem mem_putS {l : List α} {i : Nat} {x y : α} : y ∈ putS l i x ↔ y = x ∨ y ∈ l := by
  unfold putS
  constructor
  · intro h
    rcases List.mem_append.1 h with h | h
    · exact .inr (List.mem_of_mem_take h)
    · rcases List.mem_append.1 h with h | h
      · exact .inl (by simpa using h)
      · exact .inr (List.mem_of_mem_drop h)
  · rintro (rfl | h)
    · exact List.mem_append.2 (.inr (by simp))
    · rw [← List.take_append_drop i l] at h
      rcases List.mem_append.1 h with h | h
      · exact List.mem_append.2 (.inl h)
      · exact List.mem_append.2 (.inr (List.mem_append.2 (.inr h)))

theorem rise_putS (O : OrdOK lt eq) {l : List α} (hr : RiseO lt l) {x : α} (hn : ∀ y ∈ l, eq y x = false) : RiseO lt (putS l (placeO lt l x) x) := by
  have hb : ∀ y ∈ l.drop (placeO lt l x), lt x y = true := by
    intro y hy
    obtain ⟨j, hj, rfl⟩ := List.getElem_of_mem hy
    rw [List.getElem_drop]
    rw [List.length_drop] at hj
    have h1 := placeO_behind O hr (x := x) (k := placeO lt l x + j) (by omega) (by omega)
    have h2 := hn _ (List.getElem_mem (show placeO lt l x + j < l.length by omega))
    rcases O.tri l[placeO lt l x + j] x with ⟨g, _, _⟩ | ⟨_, g, _⟩ | ⟨_, _, g⟩
    · rw [h1] at g; cases g
    · exact g
    · rw [h2] at g; cases g
  have ha : ∀ y ∈ l.take (placeO lt l x), lt y x = true := by
    intro y hy
    obtain ⟨j, hj, rfl⟩ := List.getElem_of_mem hy
    rw [List.getElem_take]
    rw [List.length_take] at hj
    exact placeO_ahead (by omega)
  have hr' := hr
  unfold RiseO at hr' ⊢
  unfold putS
  rw [← List.take_append_drop (placeO lt l x) l] at hr'
  obtain ⟨h1, h2, h3⟩ := List.pairwise_append.1 hr'
  rw [List.pairwise_append]
  refine ⟨h1, ?_, ?_⟩
  · rw [List.singleton_append, List.pairwise_cons]
    exact ⟨hb, h2⟩
  · intro a ha' b hb'
    rcases List.mem_append.1 hb' with hb' | hb'
    · obtain rfl : b = x := by simpa using hb'
      exact ha a ha'
    · exact h3 a ha' b hb'

theorem rise_set (O : OrdOK lt eq) {l : List α} (hr : RiseO lt l) {x : α} {i : Nat} (hi : i < l.length) (he : eq l[i] x = true) : RiseO lt (l.set i x) := by
  unfold RiseO
  rw [List.pairwise_iff_getElem]
  intro j k hj hk hjk
  rw [List.length_set] at hj hk
  have h := rise_get hr hk hjk
  rw [List.getElem_set, List.getElem_set]
  by_cases e1 : i = j
  · rw [if_pos e1, if_neg (by omega)]
    subst e1
    rw [← (O.same _ _ _ he).1]; exact h
  · rw [if_neg e1]
    by_cases e2 : i = k
    · rw [if_pos e2]
      subst e2
      rw [← (O.same _ _ _ he).2]; exact h
    · rw [if_neg e2]; exact h

theorem mem_set_rise (O : OrdOK lt eq) {l : List α} (hr : RiseO lt l) {x y : α} {i : Nat} (hi : i < l.length) (he : eq l[i] x = true) : y ∈ l.set i x ↔ y = x ∨ (y ∈ l ∧ eq y x = false) := by
  rw [List.mem_iff_getElem]
  constructor
  · rintro ⟨j, hj, rfl⟩
    rw [List.length_set] at hj
    rw [List.getElem_set]
    by_cases e : i = j
    · rw [if_pos e]; exact .inl rfl
    · rw [if_neg e]
      refine .inr ⟨List.getElem_mem hj, ?_⟩
      rw [Bool.eq_false_iff]
      intro h
      have h2 : eq l[i] l[j] = true := O.eq_trans he (by rw [O.symm]; exact h)
      exact e (rise_one O hr hi hj h2)
  · rintro (rfl | ⟨h, hne⟩)
    · exact ⟨i, by simpa using hi, by simp⟩
    · obtain ⟨j, hj, rfl⟩ := List.getElem_of_mem h
      refine ⟨j, by simpa using hj, ?_⟩
      rw [List.getElem_set]
      by_cases e : i = j
      · subst e
        rw [he] at hne; cases hne
      · rw [if_neg e]

theorem rise_putO (O : OrdOK lt eq) {l : List α} (hr : RiseO lt l) (x : α) : RiseO lt (putO lt eq l x) := by
  unfold putO
  cases h : findO eq l x with
  | some i => obtain ⟨hi, he, _⟩ := findO_some h; exact rise_set O hr hi he
  | none => exact rise_putS O hr (findO_none h)

theorem mem_putO (O : OrdOK lt eq) {l : List α} (hr : RiseO lt l) (x y : α) : y ∈ putO lt eq l x ↔ y = x ∨ (y ∈ l ∧ eq y x = false) := by
  unfold putO
  cases h : findO eq l x with
  | some i => obtain ⟨hi, he, _⟩ := findO_some h; exact mem_set_rise O hr hi he
  | none =>
    show y ∈ putS l (placeO lt l x) x ↔ _
    rw [mem_putS]
    constructor
    · rintro (h' | h')
      · exact .inl h'
      · exact .inr ⟨h', findO_none h y h'⟩
    · rintro (h' | h')
      · exact .inl h'
      · exact .inr h'.1

theorem putO_len (l : List α) (x : α) : (putO lt eq l x).length = if (findO eq l x).isSome then l.length else l.length + 1 := by
  unfold putO
  cases findO eq l x with
  | some i => simp
  | none => simp [putS_len]

theorem rise_dropO {l : List α} (hr : RiseO lt l) (x : α) : RiseO lt (dropO eq l x) := List.Pairwise.filter _ hr

theorem mem_dropO (l : List α) (x y : α) : y ∈ dropO eq l x ↔ y ∈ l ∧ eq y x = false := by
  unfold dropO
  rw [List.mem_filter]
  simp

theorem findO_isSome {l : List α} {x : α} : (findO eq l x).isSome = l.any fun e => eq e x := by
  cases h : findO eq l x with
  | some i =>
    obtain ⟨hi, he, _⟩ := findO_some h
    symm
    show (l.any fun e => eq e x) = true
    rw [List.any_eq_true]
    exact ⟨_, List.getElem_mem hi, he⟩
  | none =>
    symm
    show l.any _ = false
    rw [List.any_eq_false]
    intro y hy
    rw [findO_none h y hy]
    simp

end

end Go.Proofs.Ytlckphdmflofgaa
end

section
/-
  PLAIN, OVER ANY ORDER OF KEYS: one walk through a list that rises, which puts one in at its place, or leaves it out (the document's set).
-/
namespace Go.Proofs.Ytlckphdmflofgaa

section
variable {α : Type} {lt eq : α → α → Bool}

/-- What is left to be told, from here on. -/
def rsO (lt eq : α → α → Bool) (x : α) : List α → Bool → List α
  | [], d => if d = true then [] else [x]
  | e :: t, d => if eq e x = true then rsO lt eq x t d else if (!d && lt x e) = true then x :: e :: rsO lt eq x t true else e :: rsO lt eq x t d

theorem rsO_drop (l : List α) (x : α) : rsO lt eq x l true = dropO eq l x := by
  induction l with
  | nil => rfl
  | cons e t ih =>
    unfold rsO dropO
    rw [List.filter_cons]
    cases h : eq e x with
    | true => simp only [if_true, ih, Bool.not_true]; rfl
    | false => simp only [Bool.not_true, Bool.false_and, Bool.false_eq_true, if_false, Bool.not_false, if_true, ih]; rfl

theorem rsO_mem (l : List α) (x y : α) : y ∈ rsO lt eq x l false ↔ y = x ∨ (y ∈ l ∧ eq y x = false) := by
  induction l with
  | nil => simp [rsO]
  | cons e t ih =>
    unfold rsO
    cases h : eq e x with
    | true =>
      rw [if_pos rfl, ih]
      constructor
      · rintro (h1 | ⟨h1, h2⟩)
        · exact .inl h1
        · exact .inr ⟨List.mem_cons_of_mem _ h1, h2⟩
      · rintro (h1 | ⟨h1, h2⟩)
        · exact .inl h1
        · rcases List.mem_cons.1 h1 with rfl | h1
          · rw [h] at h2; cases h2
          · exact .inr ⟨h1, h2⟩
    | false =>
      rw [if_neg (by simp)]
      split
      · rw [List.mem_cons, List.mem_cons, rsO_drop, mem_dropO]
        constructor
        · rintro (h1 | rfl | ⟨h1, h2⟩)
          · exact .inl h1
          · exact .inr ⟨List.mem_cons_self, h⟩
          · exact .inr ⟨List.mem_cons_of_mem _ h1, h2⟩
        · rintro (h1 | ⟨h1, h2⟩)
          · exact .inl h1
          · rcases List.mem_cons.1 h1 with rfl | h1
            · exact .inr (.inl rfl)
            · exact .inr (.inr ⟨h1, h2⟩)
      · rw [List.mem_cons, ih]
        constructor
        · rintro (rfl | h1 | ⟨h1, h2⟩)
          · exact .inr ⟨List.mem_cons_self, h⟩
          · exact .inl h1
          · exact .inr ⟨List.mem_cons_of_mem _ h1, h2⟩
        · rintro (h1 | ⟨h1, h2⟩)
          · exact .inr (.inl h1)
          · rcases List.mem_cons.1 h1 with rfl | h1
            · exact .inl rfl
            · exact .inr (.inr ⟨h1, h2⟩)

theorem rsO_rise (O : OrdOK lt eq) {l : List α} (hr : RiseO lt l) (x : α) : RiseO lt (rsO lt eq x l false) := by
  induction l with
  | nil => exact List.pairwise_singleton _ _
  | cons e t ih =>
    have hp := List.pairwise_cons.1 hr
    unfold rsO
    cases h : eq e x with
    | true => rw [if_pos rfl]; exact ih hp.2
    | false =>
      rw [if_neg (by simp)]
      cases h2 : lt x e with
      | true =>
        rw [if_pos (by simp)]
        refine List.pairwise_cons.2 ⟨fun y hy => ?_, List.pairwise_cons.2 ⟨fun y hy => ?_, ?_⟩⟩
        · rcases List.mem_cons.1 hy with rfl | hy
          · exact h2
          · rw [rsO_drop, mem_dropO] at hy
            exact O.trans _ _ _ h2 (hp.1 y hy.1)
        · rw [rsO_drop, mem_dropO] at hy
          exact hp.1 y hy.1
        · rw [rsO_drop]
          exact rise_dropO hp.2 x
      | false =>
        rw [if_neg (by simp)]
        refine List.pairwise_cons.2 ⟨fun y hy => ?_, ih hp.2⟩
        rcases (rsO_mem t x y).1 hy with rfl | ⟨hy, _⟩
        · rcases O.tri e y with ⟨h3, _, _⟩ | ⟨_, h3, _⟩ | ⟨_, _, h3⟩
          · exact h3
          · rw [h2] at h3; cases h3
          · rw [h] at h3; cases h3
        · exact hp.1 y hy

theorem rsO_put (O : OrdOK lt eq) {l : List α} (hr : RiseO lt l) (x : α) : rsO lt eq x l false = putO lt eq l x :=
  rise_unique O (rsO_rise O hr x) (rise_putO O hr x) (fun y => (rsO_mem l x y).trans (mem_putO O hr x y).symm)

end

end Go.Proofs.Ytlckphdmflofgaa
end

section
/-
  LAYER 8, PLAIN: what rosters may be, as the document asks it entry by entry, and as the code asks it: the same. Set, put and dropped.
-/
namespace Go.Proofs.Ytlckphdmflofgaa

theorem entOrd : OrdOK entLt entIs where
  irrefl := entLt_irrefl
  trans _ _ _ := entLt_trans
  tri := entLt_tri
  same _ _ _ h := entLt_same h

/-- An entry is of two names, and stands behind the one ahead (the same words as riseAt). -/
def roRiseAt (l : List Ent) (i : Nat) : Bool :=
  idIs (l.getD i Ent.zero).o && (idIs (l.getD i Ent.zero).c && (!decide ((l.getD i Ent.zero).o = (l.getD i Ent.zero).c) && (decide (i = 0) || entLt (l.getD (i - 1) Ent.zero) (l.getD i Ent.zero))))

def roIt (l : List Ent) (o c : List UInt8) : It := match l.find? fun e => entIs e ⟨o, c, It.zero⟩ with
  | some e => e.it
  | none => It.zero

/-- Has it a counterpart that it may face, and not both empty? -/
def roPaired (l : List Ent) (e : Ent) : Bool :=
  (l.any fun x => entIs x ⟨e.c, e.o, It.zero⟩) && (suMay e.it (roIt l e.c e.o) && !(suEmpty e.it && suEmpty (roIt l e.c e.o)))

def roCodeAt (l : List Ent) (i : Nat) : Bool := !roOver l i && roPaired l (l.getD i Ent.zero)

/-- The code's May. -/
def roMayC (l : List Ent) : Bool := (List.range l.length).all (roRiseAt l) && (List.range l.length).all (roCodeAt l)

def roDocAt (l : List Ent) (i : Nat) : Bool := roRiseAt l i && (decide ((roOf l (l.getD i Ent.zero).o).length ≤ 16) && roPaired l (l.getD i Ent.zero))

/-- The document's May. -/
def roMayD (l : List Ent) : Bool := (List.range l.length).all (roDocAt l)

theorem roRise_rise {l : List Ent} (h : (List.range l.length).all (roRiseAt l) = true) : Rise l := by
  rw [List.all_eq_true] at h
  have step : ∀ k, k + 1 < l.length → entLt (l.getD k Ent.zero) (l.getD (k + 1) Ent.zero) = true := by
    intro k hk
    have := h (k + 1) (List.mem_range.2 hk)
    unfold roRiseAt at this
    simp only [Bool.and_eq_true, Bool.or_eq_true, decide_eq_true_eq] at this
    rcases this.2.2.2 with h0 | h0
    · omega
    · rwa [show k + 1 - 1 = k by omega] at h0
  have far : ∀ d i, i + (d + 1) < l.length → entLt (l.getD i Ent.zero) (l.getD (i + (d + 1)) Ent.zero) = true := by
    intro d
    induction d with
    | zero => intro i hi; exact step i hi
    | succ d ih =>
      intro i hi
      exact entLt_trans (ih i (by omega)) (step (i + (d + 1)) (by omega))
  refine List.pairwise_iff_getElem.2 fun i j hi hj hij => ?_
  obtain ⟨d, rfl⟩ : ∃ d, j = i + (d + 1) := ⟨j - i - 1, by omega⟩
  have := far d i hj
  rwa [getD_at hi, getD_at hj] at this

theorem roMay_same (l : List Ent) : roMayD l = roMayC l := by
  rw [Bool.eq_iff_iff]
  unfold roMayD roMayC
  rw [Bool.and_eq_true, List.all_eq_true, List.all_eq_true, List.all_eq_true]
  constructor
  · intro h
    have h1 : ∀ i ∈ List.range l.length, roRiseAt l i = true := fun i hi => by
      have := h i hi
      unfold roDocAt at this
      simp only [Bool.and_eq_true] at this
      exact this.1
    have hr : Rise l := roRise_rise (by rw [List.all_eq_true]; exact h1)
    have hov := (over_iff hr).1 (fun i hi => by
      have := h i (List.mem_range.2 hi)
      unfold roDocAt at this
      simp only [Bool.and_eq_true, decide_eq_true_eq] at this
      exact this.2.1)
    refine ⟨h1, fun i hi => ?_⟩
    have := h i hi
    unfold roDocAt at this
    simp only [Bool.and_eq_true] at this
    unfold roCodeAt
    rw [hov i (List.mem_range.1 hi), this.2.2]
    rfl
  · rintro ⟨h1, h2⟩ i hi
    have hr : Rise l := roRise_rise (by rw [List.all_eq_true]; exact h1)
    have hov := (over_iff hr).2 (fun i hi => by
      have := h2 i (List.mem_range.2 hi)
      unfold roCodeAt at this
      simp only [Bool.and_eq_true, Bool.not_eq_true'] at this
      exact this.1)
    have hc := h2 i hi
    unfold roCodeAt at hc
    simp only [Bool.and_eq_true] at hc
    unfold roDocAt
    rw [h1 i hi, hc.2, Bool.true_and, Bool.and_true]
    simpa using hov i (List.mem_range.1 hi)

theorem roMay_rise {l : List Ent} (h : roMayC l = true) : Rise l := by
  unfold roMayC at h
  rw [Bool.and_eq_true] at h
  exact roRise_rise h.1

/-- With it at its place, or without it. -/
def roSet (l : List Ent) (x : Ent) (keep : Bool) : List Ent := rsO entLt entIs x l (!keep)

theorem roSet_keep {l : List Ent} (hr : Rise l) (x : Ent) : roSet l x true = putO entLt entIs l x := rsO_put entOrd hr x
theorem roSet_drop (l : List Ent) (x : Ent) : roSet l x false = dropO entIs l x := rsO_drop l x

theorem roSet_rise {l : List Ent} (hr : Rise l) (x : Ent) (keep : Bool) : Rise (roSet l x keep) := by
  cases keep with
  | true => rw [roSet_keep hr]; exact rise_putO entOrd hr x
  | false => rw [roSet_drop]; exact rise_dropO hr x

/-- P8.2. -/
def roDo (l : List Ent) (k : Int) (u o : List UInt8) : List Ent × Nat :=
  if (roMayC l && (idIs u && (idIs o && (!decide (u = o) && (decide (1 ≤ k) && decide (k ≤ 6)))))) = true then
    (match suAct (roIt l u o) (roIt l o u) k with
    | (a, b, e) =>
      if e ≠ 0 then (l, e)
      else if (!(l.any fun x => entIs x ⟨u, o, It.zero⟩) && (decide (16 ≤ (roOf l u).length) || decide (16 ≤ (roOf l o).length))) = true then (l, 5)
      else (roSet (roSet l ⟨u, o, a⟩ (!(suEmpty a && suEmpty b))) ⟨o, u, b⟩ (!(suEmpty a && suEmpty b)), 0))
  else (l, 1)

end Go.Proofs.Ytlckphdmflofgaa
end

section
/-
  LAYER 8, PLAIN: of rosters that may be come rosters that may be; nobody else's items turn.
-/
namespace Go.Proofs.Ytlckphdmflofgaa

/-- What rosters may be, entry by entry. -/
def RoM (l : List Ent) : Prop := Rise l ∧ ∀ e ∈ l, idIs e.o = true ∧ idIs e.c = true ∧ e.o ≠ e.c ∧ (roOf l e.o).length ≤ 16 ∧ ∃ f ∈ l, f.o = e.c ∧ f.c = e.o ∧ suMay e.it f.it = true ∧ (suEmpty e.it && suEmpty f.it) = false

theorem roIt_mem {l : List Ent} (hr : Rise l) {f : Ent} (hf : f ∈ l) : roIt l f.o f.c = f.it := by
  unfold roIt
  cases h : l.find? (fun e => entIs e ⟨f.o, f.c, It.zero⟩) with
  | none =>
    exact absurd (entIs_iff.2 ⟨rfl, rfl⟩ : entIs f ⟨f.o, f.c, It.zero⟩ = true) ((List.find?_eq_none.1 h) f hf)
  | some e =>
    have h1 := List.find?_some h
    have h2 := List.mem_of_find?_eq_some h
    have h3 : entIs e f = true := entIs_iff.2 (entIs_iff.1 h1)
    rw [rise_mem entOrd hr h2 hf h3]

theorem roIt_none {l : List Ent} {o c : List UInt8} (h : ∀ e ∈ l, ¬ (e.o = o ∧ e.c = c)) : roIt l o c = It.zero := by
  unfold roIt
  rw [List.find?_eq_none.2 (fun e he => by
    intro h'
    exact h e he (entIs_iff.1 h'))]

theorem roAny {l : List Ent} {o c : List UInt8} : (l.any fun x => entIs x ⟨o, c, It.zero⟩) = true ↔ ∃ f ∈ l, f.o = o ∧ f.c = c := by
  rw [List.any_eq_true]
  constructor
  · rintro ⟨f, hf, h⟩
    exact ⟨f, hf, entIs_iff.1 h⟩
  · rintro ⟨f, hf, h⟩
    exact ⟨f, hf, entIs_iff.2 h⟩

theorem roPaired_iff {l : List Ent} (hr : Rise l) (e : Ent) : roPaired l e = true ↔ ∃ f ∈ l, f.o = e.c ∧ f.c = e.o ∧ suMay e.it f.it = true ∧ (suEmpty e.it && suEmpty f.it) = false := by
  unfold roPaired
  rw [Bool.and_eq_true, roAny]
  constructor
  · rintro ⟨⟨f, hf, h1, h2⟩, h⟩
    rw [← h1, ← h2, roIt_mem hr hf, Bool.and_eq_true, Bool.not_eq_true'] at h
    exact ⟨f, hf, h1, h2, h.1, h.2⟩
  · rintro ⟨f, hf, h1, h2, h3, h4⟩
    refine ⟨⟨f, hf, h1, h2⟩, ?_⟩
    rw [← h1, ← h2, roIt_mem hr hf, h3, h4]
    rfl

theorem roMay_iff {l : List Ent} : roMayC l = true ↔ RoM l := by
  rw [← roMay_same]
  unfold roMayD RoM
  rw [List.all_eq_true]
  constructor
  · intro h
    have hr : Rise l := roRise_rise (by
      rw [List.all_eq_true]
      intro i hi
      have := h i hi
      unfold roDocAt at this
      rw [Bool.and_eq_true] at this
      exact this.1)
    refine ⟨hr, fun e he => ?_⟩
    obtain ⟨i, hi, rfl⟩ := List.getElem_of_mem he
    have := h i (List.mem_range.2 hi)
    unfold roDocAt roRiseAt at this
    rw [getD_at hi] at this
    simp only [Bool.and_eq_true, decide_eq_true_eq, Bool.not_eq_true', decide_eq_false_iff_not] at this
    exact ⟨this.1.1, this.1.2.1, this.1.2.2.1, this.2.1, (roPaired_iff hr _).1 this.2.2⟩
  · rintro ⟨hr, h⟩ i hi
    have hi' := List.mem_range.1 hi
    obtain ⟨h1, h2, h3, h4, h5⟩ := h _ (List.getElem_mem hi')
    unfold roDocAt roRiseAt
    rw [getD_at hi', h1, h2, (roPaired_iff hr _).2 h5]
    simp only [h3, h4, decide_true, decide_false, Bool.not_false, Bool.true_and, Bool.and_true]
    by_cases h0 : i = 0
    · simp [h0]
    · have h6 : entLt (l.getD (i - 1) Ent.zero) l[i] = true := by
        rw [getD_at (by omega)]
        exact rise_get hr hi' (by omega)
      rw [h6]
      simp

/-- How many entries one owner has. -/
def cntO (l : List Ent) (p : List UInt8) : Nat := (l.filter (ofOwner p)).length

theorem cnt_put {l : List Ent} (x : Ent) (p : List UInt8) : cntO (putO entLt entIs l x) p = cntO l p + (if (l.any fun e => entIs e x) = true then 0 else if x.o = p then 1 else 0) := by
  unfold cntO putO
  cases h : findO entIs l x with
  | some i =>
    obtain ⟨hi, he, _⟩ := findO_some h
    have ha : (l.any fun e => entIs e x) = true := by rw [List.any_eq_true]; exact ⟨_, List.getElem_mem hi, he⟩
    rw [if_pos ha]
    show ((l.set i x).filter (ofOwner p)).length = _
    rw [List.set_eq_take_append_cons_drop, if_pos hi]
    conv => rhs; rw [← List.take_append_drop i l, List.drop_eq_getElem_cons hi]
    rw [List.filter_append, List.filter_append, List.filter_cons, List.filter_cons]
    have : ofOwner p x = ofOwner p l[i] := by unfold ofOwner; rw [(entIs_iff.1 he).1]
    rw [this]
    cases ofOwner p l[i] <;> simp
  | none =>
    have ha : (l.any fun e => entIs e x) = false := by rw [List.any_eq_false]; intro e he; rw [findO_none h e he]; simp
    rw [ha, if_neg (by simp)]
    show ((putS l _ x).filter (ofOwner p)).length = _
    unfold putS
    conv => rhs; rw [← List.take_append_drop (placeO entLt l x) l]
    rw [List.filter_append, List.filter_append, List.filter_append, List.length_append, List.length_append, List.length_append]
    have : ([x].filter (ofOwner p)).length = if x.o = p then 1 else 0 := by
      unfold ofOwner
      by_cases hx : x.o = p
      · simp [hx]
      · simp [hx]
    rw [this]
    omega

theorem cnt_drop (l : List Ent) (x : Ent) (p : List UInt8) : cntO (dropO entIs l x) p ≤ cntO l p := by
  unfold cntO dropO
  rw [List.filter_filter]
  have : l.filter (fun a => ofOwner p a && !entIs a x) = (l.filter (ofOwner p)).filter (fun a => !entIs a x) := by rw [List.filter_filter]; congr 1; funext a; exact Bool.and_comm _ _
  rw [this]
  exact List.length_filter_le _ _

theorem roOf_cnt (l : List Ent) (p : List UInt8) : (roOf l p).length = cntO l p := roOf_len l p

theorem roDo_ok {l m : List Ent} {k : Int} {u o : List UInt8} (h : roDo l k u o = (m, 0)) : RoM l ∧ idIs u = true ∧ idIs o = true ∧ u ≠ o ∧ 1 ≤ k ∧ k ≤ 6 ∧
    ∃ a b, suAct (roIt l u o) (roIt l o u) k = (a, b, 0) ∧ ((∃ f ∈ l, f.o = u ∧ f.c = o) ∨ ((roOf l u).length < 16 ∧ (roOf l o).length < 16)) ∧
    m = roSet (roSet l ⟨u, o, a⟩ (!(suEmpty a && suEmpty b))) ⟨o, u, b⟩ (!(suEmpty a && suEmpty b)) := by
  unfold roDo at h
  split at h
  · next hc =>
    simp only [Bool.and_eq_true, Bool.not_eq_true', decide_eq_true_eq, decide_eq_false_iff_not] at hc
    obtain ⟨⟨a, b⟩, e, hx⟩ : ∃ p e, suAct (roIt l u o) (roIt l o u) k = (p.1, p.2, e) := ⟨(_, _), _, rfl⟩
    simp only at hx
    rw [hx] at h
    simp only at h
    split at h
    · next he => simp only [Prod.mk.injEq] at h; exact absurd h.2 he
    · next he =>
      have he : e = 0 := by simpa using he
      subst he
      split at h
      · simp at h
      · next hf =>
        simp only [Prod.mk.injEq, and_true] at h
        refine ⟨roMay_iff.1 hc.1, hc.2.1, hc.2.2.1, hc.2.2.2.1, hc.2.2.2.2.1, hc.2.2.2.2.2, a, b, hx, ?_, h.symm⟩
        simp only [Bool.and_eq_true, Bool.not_eq_true', Bool.or_eq_true, decide_eq_true_eq] at hf
        by_cases ha : (l.any fun x => entIs x ⟨u, o, It.zero⟩) = true
        · exact .inl (roAny.1 ha)
        · exact .inr (by
            rw [Bool.not_eq_true] at ha
            have : ¬ (16 ≤ (roOf l u).length ∨ 16 ≤ (roOf l o).length) := fun h' => hf ⟨ha, h'⟩
            omega)
  · simp at h

/-- Who stands in it then. -/
theorem roSet_mem {l : List Ent} (hr : Rise l) {u o : List UInt8} (huo : u ≠ o) (a b : It) (keep : Bool) (y : Ent) :
    y ∈ roSet (roSet l ⟨u, o, a⟩ keep) ⟨o, u, b⟩ keep ↔ (keep = true ∧ (y = ⟨u, o, a⟩ ∨ y = ⟨o, u, b⟩)) ∨ (y ∈ l ∧ ¬ (y.o = u ∧ y.c = o) ∧ ¬ (y.o = o ∧ y.c = u)) := by
  have e1 : ∀ z : Ent, ∀ p q : List UInt8, ∀ i : It, entIs z ⟨p, q, i⟩ = false ↔ ¬ (z.o = p ∧ z.c = q) := fun z p q i => by
    rw [Bool.eq_false_iff, Ne, entIs_iff]
  cases keep with
  | true =>
    rw [roSet_keep (roSet_rise hr _ _), mem_putO entOrd (roSet_rise hr _ _), roSet_keep hr, mem_putO entOrd hr, e1, e1]
    constructor
    · rintro (h | ⟨h | ⟨h1, h2⟩, h3⟩)
      · exact .inl ⟨rfl, .inr h⟩
      · exact .inl ⟨rfl, .inl h⟩
      · exact .inr ⟨h1, h2, h3⟩
    · rintro (⟨_, h | h⟩ | ⟨h1, h2, h3⟩)
      · exact .inr ⟨.inl h, by rw [h]; exact fun h' => huo h'.1⟩
      · exact .inl h
      · exact .inr ⟨.inr ⟨h1, h2⟩, h3⟩
  | false =>
    rw [roSet_drop, mem_dropO, roSet_drop, mem_dropO, e1, e1]
    constructor
    · rintro ⟨⟨h1, h2⟩, h3⟩
      exact .inr ⟨h1, h2, h3⟩
    · rintro (⟨h, _⟩ | ⟨h1, h2, h3⟩)
      · cases h
      · exact ⟨⟨h1, h2⟩, h3⟩

/-- P8.4: of rosters that may be come rosters that may be. -/
theorem roDo_may {l m : List Ent} {k : Int} {u o : List UInt8} (h : roDo l k u o = (m, 0)) : RoM m := by
  obtain ⟨⟨hr, hl⟩, hu, ho, huo, hk1, hk6, a, b, hx, hfull, rfl⟩ := roDo_ok h
  have hmay := (suAct_may hx).1
  have hmay' : suMay b a = true := (suMay_comm b a).trans hmay
  obtain ⟨keep, hk⟩ : ∃ keep, (!(suEmpty a && suEmpty b)) = keep := ⟨_, rfl⟩
  rw [hk]
  have hmem := roSet_mem hr huo a b keep
  have hrm : Rise (roSet (roSet l ⟨u, o, a⟩ keep) ⟨o, u, b⟩ keep) := roSet_rise (roSet_rise hr _ _) _ _
  have hpair : (∃ f ∈ l, f.o = u ∧ f.c = o) → ∃ f ∈ l, f.o = o ∧ f.c = u := by
    rintro ⟨f, hf, h1, h2⟩
    obtain ⟨_, _, _, _, g, hg, g1, g2, _⟩ := hl f hf
    exact ⟨g, hg, by rw [g1, h2], by rw [g2, h1]⟩
  have hcnt : ∀ p, (∃ y ∈ l, y.o = p) ∨ (keep = true ∧ (p = u ∨ p = o)) → (roOf (roSet (roSet l ⟨u, o, a⟩ keep) ⟨o, u, b⟩ keep) p).length ≤ 16 := by
    intro p hp
    rw [roOf_cnt]
    have hin : (∃ y ∈ l, y.o = p) → cntO l p ≤ 16 := by
      rintro ⟨y, hy, rfl⟩
      have := (hl y hy).2.2.2.1
      rwa [roOf_cnt] at this
    cases keep with
    | false =>
      rw [roSet_drop, roSet_drop]
      rcases hp with hp | ⟨hp, _⟩
      · exact Nat.le_trans (cnt_drop _ _ _) (Nat.le_trans (cnt_drop _ _ _) (hin hp))
      · cases hp
    | true =>
      rw [roSet_keep (roSet_rise hr _ _), cnt_put, roSet_keep hr, cnt_put]
      by_cases hthere : ∃ f ∈ l, f.o = u ∧ f.c = o
      · have a1 : (l.any fun e => entIs e ⟨u, o, a⟩) = true := by
          obtain ⟨f, hf, h1⟩ := hthere
          rw [List.any_eq_true]
          exact ⟨f, hf, entIs_iff.2 h1⟩
        have a2 : ((putO entLt entIs l ⟨u, o, a⟩).any fun e => entIs e ⟨o, u, b⟩) = true := by
          obtain ⟨f, hf, h1, h2⟩ := hpair hthere
          rw [List.any_eq_true]
          refine ⟨f, (mem_putO entOrd hr _ _).2 (.inr ⟨hf, ?_⟩), entIs_iff.2 ⟨h1, h2⟩⟩
          rw [Bool.eq_false_iff, Ne, entIs_iff]
          exact fun h' => huo (h'.1.symm.trans h1)
        rw [a1, a2]
        simp only [if_true, Nat.add_zero]
        rcases hp with hp | ⟨_, rfl | rfl⟩
        · exact hin hp
        · obtain ⟨f, hf, h1, _⟩ := hthere
          exact hin ⟨f, hf, h1⟩
        · obtain ⟨f, hf, h1, _⟩ := hpair hthere
          exact hin ⟨f, hf, h1⟩
      · have hlt := hfull.resolve_left hthere
        rw [roOf_cnt, roOf_cnt] at hlt
        have hb1 : ∀ (q : Bool), (if q = true then 0 else if (⟨u, o, a⟩ : Ent).o = p then 1 else 0) ≤ (if u = p then 1 else 0 : Nat) := fun q => by cases q <;> simp
        have hb2 : ∀ (q : Bool), (if q = true then 0 else if (⟨o, u, b⟩ : Ent).o = p then 1 else 0) ≤ (if o = p then 1 else 0 : Nat) := fun q => by cases q <;> simp
        have c1 := hb1 (l.any fun e => entIs e ⟨u, o, a⟩)
        have c2 := hb2 ((putO entLt entIs l ⟨u, o, a⟩).any fun e => entIs e ⟨o, u, b⟩)
        refine Nat.le_trans (Nat.add_le_add (Nat.add_le_add_left c1 _) c2) ?_
        by_cases hpu : u = p
        · subst hpu
          rw [if_pos rfl, if_neg (fun e => huo e.symm)]
          omega
        · by_cases hpo : o = p
          · subst hpo
            rw [if_neg hpu, if_pos rfl]
            omega
          · rw [if_neg hpu, if_neg hpo]
            rcases hp with hp | ⟨_, rfl | rfl⟩
            · exact hin hp
            · exact absurd rfl hpu
            · exact absurd rfl hpo
  refine ⟨hrm, fun y hy => ?_⟩
  have hne : keep = true → (suEmpty a && suEmpty b) = false := fun hkt => by rw [hkt, Bool.not_eq_true'] at hk; exact hk
  rcases (hmem y).1 hy with ⟨hkt, rfl | rfl⟩ | ⟨h1, h2, h3⟩
  · exact ⟨hu, ho, huo, hcnt _ (.inr ⟨hkt, .inl rfl⟩), ⟨o, u, b⟩, (hmem _).2 (.inl ⟨hkt, .inr rfl⟩), rfl, rfl, hmay, hne hkt⟩
  · exact ⟨ho, hu, fun e => huo e.symm, hcnt _ (.inr ⟨hkt, .inr rfl⟩), ⟨u, o, a⟩, (hmem _).2 (.inl ⟨hkt, .inl rfl⟩), rfl, rfl, hmay', by rw [Bool.and_comm]; exact hne hkt⟩
  · obtain ⟨i1, i2, i3, i4, f, hf, f1, f2, f3, f4⟩ := hl y h1
    refine ⟨i1, i2, i3, hcnt _ (.inl ⟨y, h1, rfl⟩), f, (hmem f).2 (.inr ⟨hf, ?_, ?_⟩), f1, f2, f3, f4⟩
    · rintro ⟨g1, g2⟩
      exact h3 ⟨f2.symm.trans g2, f1.symm.trans g1⟩
    · rintro ⟨g1, g2⟩
      exact h2 ⟨f2.symm.trans g2, f1.symm.trans g1⟩

/-- .. what anyone else has on anyone stays. -/
theorem roDo_other {l m : List Ent} {k : Int} {u o : List UInt8} (h : roDo l k u o = (m, 0)) {p q : List UInt8} (h1 : ¬ (p = u ∧ q = o)) (h2 : ¬ (p = o ∧ q = u)) : roIt m p q = roIt l p q := by
  have hm := (roDo_may h).1
  obtain ⟨⟨hr, hl⟩, hu, ho, huo, hk1, hk6, a, b, hx, hfull, rfl⟩ := roDo_ok h
  have hmem := roSet_mem hr huo a b (!(suEmpty a && suEmpty b))
  by_cases hf : ∃ f ∈ l, f.o = p ∧ f.c = q
  · obtain ⟨f, hf, rfl, rfl⟩ := hf
    rw [roIt_mem hr hf, roIt_mem hm ((hmem f).2 (.inr ⟨hf, h1, h2⟩))]
  · rw [roIt_none (fun e he h' => hf ⟨e, he, h'⟩), roIt_none]
    intro e he h'
    rcases (hmem e).1 he with ⟨_, rfl | rfl⟩ | ⟨h3, _⟩
    · exact h1 ⟨h'.1.symm, h'.2.symm⟩
    · exact h2 ⟨h'.1.symm, h'.2.symm⟩
    · exact hf ⟨e, h3, h'⟩

theorem roDo_err {l m : List Ent} {k : Int} {u o : List UInt8} {e : Nat} (h : roDo l k u o = (m, e)) (he : e ≠ 0) : m = l := by
  unfold roDo at h
  split at h
  · obtain ⟨⟨a, b⟩, e', hx⟩ : ∃ p e, suAct (roIt l u o) (roIt l o u) k = (p.1, p.2, e) := ⟨(_, _), _, rfl⟩
    simp only at hx
    rw [hx] at h
    simp only at h
    split at h
    · simp only [Prod.mk.injEq] at h; exact h.1.symm
    · split at h
      · simp only [Prod.mk.injEq] at h; exact h.1.symm
      · simp only [Prod.mk.injEq] at h; exact absurd h.2.symm he
  · simp only [Prod.mk.injEq] at h; exact h.1.symm

end Go.Proofs.Ytlckphdmflofgaa
end

section
/-
  LAYER 8, PLAIN: who watches.
-/
namespace Go.Proofs.Ytlckphdmflofgaa

/-- Of an Owner, or on a Contact. -/
def roNearB (c : List UInt8) (e : Ent) : Bool := decide (e.o = c) || decide (e.c = c)

def roNear (l : List Ent) (c : List UInt8) : List Ent := l.filter (roNearB c)

/-- An entry of one who sees c. -/
def roWB (l : List Ent) (c : List UInt8) (e : Ent) : Bool := decide (e.c = c) && suSees e.it (roIt l c e.o)

def roWat (l : List Ent) (c : List UInt8) : List (List UInt8) := (l.filter (roWB l c)).map (·.o)

theorem roNear_rise {l : List Ent} (hr : Rise l) (c : List UInt8) : Rise (roNear l c) := List.Pairwise.filter _ hr

theorem roIt_near (l : List Ent) (c o : List UInt8) : roIt (roNear l c) c o = roIt l c o := by
  unfold roIt roNear
  rw [List.find?_filter]
  congr 1
  congr 1
  funext e
  unfold roNearB
  cases h : entIs e ⟨c, o, It.zero⟩ with
  | false => simp
  | true =>
    have := (entIs_iff.1 h).1
    simp only at this
    simp [this]

theorem roWB_near (l : List Ent) (c : List UInt8) : roWB (roNear l c) c = roWB l c := by
  funext e
  unfold roWB
  rw [roIt_near]

theorem roWat_near (l : List Ent) (c : List UInt8) : ((roNear l c).filter (roWB (roNear l c) c)).map (·.o) = roWat l c := by
  rw [roWB_near]
  unfold roWat roNear
  rw [List.filter_filter]
  congr 1
  congr 1
  funext e
  unfold roWB roNearB
  by_cases h : e.c = c <;> simp [h]

/-- Owners of entries on one Contact rise. -/
theorem roWat_rise {l : List Ent} (hr : Rise l) (c : List UInt8) : (roWat l c).Pairwise fun a b => idLess a b = true := by
  unfold roWat
  rw [List.pairwise_map]
  have h : (l.filter (roWB l c)).Pairwise fun a b => entLt a b = true := List.Pairwise.filter _ hr
  refine List.Pairwise.imp_of_mem ?_ h
  intro a b ha hb hlt
  rw [List.mem_filter] at ha hb
  have h1 : a.c = c := by
    have := ha.2
    unfold roWB at this
    rw [Bool.and_eq_true, decide_eq_true_eq] at this
    exact this.1
  have h2 : b.c = c := by
    have := hb.2
    unfold roWB at this
    rw [Bool.and_eq_true, decide_eq_true_eq] at this
    exact this.1
  unfold entLt at hlt
  rw [h1, h2, idLess_irrefl] at hlt
  simpa using hlt

theorem roNear_next {l : List Ent} {c : List UInt8} {k : Nat} (hk : k < l.length) {e : Ent} (he : l.getD k Ent.zero = e) : roNear (l.take (k + 1)) c = if roNearB c e = true then roNear (l.take k) c ++ [e] else roNear (l.take k) c := by
  unfold roNear
  rw [List.take_succ_eq_append_getElem hk, ← getD_at hk, he, List.filter_append]
  cases h : roNearB c e <;> simp [h]

/-- The owners so far. -/
def roWats (l : List Ent) (c : List UInt8) (k : Nat) : List (List UInt8) := ((l.take k).filter (roWB l c)).map (·.o)

theorem roWats_next {l : List Ent} {c : List UInt8} {k : Nat} (hk : k < l.length) {e : Ent} (he : l.getD k Ent.zero = e) : roWats l c (k + 1) = if roWB l c e = true then roWats l c k ++ [e.o] else roWats l c k := by
  unfold roWats
  rw [List.take_succ_eq_append_getElem hk, ← getD_at hk, he, List.filter_append, List.map_append]
  cases h : roWB l c e <;> simp [h]

theorem roWats_le (l : List Ent) (c : List UInt8) (k : Nat) : (roWats l c k).length ≤ l.length := by
  unfold roWats
  rw [List.length_map]
  refine Nat.le_trans (List.length_filter_le _ _) ?_
  rw [List.length_take]
  omega

theorem roWats_all (l : List Ent) (c : List UInt8) : roWats (roNear l c) c (roNear l c).length = roWat l c := by
  unfold roWats
  rw [List.take_length]
  exact roWat_near l c

end Go.Proofs.Ytlckphdmflofgaa
end

section
/-
  MAPS FROM NUMBERS TO FUNCTIONS THAT THE CALL HAS MADE.
-/
namespace Go.Proofs.Ytlckphdmflofgaa
open Go.RowKit Go.ChangeMaps Go.MapKept

def fnVal : Option (Int × Nat) → Value
  | some x => .func (.func x.2) #[] #[]
  | none => .nilFunc

def fnData : Option (Int × Nat) → DataW Unit
  | some x => .lit (.int .i64 x.2)
  | none => .lit (.bool false)

def fnElem : Value → Option (DataW Unit × List MemPlace)
  | .func (.func f) ⟨[]⟩ ⟨[]⟩ => some (.lit (.int .i64 f), [])
  | .nilFunc => some (.lit (.bool false), [])
  | _ => none

theorem fnElem_inv {v : Value} {z : DataW Unit × List MemPlace} (h : fnElem v = some z) (o : Option (Int × Nat)) (hz : z.1 = fnData o) : v = fnVal o := by
  unfold fnElem at h
  split at h
  · rename_i f
    obtain rfl := (Option.some.inj h).symm
    cases o with
    | none => simp [fnData] at hz
    | some x =>
      obtain ⟨k, g⟩ := x
      simp [fnData] at hz
      obtain rfl := Int.ofNat.inj hz
      rfl
  · obtain rfl := (Option.some.inj h).symm
    cases o with
    | none => rfl
    | some x => simp [fnData] at hz
  · cases h

/-- Block B is a map that holds these functions, the latest one first. -/
def FnMap (w : World) (B : Nat) (l : List (Int × Nat)) : Prop :=
  ∃ D : DataW Unit, w.ownsMap Try.prog 3 fnElem B l.length D ∧
    ∀ k : Int, Maps.has D (.int .i64 k) = l.any (fun x => x.1 == k) ∧ D.atKey (.int .i64 k) (.lit (.bool false)) = fnData (l.find? fun x => x.1 == k)

theorem fnMap_made (w : World) : FnMap (w.alloc (.map #[] 0)) w.heap.size [] :=
  ⟨.map [], World.ownsMap_made w _ _ _, fun _ => ⟨rfl, rfl⟩⟩

theorem FnMap.lt {w : World} {B : Nat} {l : List (Int × Nat)} (h : FnMap w B l) : B < w.heap.size := by
  obtain ⟨_, h, _⟩ := h
  exact h.lt

theorem FnMap.later {w w' : World} {B : Nat} {l : List (Int × Nat)} (h : FnMap w B l) (hb : Below w.heap.size w w') : FnMap w' B l := by
  have hlt := h.lt
  obtain ⟨D, ⟨es, clock, h2, h3, h4, h5⟩, h6⟩ := h
  exact ⟨D, ⟨es, clock, (hb.block B hlt).trans h2, h3, h4, h5⟩, h6⟩

end Go.Proofs.Ytlckphdmflofgaa
end

section
/-
  A MAP FROM NUMBERS TO FUNCTIONS THAT THE CALL HAS MADE; THE CONTRACT OF subs.kinds.
-/
namespace Go.Proofs.Ytlckphdmflofgaa
open Go.RowKit Go.ChangeMaps Go.MapKept

theorem zeroFn (w : World) : (zeroValue 92).run Try.prog w = .ok .nilFunc w := by kernel_rfl

theorem FnMap.look {w : World} {B : Nat} {l : List (Int × Nat)} (h : FnMap w B l) (k : Int) (hk : (Lit.int .i64 k).wf = true) :
    (Instr.lookup 94 (.map (some B)) (.int .i64 k) true).run Try.prog w = .ok (.tuple #[fnVal (l.find? fun x => x.1 == k), .bool (l.any fun x => x.1 == k)]) w := by
  obtain ⟨D, h2, h3⟩ := h
  obtain ⟨v, ps, hrun, hv⟩ := h2.look_ok (Maps.int_keyed Try.underlying3) Try.underlying94 (zeroFn w) (show fnElem .nilFunc = some (.lit (.bool false), []) from rfl) (Maps.keyOf_int_mk Try.underlying3 hk)
  rw [(h3 k).2] at hv
  rw [fnElem_inv hv _ rfl, (h3 k).1] at hrun
  exact hrun

/-- 'm[k] = f'. -/
theorem wpList_fn {w : World} {ops : Array Oper} {rest : List Oper} {o : Oper} {a : Act} {Q : Exit → Act → World → Prop}
    (hg : o.guard = none) (m x v : Operand) (hop : o.op = Op.insert 94 m x v) (B : Nat) (l : List (Int × Nat)) (hm : a.eval m = .map (some B)) (hown : FnMap w B l) (hl : l.length ≤ 100)
    (k : Int) (hk : (Lit.int .i64 k).wf = true) (f : Nat) (hx : a.eval x = .int .i64 k) (hv : a.eval v = .func (.func f) #[] #[])
    (hK : ∀ w', FnMap w' B ((k, f) :: l) → w.grownBy w' (some B) → wpList Try.prog ops Q rest (a.put o.dst undef) w') :
    wpList Try.prog ops Q (o :: rest) a w := by
  obtain ⟨D, h2, h3⟩ := hown
  refine wpList_plain hg fun K' hK' => ?_
  obtain ⟨w', hrun, h6, h7⟩ := h2.update (Maps.int_keyed Try.underlying3) Try.underlying94 (by unfold maxLen; omega) (Maps.keyOf_int_mk Try.underlying3 hk) (show fnElem (.func (.func f) #[] #[]) = some (.lit (.int .i64 f), []) from rfl)
  unfold Oper.wp
  simp [execOp, hop, hm, hx, hv, hrun, Result.andThen]
  refine hK' _ _ ?_
  have hT := h2.tidy (Maps.int_keyed Try.underlying3)
  refine hK w' ⟨_, h6, fun y => ?_⟩ h7
  by_cases e : y = k
  · subst e
    rw [Maps.has_put_same hT.isMap (show WideAt.IsKeyLit (.int .i64 y) from True.intro), Maps.atKey_put_same hT.isMap (show WideAt.IsKeyLit (.int .i64 y) from True.intro)]
    simp [fnData]
  · have hne : (Lit.int .i64 y) ≠ .int .i64 k := fun h => e (by injection h)
    rw [Maps.has_put_other hne, Maps.atKey_put_other hne, (h3 y).1, (h3 y).2]
    have e' : (k == y) = false := by simpa using fun h => e h.symm
    simp [e']

def kindFns : List (Int × Nat) := [(6, 76), (5, 75), (4, 74), (3, 73), (2, 72), (1, 71)]

set_option maxHeartbeats 800000 in
set_option maxRecDepth 100000 in
theorem kinds_any (w : World) : Calls Try.prog 58 #[] w fun e w' => e = .returned (.map (some w.heap.size)) ∧ FnMap w' w.heap.size kindFns ∧ Below w.heap.size w w' := by
  have hmm := fun w => run_makeMap (P := Try.prog) 94 w
  have H0 := Lib.hid (fnMap_made w)
  have B0 : Hid (Below w.heap.size w (w.alloc (.map #[] 0))) := Lib.hid ((Below.refl _ _).alloc (Nat.le_refl _) _)
  go_enter Try.func58, Try.ntmps58
  go_wp2_with (first
    | (refine wpList_fn rfl _ _ _ rfl w.heap.size [] rfl H0.out (by decide) 1 (by decide) 71 rfl rfl ?_; intro w1 h g; (have H1 := Lib.hid h); (have B1 : Hid (Below w.heap.size w w1) := Lib.hid (B0.out.grown g B0.out.size (by intro k hk; injection hk with hk; omega))); clear h g H0)
    | (refine wpList_fn rfl _ _ _ rfl w.heap.size [(1, 71)] rfl H1.out (by decide) 2 (by decide) 72 rfl rfl ?_; intro w2 h g; (have H2 := Lib.hid h); (have B2 : Hid (Below w.heap.size w w2) := Lib.hid (B1.out.grown g B1.out.size (by intro k hk; injection hk with hk; omega))); clear h g H1)
    | (refine wpList_fn rfl _ _ _ rfl w.heap.size [(2, 72), (1, 71)] rfl H2.out (by decide) 3 (by decide) 73 rfl rfl ?_; intro w3 h g; (have H3 := Lib.hid h); (have B3 : Hid (Below w.heap.size w w3) := Lib.hid (B2.out.grown g B2.out.size (by intro k hk; injection hk with hk; omega))); clear h g H2)
    | (refine wpList_fn rfl _ _ _ rfl w.heap.size [(3, 73), (2, 72), (1, 71)] rfl H3.out (by decide) 4 (by decide) 74 rfl rfl ?_; intro w4 h g; (have H4 := Lib.hid h); (have B4 : Hid (Below w.heap.size w w4) := Lib.hid (B3.out.grown g B3.out.size (by intro k hk; injection hk with hk; omega))); clear h g H3)
    | (refine wpList_fn rfl _ _ _ rfl w.heap.size [(4, 74), (3, 73), (2, 72), (1, 71)] rfl H4.out (by decide) 5 (by decide) 75 rfl rfl ?_; intro w5 h g; (have H5 := Lib.hid h); (have B5 : Hid (Below w.heap.size w w5) := Lib.hid (B4.out.grown g B4.out.size (by intro k hk; injection hk with hk; omega))); clear h g H4)
    | (refine wpList_fn rfl _ _ _ rfl w.heap.size [(5, 75), (4, 74), (3, 73), (2, 72), (1, 71)] rfl H5.out (by decide) 6 (by decide) 76 rfl rfl ?_; intro w6 h g; (have H6 := Lib.hid h); (have B6 : Hid (Below w.heap.size w w6) := Lib.hid (B5.out.grown g B5.out.size (by intro k hk; injection hk with hk; omega))); clear h g H5))
  go_ret
  exact ⟨rfl, H6.out, B6.out⟩

end Go.Proofs.Ytlckphdmflofgaa
end

section
/-
  THE CONTRACTS OF WHAT IS DONE TO A PAIR OF ITEMS, kind by kind.
-/
namespace Go.Proofs.Ytlckphdmflofgaa
open Go.RowKit

/-- A pair as a value. -/
def prV (a b : It) : Value := .agg #[.bool a.to, .bool a.fr, .bool a.out, .bool a.inn, .bool a.bl, .bool b.to, .bool b.fr, .bool b.out, .bool b.inn, .bool b.bl]

/-- What is told of a pair and an error. -/
def prE (r : It × It × Nat) : Value := .tuple #[prV r.1 r.2.1, .int .i64 r.2.2]

set_option maxHeartbeats 1600000 in
set_option maxRecDepth 100000 in
theorem subscribe_any (a1 a2 a3 a4 a5 b1 b2 b3 b4 b5 : Bool) (w : World) :
    Calls Try.prog 71 #[.agg #[.bool a1, .bool a2, .bool a3, .bool a4, .bool a5, .bool b1, .bool b2, .bool b3, .bool b4, .bool b5]] w fun e w' => e = .returned (prE (suDo ⟨a1, a2, a3, a4, a5⟩ ⟨b1, b2, b3, b4, b5⟩ 1)) ∧ Below w.heap.size w w' := by
  cases a5 <;> cases b5 <;> cases a1 <;> cases a3
  all_goals
    go_enter Try.func71, Try.ntmps71
    go_wp2
    refine bodyPost_ret (v := _) (by simp [results, Try.results71, go_sem]; rfl) rfl ⟨rfl, ?_⟩
    repeat (first | exact Below.refl _ _ | refine Below.setCell ?_ (by first | (simp; done) | (simp; omega)) _ | refine Below.alloc ?_ (by first | (simp; done) | (simp; omega)) _)

set_option maxHeartbeats 1600000 in
set_option maxRecDepth 100000 in
theorem subscribed_any (a1 a2 a3 a4 a5 b1 b2 b3 b4 b5 : Bool) (w : World) :
    Calls Try.prog 72 #[.agg #[.bool a1, .bool a2, .bool a3, .bool a4, .bool a5, .bool b1, .bool b2, .bool b3, .bool b4, .bool b5]] w fun e w' => e = .returned (prE (suDo ⟨a1, a2, a3, a4, a5⟩ ⟨b1, b2, b3, b4, b5⟩ 2)) ∧ Below w.heap.size w w' := by
  cases a5 <;> cases b5 <;> cases a4
  all_goals
    go_enter Try.func72, Try.ntmps72
    go_wp2
    refine bodyPost_ret (v := _) (by simp [results, Try.results72, go_sem]; rfl) rfl ⟨rfl, ?_⟩
    repeat (first | exact Below.refl _ _ | refine Below.setCell ?_ (by first | (simp; done) | (simp; omega)) _ | refine Below.alloc ?_ (by first | (simp; done) | (simp; omega)) _)

set_option maxHeartbeats 1600000 in
set_option maxRecDepth 100000 in
theorem unsubscribe_any (a1 a2 a3 a4 a5 b1 b2 b3 b4 b5 : Bool) (w : World) :
    Calls Try.prog 73 #[.agg #[.bool a1, .bool a2, .bool a3, .bool a4, .bool a5, .bool b1, .bool b2, .bool b3, .bool b4, .bool b5]] w fun e w' => e = .returned (prE (suDo ⟨a1, a2, a3, a4, a5⟩ ⟨b1, b2, b3, b4, b5⟩ 3)) ∧ Below w.heap.size w w' := by
  cases a1 <;> cases a3
  all_goals
    go_enter Try.func73, Try.ntmps73
    go_wp2
    refine bodyPost_ret (v := _) (by simp [results, Try.results73, go_sem]; rfl) rfl ⟨rfl, ?_⟩
    repeat (first | exact Below.refl _ _ | refine Below.setCell ?_ (by first | (simp; done) | (simp; omega)) _ | refine Below.alloc ?_ (by first | (simp; done) | (simp; omega)) _)

set_option maxHeartbeats 1600000 in
set_option maxRecDepth 100000 in
theorem unsubscribed_any (a1 a2 a3 a4 a5 b1 b2 b3 b4 b5 : Bool) (w : World) :
    Calls Try.prog 74 #[.agg #[.bool a1, .bool a2, .bool a3, .bool a4, .bool a5, .bool b1, .bool b2, .bool b3, .bool b4, .bool b5]] w fun e w' => e = .returned (prE (suDo ⟨a1, a2, a3, a4, a5⟩ ⟨b1, b2, b3, b4, b5⟩ 4)) ∧ Below w.heap.size w w' := by
  cases a2 <;> cases a4
  all_goals
    go_enter Try.func74, Try.ntmps74
    go_wp2
    refine bodyPost_ret (v := _) (by simp [results, Try.results74, go_sem]; rfl) rfl ⟨rfl, ?_⟩
    repeat (first | exact Below.refl _ _ | refine Below.setCell ?_ (by first | (simp; done) | (simp; omega)) _ | refine Below.alloc ?_ (by first | (simp; done) | (simp; omega)) _)

set_option maxHeartbeats 1600000 in
set_option maxRecDepth 100000 in
theorem block_any (a1 a2 a3 a4 a5 b1 b2 b3 b4 b5 : Bool) (w : World) :
    Calls Try.prog 75 #[.agg #[.bool a1, .bool a2, .bool a3, .bool a4, .bool a5, .bool b1, .bool b2, .bool b3, .bool b4, .bool b5]] w fun e w' => e = .returned (prE (suDo ⟨a1, a2, a3, a4, a5⟩ ⟨b1, b2, b3, b4, b5⟩ 5)) ∧ Below w.heap.size w w' := by
  cases a5
  all_goals
    go_enter Try.func75, Try.ntmps75
    go_wp2
    refine bodyPost_ret (v := _) (by simp [results, Try.results75, go_sem]; rfl) rfl ⟨rfl, ?_⟩
    repeat (first | exact Below.refl _ _ | refine Below.setCell ?_ (by first | (simp; done) | (simp; omega)) _ | refine Below.alloc ?_ (by first | (simp; done) | (simp; omega)) _)

set_option maxHeartbeats 1600000 in
set_option maxRecDepth 100000 in
theorem unblock_any (a1 a2 a3 a4 a5 b1 b2 b3 b4 b5 : Bool) (w : World) :
    Calls Try.prog 76 #[.agg #[.bool a1, .bool a2, .bool a3, .bool a4, .bool a5, .bool b1, .bool b2, .bool b3, .bool b4, .bool b5]] w fun e w' => e = .returned (prE (suDo ⟨a1, a2, a3, a4, a5⟩ ⟨b1, b2, b3, b4, b5⟩ 6)) ∧ Below w.heap.size w w' := by
  cases a5
  all_goals
    go_enter Try.func76, Try.ntmps76
    go_wp2
    refine bodyPost_ret (v := _) (by simp [results, Try.results76, go_sem]; rfl) rfl ⟨rfl, ?_⟩
    repeat (first | exact Below.refl _ _ | refine Below.setCell ?_ (by first | (simp; done) | (simp; omega)) _ | refine Below.alloc ?_ (by first | (simp; done) | (simp; omega)) _)

end Go.Proofs.Ytlckphdmflofgaa
end

section
/-
  WHETHER TWO ITEMS ARE THE SAME: the model's word on it.
-/
namespace Go.Proofs.Ytlckphdmflofgaa
open Go.RowKit

def itSame (a b : It) : Bool := a.to == b.to && (a.fr == b.fr && (a.out == b.out && (a.inn == b.inn && a.bl == b.bl)))

theorem item_eqIn (d : Nat) (a1 a2 a3 a4 a5 b1 b2 b3 b4 b5 : Bool) (w : World) :
    (Op.equalIn (d + 1 + 1) 68 (.agg #[.bool a1, .bool a2, .bool a3, .bool a4, .bool a5]) (.agg #[.bool b1, .bool b2, .bool b3, .bool b4, .bool b5])).run Try.prog w = .ok (itSame ⟨a1, a2, a3, a4, a5⟩ ⟨b1, b2, b3, b4, b5⟩) w := by
  have hS : Try.prog.underlying 68 = some (.struct (Try.prog.fieldsOf 68)) := by kernel_rfl
  have hp : Try.prog.stoodInHeld 68 = false := by kernel_rfl
  have u4 := Try.underlying4
  have a4' := Try.isAgg4
  have z4 := Try.sizeOf4
  rw [run_equalIn_agg w (d + 1) 68 _ _ hS hp]
  simp only [Program.fieldsOf, Try.underlying68]
  clear hS hp
  go_simp
  unfold itSame
  cases a1 <;> cases b1 <;> try (simp; done)
  all_goals (cases a2 <;> cases b2 <;> try (simp; done))
  all_goals (cases a3 <;> cases b3 <;> try (simp; done))
  all_goals (cases a4 <;> cases b4 <;> try (simp; done))
  all_goals (cases a5 <;> cases b5 <;> simp)

theorem item_eql (a1 a2 a3 a4 a5 b1 b2 b3 b4 b5 : Bool) (w : World) :
    (binOp .eql 68 (.agg #[.bool a1, .bool a2, .bool a3, .bool a4, .bool a5]) (.agg #[.bool b1, .bool b2, .bool b3, .bool b4, .bool b5])).run Try.prog w = .ok (.bool (itSame ⟨a1, a2, a3, a4, a5⟩ ⟨b1, b2, b3, b4, b5⟩)) w := by
  rw [run_eql_struct, show (10000 : Nat) = 9998 + 1 + 1 from rfl, item_eqIn 9998]
  rfl

end Go.Proofs.Ytlckphdmflofgaa
end

section
/-
  THE CONTRACTS OF WHAT IS ASKED OF ITEMS: May, Sees, Empty, Name; the document's.
-/
namespace Go.Proofs.Ytlckphdmflofgaa
open Go.RowKit

set_option maxHeartbeats 1600000 in
set_option maxRecDepth 100000 in
theorem smay_any (a1 a2 a3 a4 a5 b1 b2 b3 b4 b5 : Bool) (w : World) :
    Calls Try.prog 59 #[.agg #[.bool a1, .bool a2, .bool a3, .bool a4, .bool a5], .agg #[.bool b1, .bool b2, .bool b3, .bool b4, .bool b5]] w fun e w' => e = .returned (.bool (suMay ⟨a1, a2, a3, a4, a5⟩ ⟨b1, b2, b3, b4, b5⟩)) ∧ w' = (w.alloc (.cells #[.bool a1, .bool a2, .bool a3, .bool a4, .bool a5] 68)).alloc (.cells #[.bool b1, .bool b2, .bool b3, .bool b4, .bool b5] 68) := by
  cases a1 <;> cases b2 <;> try
    (go_enter Try.func59, Try.ntmps59
     go_wp2
     go_ret
     refine ⟨by simp [suMay], rfl⟩
     done)
  all_goals (cases a2 <;> cases b1 <;> try
    (go_enter Try.func59, Try.ntmps59
     go_wp2
     go_ret
     refine ⟨by simp [suMay], rfl⟩
     done))
  all_goals (cases a3 <;> cases b4 <;> try
    (go_enter Try.func59, Try.ntmps59
     go_wp2
     go_ret
     refine ⟨by simp [suMay], rfl⟩
     done))
  all_goals (cases a4 <;> cases b3 <;>
    (go_enter Try.func59, Try.ntmps59
     go_wp2
     go_ret
     refine ⟨by simp [suMay], rfl⟩
     done))

set_option maxHeartbeats 1600000 in
set_option maxRecDepth 100000 in
theorem ssees_any (a1 a2 a3 a4 a5 b1 b2 b3 b4 b5 : Bool) (w : World) :
    Calls Try.prog 43 #[.agg #[.bool a1, .bool a2, .bool a3, .bool a4, .bool a5], .agg #[.bool b1, .bool b2, .bool b3, .bool b4, .bool b5]] w fun e w' => e = .returned (.bool (suSees ⟨a1, a2, a3, a4, a5⟩ ⟨b1, b2, b3, b4, b5⟩)) ∧ Below w.heap.size w w' := by
  cases a1 <;> cases a5 <;> cases b5
  all_goals
    go_enter Try.func43, Try.ntmps43
    go_wp2
    go_ret
    refine ⟨rfl, ?_⟩
    repeat (first | exact Below.refl _ _ | refine Below.setCell ?_ (by first | (simp; done) | (simp; omega)) _ | refine Below.alloc ?_ (by first | (simp; done) | (simp; omega)) _)

set_option maxHeartbeats 1600000 in
set_option maxRecDepth 100000 in
theorem sempty_any (a1 a2 a3 a4 a5 : Bool) (w : World) :
    Calls Try.prog 40 #[.agg #[.bool a1, .bool a2, .bool a3, .bool a4, .bool a5]] w fun e w' => e = .returned (.bool (suEmpty ⟨a1, a2, a3, a4, a5⟩)) ∧ Below w.heap.size w w' := by
  have he := fun w => item_eql a1 a2 a3 a4 a5 false false false false false w
  have hr : itSame ⟨a1, a2, a3, a4, a5⟩ ⟨false, false, false, false, false⟩ = suEmpty ⟨a1, a2, a3, a4, a5⟩ := by cases a1 <;> cases a2 <;> cases a3 <;> cases a4 <;> cases a5 <;> rfl
  rw [hr] at he
  clear hr
  obtain ⟨r, hr⟩ : ∃ r, suEmpty ⟨a1, a2, a3, a4, a5⟩ = r := ⟨_, rfl⟩
  rw [hr] at he ⊢
  clear hr
  go_enter Try.func40, Try.ntmps40
  go_wp2
  go_ret
  refine ⟨rfl, ?_⟩
  repeat (first | exact Below.refl _ _ | refine Below.setCell ?_ (by first | (simp; done) | (simp; omega)) _ | refine Below.alloc ?_ (by first | (simp; done) | (simp; omega)) _)

end Go.Proofs.Ytlckphdmflofgaa
end

section
/-
  THE CONTRACT OF THE DOCUMENT'S Act.
-/
namespace Go.Proofs.Ytlckphdmflofgaa
open Go.RowKit

/-- Both items and an error, as they are told. -/
def actE (r : It × It × Nat) : Value := .tuple #[.agg #[.bool r.1.to, .bool r.1.fr, .bool r.1.out, .bool r.1.inn, .bool r.1.bl], .agg #[.bool r.2.1.to, .bool r.2.1.fr, .bool r.2.1.out, .bool r.2.1.inn, .bool r.2.1.bl], .int .i64 r.2.2]

theorem smay_eq (a1 a2 a3 a4 a5 b1 b2 b3 b4 b5 : Bool) {r : Bool} (h : Hid (suMay ⟨a1, a2, a3, a4, a5⟩ ⟨b1, b2, b3, b4, b5⟩ = r)) (w : World) :
    Calls Try.prog 59 #[.agg #[.bool a1, .bool a2, .bool a3, .bool a4, .bool a5], .agg #[.bool b1, .bool b2, .bool b3, .bool b4, .bool b5]] w fun e w' => e = .returned (.bool r) ∧ (w.alloc (.cells #[.bool a1, .bool a2, .bool a3, .bool a4, .bool a5] 68)).alloc (.cells #[.bool b1, .bool b2, .bool b3, .bool b4, .bool b5] 68) = w' := by
  have g := smay_any a1 a2 a3 a4 a5 b1 b2 b3 b4 b5 w
  rw [h.out] at g
  exact g.mono fun _ _ ⟨he, hw⟩ => ⟨he, hw.symm⟩

end Go.Proofs.Ytlckphdmflofgaa
end

section
/-
  MANY CELLS STORED ANEW, one behind the other: what each holds then.
-/
namespace Go.Proofs.Ytlckphdmflofgaa
open Go.RowKit

def setMany (w : World) : List (Addr × Value) → World
  | [] => w
  | x :: l => setMany (w.setCell x.1 x.2) l

theorem setMany_other (p : Addr) : ∀ (l : List (Addr × Value)) (w : World), (∀ x ∈ l, x.1 ≠ p) → (setMany w l).cell? p = w.cell? p
  | [], _, _ => rfl
  | x :: l, w, h => by
    show (setMany (w.setCell x.1 x.2) l).cell? p = _
    rw [setMany_other p l _ (fun y hy => h y (List.mem_cons_of_mem _ hy)), World.cell?_setCell_other _ _ _ _ (h x (by simp))]

theorem setMany_get : ∀ (l : List (Addr × Value)) (w : World), l.Pairwise (fun x y => x.1 ≠ y.1) → (∀ x ∈ l, (w.cell? x.1).isSome = true) → ∀ x ∈ l, (setMany w l).cell? x.1 = some x.2
  | [], _, _, _, _, h => by cases h
  | y :: l, w, hp, hs, x, hx => by
    obtain ⟨h1, h2⟩ := List.pairwise_cons.1 hp
    show (setMany (w.setCell y.1 y.2) l).cell? x.1 = _
    rcases List.mem_cons.1 hx with rfl | hx
    · rw [setMany_other _ l _ (fun z hz => (h1 z hz).symm)]
      exact World.cell?_setCell_same' _ _ _ (hs x (by simp))
    · refine setMany_get l _ h2 (fun z hz => ?_) x hx
      rw [World.cell?_setCell_other _ _ _ _ (h1 z hz)]
      exact hs z (List.mem_cons_of_mem _ hz)

theorem setMany_below {w : World} : ∀ (l : List (Addr × Value)) {w1 : World}, Below w.heap.size w w1 → (∀ x ∈ l, w.heap.size ≤ x.1.block) → Below w.heap.size w (setMany w1 l)
  | [], _, h, _ => h
  | x :: l, _, h, hl => setMany_below l (h.setCell (hl x (by simp)) _) (fun y hy => hl y (List.mem_cons_of_mem _ hy))

/-- Two items stored anew, in two blocks. -/
def set10 (w : World) (B C : Nat) (a1 a2 a3 a4 a5 b1 b2 b3 b4 b5 : Value) : World :=
  setMany w [(⟨B, 0, none⟩, a1), (⟨B, 1, none⟩, a2), (⟨B, 2, none⟩, a3), (⟨B, 3, none⟩, a4), (⟨B, 4, none⟩, a5), (⟨C, 0, none⟩, b1), (⟨C, 1, none⟩, b2), (⟨C, 2, none⟩, b3), (⟨C, 3, none⟩, b4), (⟨C, 4, none⟩, b5)]

theorem set10_get (w : World) (B C : Nat) (hBC : B ≠ C) (a1 a2 a3 a4 a5 b1 b2 b3 b4 b5 u1 u2 u3 u4 u5 v1 v2 v3 v4 v5 : Value)
    (h1 : w.cell? ⟨B, 0, none⟩ = some u1) (h2 : w.cell? ⟨B, 1, none⟩ = some u2) (h3 : w.cell? ⟨B, 2, none⟩ = some u3) (h4 : w.cell? ⟨B, 3, none⟩ = some u4) (h5 : w.cell? ⟨B, 4, none⟩ = some u5)
    (g1 : w.cell? ⟨C, 0, none⟩ = some v1) (g2 : w.cell? ⟨C, 1, none⟩ = some v2) (g3 : w.cell? ⟨C, 2, none⟩ = some v3) (g4 : w.cell? ⟨C, 3, none⟩ = some v4) (g5 : w.cell? ⟨C, 4, none⟩ = some v5) :
    let x := set10 w B C a1 a2 a3 a4 a5 b1 b2 b3 b4 b5
    x.cell? ⟨B, 0, none⟩ = some a1 ∧ x.cell? ⟨B, 1, none⟩ = some a2 ∧ x.cell? ⟨B, 2, none⟩ = some a3 ∧ x.cell? ⟨B, 3, none⟩ = some a4 ∧ x.cell? ⟨B, 4, none⟩ = some a5 ∧
    x.cell? ⟨C, 0, none⟩ = some b1 ∧ x.cell? ⟨C, 1, none⟩ = some b2 ∧ x.cell? ⟨C, 2, none⟩ = some b3 ∧ x.cell? ⟨C, 3, none⟩ = some b4 ∧ x.cell? ⟨C, 4, none⟩ = some b5 := by
  have hm := setMany_get [(⟨B, 0, none⟩, a1), (⟨B, 1, none⟩, a2), (⟨B, 2, none⟩, a3), (⟨B, 3, none⟩, a4), (⟨B, 4, none⟩, a5), (⟨C, 0, none⟩, b1), (⟨C, 1, none⟩, b2), (⟨C, 2, none⟩, b3), (⟨C, 3, none⟩, b4), (⟨C, 4, none⟩, b5)] w
    (by simp [hBC]) (by simp [h1, h2, h3, h4, h5, g1, g2, g3, g4, g5])
  exact ⟨hm (_, _) (by simp), hm (_, _) (by simp), hm (_, _) (by simp), hm (_, _) (by simp), hm (_, _) (by simp), hm (_, _) (by simp), hm (_, _) (by simp), hm (_, _) (by simp), hm (_, _) (by simp), hm (_, _) (by simp)⟩

theorem set10_below {w w1 : World} (h : Below w.heap.size w w1) (B C : Nat) (hB : w.heap.size ≤ B) (hC : w.heap.size ≤ C) (a1 a2 a3 a4 a5 b1 b2 b3 b4 b5 : Value) : Below w.heap.size w (set10 w1 B C a1 a2 a3 a4 a5 b1 b2 b3 b4 b5) :=
  setMany_below _ h (by simp [hB, hC])

end Go.Proofs.Ytlckphdmflofgaa
end

section
/-
  THE CONTRACT OF subs.Act: errors ahead of what is done.
-/
namespace Go.Proofs.Ytlckphdmflofgaa
open Go.RowKit

theorem below2S {w a b : World} (h1 : Below w.heap.size w a) (h2 : Below a.heap.size a b) : Below w.heap.size w b := h1.trans (h2.mono h1.size)

theorem cellU {w w' : World} {a : Addr} {v : Value} (h : w.cell? a = some v) (hb : Below w.heap.size w w') : w'.cell? a = some v :=
  (hb.cell (World.block_lt_of_cell? w a h)).trans h

theorem frozU {w w' : World} {a : Addr} {v : Value} (h : w.cell? a = some v) (hb : Below w.heap.size w w') (hf : w.frozen? a = false) : w'.frozen? a = false :=
  (hb.frozen (World.block_lt_of_cell? w a h)).trans hf

theorem act30 {w w' : World} (hb : Below w.heap.size w w') {a0 a1 a2 a3 a4 a5 a6 a7 a8 a9 a10 a11 a12 a13 a14 a15 a16 a17 a18 a19 : Addr} {v0 v1 v2 v3 v4 v5 v6 v7 v8 v9 v10 v11 v12 v13 v14 v15 v16 v17 v18 v19 : Value} (h0 : w.cell? a0 = some v0) (h1 : w.cell? a1 = some v1) (h2 : w.cell? a2 = some v2) (h3 : w.cell? a3 = some v3) (h4 : w.cell? a4 = some v4) (h5 : w.cell? a5 = some v5) (h6 : w.cell? a6 = some v6) (h7 : w.cell? a7 = some v7) (h8 : w.cell? a8 = some v8) (h9 : w.cell? a9 = some v9) (h10 : w.cell? a10 = some v10) (h11 : w.cell? a11 = some v11) (h12 : w.cell? a12 = some v12) (h13 : w.cell? a13 = some v13) (h14 : w.cell? a14 = some v14) (h15 : w.cell? a15 = some v15) (h16 : w.cell? a16 = some v16) (h17 : w.cell? a17 = some v17) (h18 : w.cell? a18 = some v18) (h19 : w.cell? a19 = some v19) (f10 : w.frozen? a10 = false) (f11 : w.frozen? a11 = false) (f12 : w.frozen? a12 = false) (f13 : w.frozen? a13 = false) (f14 : w.frozen? a14 = false) (f15 : w.frozen? a15 = false) (f16 : w.frozen? a16 = false) (f17 : w.frozen? a17 = false) (f18 : w.frozen? a18 = false) (f19 : w.frozen? a19 = false) :
    w'.cell? a0 = some v0 ∧ w'.cell? a1 = some v1 ∧ w'.cell? a2 = some v2 ∧ w'.cell? a3 = some v3 ∧ w'.cell? a4 = some v4 ∧ w'.cell? a5 = some v5 ∧ w'.cell? a6 = some v6 ∧ w'.cell? a7 = some v7 ∧ w'.cell? a8 = some v8 ∧ w'.cell? a9 = some v9 ∧ w'.cell? a10 = some v10 ∧ w'.cell? a11 = some v11 ∧ w'.cell? a12 = some v12 ∧ w'.cell? a13 = some v13 ∧ w'.cell? a14 = some v14 ∧ w'.cell? a15 = some v15 ∧ w'.cell? a16 = some v16 ∧ w'.cell? a17 = some v17 ∧ w'.cell? a18 = some v18 ∧ w'.cell? a19 = some v19 ∧ w'.frozen? a10 = false ∧ w'.frozen? a11 = false ∧ w'.frozen? a12 = false ∧ w'.frozen? a13 = false ∧ w'.frozen? a14 = false ∧ w'.frozen? a15 = false ∧ w'.frozen? a16 = false ∧ w'.frozen? a17 = false ∧ w'.frozen? a18 = false ∧ w'.frozen? a19 = false :=
  ⟨cellU h0 hb, cellU h1 hb, cellU h2 hb, cellU h3 hb, cellU h4 hb, cellU h5 hb, cellU h6 hb, cellU h7 hb, cellU h8 hb, cellU h9 hb, cellU h10 hb, cellU h11 hb, cellU h12 hb, cellU h13 hb, cellU h14 hb, cellU h15 hb, cellU h16 hb, cellU h17 hb, cellU h18 hb, cellU h19 hb, frozU h10 hb f10, frozU h11 hb f11, frozU h12 hb f12, frozU h13 hb f13, frozU h14 hb f14, frozU h15 hb f15, frozU h16 hb f16, frozU h17 hb f17, frozU h18 hb f18, frozU h19 hb f19⟩

theorem act_cells {w w1 : World} {a1 a2 a3 a4 a5 b1 b2 b3 b4 b5 : Bool} (hb : Below (((((w.alloc (.cells #[.bool a1, .bool a2, .bool a3, .bool a4, .bool a5] 68)).alloc (.cells #[.bool b1, .bool b2, .bool b3, .bool b4, .bool b5] 68)).alloc (.cells #[.bool false, .bool false, .bool false, .bool false, .bool false] 68)).alloc (.cells #[.bool false, .bool false, .bool false, .bool false, .bool false] 68))).heap.size (((((w.alloc (.cells #[.bool a1, .bool a2, .bool a3, .bool a4, .bool a5] 68)).alloc (.cells #[.bool b1, .bool b2, .bool b3, .bool b4, .bool b5] 68)).alloc (.cells #[.bool false, .bool false, .bool false, .bool false, .bool false] 68)).alloc (.cells #[.bool false, .bool false, .bool false, .bool false, .bool false] 68))) w1) :
    w1.cell? ⟨w.heap.size, 0, none⟩ = some (.bool a1) ∧ w1.cell? ⟨w.heap.size, 1, none⟩ = some (.bool a2) ∧ w1.cell? ⟨w.heap.size, 2, none⟩ = some (.bool a3) ∧ w1.cell? ⟨w.heap.size, 3, none⟩ = some (.bool a4) ∧ w1.cell? ⟨w.heap.size, 4, none⟩ = some (.bool a5) ∧ w1.cell? ⟨w.heap.size + 1, 0, none⟩ = some (.bool b1) ∧ w1.cell? ⟨w.heap.size + 1, 1, none⟩ = some (.bool b2) ∧ w1.cell? ⟨w.heap.size + 1, 2, none⟩ = some (.bool b3) ∧ w1.cell? ⟨w.heap.size + 1, 3, none⟩ = some (.bool b4) ∧ w1.cell? ⟨w.heap.size + 1, 4, none⟩ = some (.bool b5) ∧ w1.cell? ⟨w.heap.size + 1 + 1, 0, none⟩ = some (.bool false) ∧ w1.frozen? ⟨w.heap.size + 1 + 1, 0, none⟩ = false ∧ w1.cell? ⟨w.heap.size + 1 + 1, 1, none⟩ = some (.bool false) ∧ w1.frozen? ⟨w.heap.size + 1 + 1, 1, none⟩ = false ∧ w1.cell? ⟨w.heap.size + 1 + 1, 2, none⟩ = some (.bool false) ∧ w1.frozen? ⟨w.heap.size + 1 + 1, 2, none⟩ = false ∧ w1.cell? ⟨w.heap.size + 1 + 1, 3, none⟩ = some (.bool false) ∧ w1.frozen? ⟨w.heap.size + 1 + 1, 3, none⟩ = false ∧ w1.cell? ⟨w.heap.size + 1 + 1, 4, none⟩ = some (.bool false) ∧ w1.frozen? ⟨w.heap.size + 1 + 1, 4, none⟩ = false ∧ w1.cell? ⟨w.heap.size + 1 + 1 + 1, 0, none⟩ = some (.bool false) ∧ w1.frozen? ⟨w.heap.size + 1 + 1 + 1, 0, none⟩ = false ∧ w1.cell? ⟨w.heap.size + 1 + 1 + 1, 1, none⟩ = some (.bool false) ∧ w1.frozen? ⟨w.heap.size + 1 + 1 + 1, 1, none⟩ = false ∧ w1.cell? ⟨w.heap.size + 1 + 1 + 1, 2, none⟩ = some (.bool false) ∧ w1.frozen? ⟨w.heap.size + 1 + 1 + 1, 2, none⟩ = false ∧ w1.cell? ⟨w.heap.size + 1 + 1 + 1, 3, none⟩ = some (.bool false) ∧ w1.frozen? ⟨w.heap.size + 1 + 1 + 1, 3, none⟩ = false ∧ w1.cell? ⟨w.heap.size + 1 + 1 + 1, 4, none⟩ = some (.bool false) ∧ w1.frozen? ⟨w.heap.size + 1 + 1 + 1, 4, none⟩ = false := by
  have hz : (((((w.alloc (.cells #[.bool a1, .bool a2, .bool a3, .bool a4, .bool a5] 68)).alloc (.cells #[.bool b1, .bool b2, .bool b3, .bool b4, .bool b5] 68)).alloc (.cells #[.bool false, .bool false, .bool false, .bool false, .bool false] 68)).alloc (.cells #[.bool false, .bool false, .bool false, .bool false, .bool false] 68))).heap.size = w.heap.size + 1 + 1 + 1 + 1 := by simp
  have hc : ∀ b o, b < w.heap.size + 1 + 1 + 1 + 1 → w1.cell? ⟨b, o, none⟩ = (((((w.alloc (.cells #[.bool a1, .bool a2, .bool a3, .bool a4, .bool a5] 68)).alloc (.cells #[.bool b1, .bool b2, .bool b3, .bool b4, .bool b5] 68)).alloc (.cells #[.bool false, .bool false, .bool false, .bool false, .bool false] 68)).alloc (.cells #[.bool false, .bool false, .bool false, .bool false, .bool false] 68))).cell? ⟨b, o, none⟩ := fun b o h => hb.cell (p := ⟨b, o, none⟩) (by rw [hz]; exact h)
  have hf : ∀ b o, b < w.heap.size + 1 + 1 + 1 + 1 → w1.frozen? ⟨b, o, none⟩ = (((((w.alloc (.cells #[.bool a1, .bool a2, .bool a3, .bool a4, .bool a5] 68)).alloc (.cells #[.bool b1, .bool b2, .bool b3, .bool b4, .bool b5] 68)).alloc (.cells #[.bool false, .bool false, .bool false, .bool false, .bool false] 68)).alloc (.cells #[.bool false, .bool false, .bool false, .bool false, .bool false] 68))).frozen? ⟨b, o, none⟩ := fun b o h => hb.frozen (p := ⟨b, o, none⟩) (by rw [hz]; exact h)
  refine ⟨?_, ?_, ?_, ?_, ?_, ?_, ?_, ?_, ?_, ?_, ?_, ?_, ?_, ?_, ?_, ?_, ?_, ?_, ?_, ?_, ?_, ?_, ?_, ?_, ?_, ?_, ?_, ?_, ?_, ?_⟩
  all_goals (first | (rw [hc _ _ (by omega)]; go_simp; done) | (rw [hf _ _ (by omega)]; go_simp; done) | (rw [hc _ _ (by omega)]; rfl) | (rw [hf _ _ (by omega)]; rfl))

set_option maxHeartbeats 3200000 in
set_option maxRecDepth 100000 in
theorem sact_out (a1 a2 a3 a4 a5 b1 b2 b3 b4 b5 : Bool) (k : Int) (hk : (Lit.int .i64 k).wf = true) (ho : k < 1 ∨ 6 < k) (w : World) :
    Calls Try.prog 38 #[.agg #[.bool a1, .bool a2, .bool a3, .bool a4, .bool a5], .agg #[.bool b1, .bool b2, .bool b3, .bool b4, .bool b5], .int .i64 k] w fun e w' => e = .returned (actE (⟨a1, a2, a3, a4, a5⟩, ⟨b1, b2, b3, b4, b5⟩, 1)) ∧ Below w.heap.size w w' := by
  have hno : kindFns.any (fun x => x.1 == k) = false ∧ kindFns.find? (fun x => x.1 == k) = none := by
    have h1 : ((1 : Int) == k) = false := by rw [beq_eq_false_iff_ne]; omega
    have h2 : ((2 : Int) == k) = false := by rw [beq_eq_false_iff_ne]; omega
    have h3 : ((3 : Int) == k) = false := by rw [beq_eq_false_iff_ne]; omega
    have h4 : ((4 : Int) == k) = false := by rw [beq_eq_false_iff_ne]; omega
    have h5 : ((5 : Int) == k) = false := by rw [beq_eq_false_iff_ne]; omega
    have h6 : ((6 : Int) == k) = false := by rw [beq_eq_false_iff_ne]; omega
    simp [kindFns, h1, h2, h3, h4, h5, h6]
  have HNO := Lib.hid hno
  clear hno ho
  have B0 : Hid (Below w.heap.size w (((((w.alloc (.cells #[.bool a1, .bool a2, .bool a3, .bool a4, .bool a5] 68)).alloc (.cells #[.bool b1, .bool b2, .bool b3, .bool b4, .bool b5] 68)).alloc (.cells #[.bool false, .bool false, .bool false, .bool false, .bool false] 68)).alloc (.cells #[.bool false, .bool false, .bool false, .bool false, .bool false] 68)))) := Lib.hid (((((Below.refl _ _).alloc (Nat.le_refl _) _).alloc (by simp) _).alloc (by simp; omega) _).alloc (by simp; omega) _)
  go_enter Try.func38, Try.ntmps38
  go_wp2_with fail
  refine (kinds_any _).mono ?_
  rintro e w1 ⟨rfl, hf, hb⟩
  have hl0 := hf.look k hk
  rw [HNO.out.1, HNO.out.2] at hl0
  have hl1 : ∀ B, B = (((((w.alloc (.cells #[.bool a1, .bool a2, .bool a3, .bool a4, .bool a5] 68)).alloc (.cells #[.bool b1, .bool b2, .bool b3, .bool b4, .bool b5] 68)).alloc (.cells #[.bool false, .bool false, .bool false, .bool false, .bool false] 68)).alloc (.cells #[.bool false, .bool false, .bool false, .bool false, .bool false] 68))).heap.size → (Instr.lookup 94 (.map (some B)) (.int .i64 k) true).run Try.prog w1 = .ok (.tuple #[.nilFunc, .bool false]) w1 := fun B e => by rw [e]; exact hl0
  have hl := hl1 (w.heap.size + 1 + 1 + 1 + 1) (by simp)
  clear hl0 hl1
  have HB1 : Hid (Below w.heap.size w w1) := Lib.hid (below2S B0.out hb)
  have hz1 : w.heap.size + 1 + 1 + 1 + 1 ≤ w1.heap.size := by have := hb.size; simp at this; omega
  obtain ⟨c00, c01, c02, c03, c04, c10, c11, c12, c13, c14, c20, z20, c21, z21, c22, z22, c23, z23, c24, z24, c30, z30, c31, z31, c32, z32, c33, z33, c34, z34⟩ := act_cells hb
  clear hf hb
  go_wp2_with fail
  go_region
  try go_wp2_with fail
  obtain ⟨r0, r1, r2, r3, r4, r5, r6, r7, r8, r9⟩ := set10_get w1 (w.heap.size + 1 + 1) (w.heap.size + 1 + 1 + 1) (by omega) (.bool a1) (.bool a2) (.bool a3) (.bool a4) (.bool a5) (.bool b1) (.bool b2) (.bool b3) (.bool b4) (.bool b5) _ _ _ _ _ _ _ _ _ _ c20 c21 c22 c23 c24 c30 c31 c32 c33 c34
  have hB := set10_below HB1.out (w.heap.size + 1 + 1) (w.heap.size + 1 + 1 + 1) (by omega) (by omega) (.bool a1) (.bool a2) (.bool a3) (.bool a4) (.bool a5) (.bool b1) (.bool b2) (.bool b3) (.bool b4) (.bool b5)
  show bodyPost _ _ _ _ _ (set10 w1 (w.heap.size + 1 + 1) (w.heap.size + 1 + 1 + 1) (.bool a1) (.bool a2) (.bool a3) (.bool a4) (.bool a5) (.bool b1) (.bool b2) (.bool b3) (.bool b4) (.bool b5)).drew
  exact bodyPost_ret (v := actE (⟨a1, a2, a3, a4, a5⟩, ⟨b1, b2, b3, b4, b5⟩, 1)) (by simp [results, Try.results38, go_sem, actE, r0, r1, r2, r3, r4, r5, r6, r7, r8, r9]) rfl ⟨rfl, hB.drew⟩

set_option maxHeartbeats 3200000 in
set_option maxRecDepth 100000 in
theorem sact_not (a1 a2 a3 a4 a5 b1 b2 b3 b4 b5 : Bool) (k : Int) (hk : (Lit.int .i64 k).wf = true) (HY : Hid (kindFns.any (fun x => x.1 == k) = true)) (HM : Hid (suMay ⟨a1, a2, a3, a4, a5⟩ ⟨b1, b2, b3, b4, b5⟩ = false)) (w : World) :
    Calls Try.prog 38 #[.agg #[.bool a1, .bool a2, .bool a3, .bool a4, .bool a5], .agg #[.bool b1, .bool b2, .bool b3, .bool b4, .bool b5], .int .i64 k] w fun e w' => e = .returned (actE (⟨a1, a2, a3, a4, a5⟩, ⟨b1, b2, b3, b4, b5⟩, 1)) ∧ Below w.heap.size w w' := by
  obtain ⟨fv, hfv⟩ : ∃ fv, fnVal (kindFns.find? fun x => x.1 == k) = fv := ⟨_, rfl⟩
  have HFV := Lib.hid hfv
  clear hfv
  have B0 : Hid (Below w.heap.size w (((((w.alloc (.cells #[.bool a1, .bool a2, .bool a3, .bool a4, .bool a5] 68)).alloc (.cells #[.bool b1, .bool b2, .bool b3, .bool b4, .bool b5] 68)).alloc (.cells #[.bool false, .bool false, .bool false, .bool false, .bool false] 68)).alloc (.cells #[.bool false, .bool false, .bool false, .bool false, .bool false] 68)))) := Lib.hid (((((Below.refl _ _).alloc (Nat.le_refl _) _).alloc (by simp) _).alloc (by simp; omega) _).alloc (by simp; omega) _)
  go_enter Try.func38, Try.ntmps38
  go_wp2_with fail
  refine (kinds_any _).mono ?_
  rintro e w1 ⟨rfl, hf, hb⟩
  have hl0 := hf.look k hk
  rw [HFV.out, HY.out] at hl0
  have hl1 : ∀ B, B = (((((w.alloc (.cells #[.bool a1, .bool a2, .bool a3, .bool a4, .bool a5] 68)).alloc (.cells #[.bool b1, .bool b2, .bool b3, .bool b4, .bool b5] 68)).alloc (.cells #[.bool false, .bool false, .bool false, .bool false, .bool false] 68)).alloc (.cells #[.bool false, .bool false, .bool false, .bool false, .bool false] 68))).heap.size → (Instr.lookup 94 (.map (some B)) (.int .i64 k) true).run Try.prog w1 = .ok (.tuple #[fv, .bool true]) w1 := fun B e => by rw [e]; exact hl0
  have hl := hl1 (w.heap.size + 1 + 1 + 1 + 1) (by simp)
  clear hl0 hl1
  have HB1 : Hid (Below w.heap.size w w1) := Lib.hid (below2S B0.out hb)
  have hz1 : w.heap.size + 1 + 1 + 1 + 1 ≤ w1.heap.size := by have := hb.size; simp at this; omega
  obtain ⟨c00, c01, c02, c03, c04, c10, c11, c12, c13, c14, c20, z20, c21, z21, c22, z22, c23, z23, c24, z24, c30, z30, c31, z31, c32, z32, c33, z33, c34, z34⟩ := act_cells hb
  clear hf hb
  go_wp2_with fail
  refine (smay_eq _ _ _ _ _ _ _ _ _ _ HM _).mono ?_
  rintro e w2 ⟨rfl, rfl⟩
  obtain ⟨w2, hw2⟩ : ∃ w2, w2 = (w1.alloc (.cells #[.bool a1, .bool a2, .bool a3, .bool a4, .bool a5] 68)).alloc (.cells #[.bool b1, .bool b2, .bool b3, .bool b4, .bool b5] 68) := ⟨_, rfl⟩
  rw [← hw2]
  have hb2 : Below w1.heap.size w1 w2 := by rw [hw2]; exact ((Below.refl _ _).alloc (Nat.le_refl _) _).alloc (by simp) _
  have HB2 : Hid (Below w.heap.size w w2) := Lib.hid (below2S HB1.out hb2)
  clear hw2
  replace c00 := (hb2.cell (p := ⟨w.heap.size, 0, none⟩) (by show w.heap.size < w1.heap.size; omega)).trans c00
  replace c01 := (hb2.cell (p := ⟨w.heap.size, 1, none⟩) (by show w.heap.size < w1.heap.size; omega)).trans c01
  replace c02 := (hb2.cell (p := ⟨w.heap.size, 2, none⟩) (by show w.heap.size < w1.heap.size; omega)).trans c02
  replace c03 := (hb2.cell (p := ⟨w.heap.size, 3, none⟩) (by show w.heap.size < w1.heap.size; omega)).trans c03
  replace c04 := (hb2.cell (p := ⟨w.heap.size, 4, none⟩) (by show w.heap.size < w1.heap.size; omega)).trans c04
  replace c10 := (hb2.cell (p := ⟨w.heap.size + 1, 0, none⟩) (by show w.heap.size + 1 < w1.heap.size; omega)).trans c10
  replace c11 := (hb2.cell (p := ⟨w.heap.size + 1, 1, none⟩) (by show w.heap.size + 1 < w1.heap.size; omega)).trans c11
  replace c12 := (hb2.cell (p := ⟨w.heap.size + 1, 2, none⟩) (by show w.heap.size + 1 < w1.heap.size; omega)).trans c12
  replace c13 := (hb2.cell (p := ⟨w.heap.size + 1, 3, none⟩) (by show w.heap.size + 1 < w1.heap.size; omega)).trans c13
  replace c14 := (hb2.cell (p := ⟨w.heap.size + 1, 4, none⟩) (by show w.heap.size + 1 < w1.heap.size; omega)).trans c14
  replace c20 := (hb2.cell (p := ⟨w.heap.size + 1 + 1, 0, none⟩) (by show w.heap.size + 1 + 1 < w1.heap.size; omega)).trans c20
  replace z20 := (hb2.frozen (p := ⟨w.heap.size + 1 + 1, 0, none⟩) (by show w.heap.size + 1 + 1 < w1.heap.size; omega)).trans z20
  replace c21 := (hb2.cell (p := ⟨w.heap.size + 1 + 1, 1, none⟩) (by show w.heap.size + 1 + 1 < w1.heap.size; omega)).trans c21
  replace z21 := (hb2.frozen (p := ⟨w.heap.size + 1 + 1, 1, none⟩) (by show w.heap.size + 1 + 1 < w1.heap.size; omega)).trans z21
  replace c22 := (hb2.cell (p := ⟨w.heap.size + 1 + 1, 2, none⟩) (by show w.heap.size + 1 + 1 < w1.heap.size; omega)).trans c22
  replace z22 := (hb2.frozen (p := ⟨w.heap.size + 1 + 1, 2, none⟩) (by show w.heap.size + 1 + 1 < w1.heap.size; omega)).trans z22
  replace c23 := (hb2.cell (p := ⟨w.heap.size + 1 + 1, 3, none⟩) (by show w.heap.size + 1 + 1 < w1.heap.size; omega)).trans c23
  replace z23 := (hb2.frozen (p := ⟨w.heap.size + 1 + 1, 3, none⟩) (by show w.heap.size + 1 + 1 < w1.heap.size; omega)).trans z23
  replace c24 := (hb2.cell (p := ⟨w.heap.size + 1 + 1, 4, none⟩) (by show w.heap.size + 1 + 1 < w1.heap.size; omega)).trans c24
  replace z24 := (hb2.frozen (p := ⟨w.heap.size + 1 + 1, 4, none⟩) (by show w.heap.size + 1 + 1 < w1.heap.size; omega)).trans z24
  replace c30 := (hb2.cell (p := ⟨w.heap.size + 1 + 1 + 1, 0, none⟩) (by show w.heap.size + 1 + 1 + 1 < w1.heap.size; omega)).trans c30
  replace z30 := (hb2.frozen (p := ⟨w.heap.size + 1 + 1 + 1, 0, none⟩) (by show w.heap.size + 1 + 1 + 1 < w1.heap.size; omega)).trans z30
  replace c31 := (hb2.cell (p := ⟨w.heap.size + 1 + 1 + 1, 1, none⟩) (by show w.heap.size + 1 + 1 + 1 < w1.heap.size; omega)).trans c31
  replace z31 := (hb2.frozen (p := ⟨w.heap.size + 1 + 1 + 1, 1, none⟩) (by show w.heap.size + 1 + 1 + 1 < w1.heap.size; omega)).trans z31
  replace c32 := (hb2.cell (p := ⟨w.heap.size + 1 + 1 + 1, 2, none⟩) (by show w.heap.size + 1 + 1 + 1 < w1.heap.size; omega)).trans c32
  replace z32 := (hb2.frozen (p := ⟨w.heap.size + 1 + 1 + 1, 2, none⟩) (by show w.heap.size + 1 + 1 + 1 < w1.heap.size; omega)).trans z32
  replace c33 := (hb2.cell (p := ⟨w.heap.size + 1 + 1 + 1, 3, none⟩) (by show w.heap.size + 1 + 1 + 1 < w1.heap.size; omega)).trans c33
  replace z33 := (hb2.frozen (p := ⟨w.heap.size + 1 + 1 + 1, 3, none⟩) (by show w.heap.size + 1 + 1 + 1 < w1.heap.size; omega)).trans z33
  replace c34 := (hb2.cell (p := ⟨w.heap.size + 1 + 1 + 1, 4, none⟩) (by show w.heap.size + 1 + 1 + 1 < w1.heap.size; omega)).trans c34
  replace z34 := (hb2.frozen (p := ⟨w.heap.size + 1 + 1 + 1, 4, none⟩) (by show w.heap.size + 1 + 1 + 1 < w1.heap.size; omega)).trans z34
  clear hb2
  go_wp2_with fail
  go_region
  try go_wp2_with fail
  obtain ⟨r0, r1, r2, r3, r4, r5, r6, r7, r8, r9⟩ := set10_get w2 (w.heap.size + 1 + 1) (w.heap.size + 1 + 1 + 1) (by omega) (.bool a1) (.bool a2) (.bool a3) (.bool a4) (.bool a5) (.bool b1) (.bool b2) (.bool b3) (.bool b4) (.bool b5) _ _ _ _ _ _ _ _ _ _ c20 c21 c22 c23 c24 c30 c31 c32 c33 c34
  have hB := set10_below HB2.out (w.heap.size + 1 + 1) (w.heap.size + 1 + 1 + 1) (by omega) (by omega) (.bool a1) (.bool a2) (.bool a3) (.bool a4) (.bool a5) (.bool b1) (.bool b2) (.bool b3) (.bool b4) (.bool b5)
  show bodyPost _ _ _ _ _ (set10 w2 (w.heap.size + 1 + 1) (w.heap.size + 1 + 1 + 1) (.bool a1) (.bool a2) (.bool a3) (.bool a4) (.bool a5) (.bool b1) (.bool b2) (.bool b3) (.bool b4) (.bool b5)).drew
  exact bodyPost_ret (v := actE (⟨a1, a2, a3, a4, a5⟩, ⟨b1, b2, b3, b4, b5⟩, 1)) (by simp [results, Try.results38, go_sem, actE, r0, r1, r2, r3, r4, r5, r6, r7, r8, r9]) rfl ⟨rfl, hB.drew⟩

end Go.Proofs.Ytlckphdmflofgaa
end
