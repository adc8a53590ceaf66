/-
  LAYER 7, PLAIN: items that face one another, and what is done to them.
-/
import Derived.Lib.Hide
namespace Go.Proofs.Ytkmbnpjnjlcjmaa

structure It where
  to : Bool
  fr : Bool
  out : Bool
  inn : Bool
  bl : Bool
deriving DecidableEq

def It.zero : It := ⟨false, false, false, false, false⟩

def suMay (a b : It) : Bool := (a.to == b.fr) && ((a.fr == b.to) && ((a.out == b.inn) && ((a.inn == b.out) && (!(a.to && a.out) && !(b.to && b.out)))))
def suSees (a b : It) : Bool := a.to && (!a.bl && !b.bl)
def suEmpty (a : It) : Bool := !a.to && (!a.fr && (!a.out && (!a.inn && !a.bl)))
def suName (a : It) : List UInt8 :=
  if a.to = true then (if a.fr = true then [98, 111, 116, 104] else [116, 111]) else (if a.fr = true then [102, 114, 111, 109] else [110, 111, 110, 101])

/-- What is done of items that may be. -/
def suDo (a b : It) (k : Int) : It × It × Nat :=
  if k = 1 then (if (a.bl || b.bl) = true then (a, b, 8) else if (a.to || a.out) = true then (a, b, 7) else (⟨a.to, a.fr, true, a.inn, a.bl⟩, ⟨b.to, b.fr, b.out, true, b.bl⟩, 0))
  else if k = 2 then (if (a.bl || b.bl) = true then (a, b, 8) else if a.inn = false then (a, b, 7) else (⟨a.to, true, a.out, false, a.bl⟩, ⟨true, b.fr, false, b.inn, b.bl⟩, 0))
  else if k = 3 then (if (a.to || a.out) = false then (a, b, 7) else (⟨false, a.fr, false, a.inn, a.bl⟩, ⟨b.to, false, b.out, false, b.bl⟩, 0))
  else if k = 4 then (if (a.fr || a.inn) = false then (a, b, 7) else (⟨a.to, false, a.out, false, a.bl⟩, ⟨false, b.fr, false, b.inn, b.bl⟩, 0))
  else if k = 5 then (if a.bl = true then (a, b, 7) else (⟨a.to, a.fr, a.out, a.inn, true⟩, b, 0))
  else (if a.bl = false then (a, b, 7) else (⟨a.to, a.fr, a.out, a.inn, false⟩, b, 0))

def suAct (a b : It) (k : Int) : It × It × Nat :=
  if suMay a b = true ∧ 1 ≤ k ∧ k ≤ 6 then suDo a b k else (a, b, 1)

theorem suEmpty_iff {a : It} : suEmpty a = true ↔ a = It.zero := by
  obtain ⟨a1, a2, a3, a4, a5⟩ := a
  revert a1 a2 a3 a4 a5; decide

theorem suMay_comm (a b : It) : suMay a b = suMay b a := by
  obtain ⟨a1, a2, a3, a4, a5⟩ := a
  obtain ⟨b1, b2, b3, b4, b5⟩ := b
  cases a1 <;> cases a2 <;> cases a3 <;> cases a4 <;> cases b1 <;> cases b2 <;> cases b3 <;> cases b4 <;> rfl

theorem k_cases {k : Int} (h1 : 1 ≤ k) (h6 : k ≤ 6) : k = 1 ∨ k = 2 ∨ k = 3 ∨ k = 4 ∨ k = 5 ∨ k = 6 := by omega

/-- Beside an error nothing has turned. -/
theorem suAct_err {a b x y : It} {k : Int} {e : Nat} (h : suAct a b k = (x, y, e)) (he : e ≠ 0) : x = a ∧ y = b := by
  unfold suAct at h
  split at h
  · unfold suDo at h
    repeat' split at h
    all_goals (simp only [Prod.mk.injEq] at h; obtain ⟨h1, h2, h3⟩ := h; first | exact ⟨h1.symm, h2.symm⟩ | exact absurd h3.symm he)
  · simp only [Prod.mk.injEq] at h
    exact ⟨h.1.symm, h.2.1.symm⟩

theorem suAct_ok {a b x y : It} {k : Int} (h : suAct a b k = (x, y, 0)) : suMay a b = true ∧ 1 ≤ k ∧ k ≤ 6 ∧ suDo a b k = (x, y, 0) := by
  unfold suAct at h
  split at h
  · next hc => exact ⟨hc.1, hc.2.1, hc.2.2, h⟩
  · simp at h

/-- What may be stays so; what was done can't be done again. -/
theorem suDo_may : ∀ a1 a2 a3 a4 a5 b1 b2 b3 b4 b5 : Bool, suMay ⟨a1, a2, a3, a4, a5⟩ ⟨b1, b2, b3, b4, b5⟩ = true → ∀ k : Fin 6,
    let r := suDo ⟨a1, a2, a3, a4, a5⟩ ⟨b1, b2, b3, b4, b5⟩ ((k.val : Int) + 1)
    r.2.2 = 0 → suMay r.1 r.2.1 = true ∧ (suDo r.1 r.2.1 ((k.val : Int) + 1)).2.2 ≠ 0 := by decide +kernel

theorem suAct_may {a b x y : It} {k : Int} (h : suAct a b k = (x, y, 0)) : suMay x y = true ∧ (suAct x y k).2.2 ≠ 0 := by
  obtain ⟨h1, h2, h3, h4⟩ := suAct_ok h
  obtain ⟨a1, a2, a3, a4, a5⟩ := a
  obtain ⟨b1, b2, b3, b4, b5⟩ := b
  obtain ⟨n, rfl⟩ : ∃ n : Fin 6, k = (n.val : Int) + 1 := ⟨⟨(k - 1).toNat, by omega⟩, by simp; omega⟩
  have := suDo_may a1 a2 a3 a4 a5 b1 b2 b3 b4 b5 h1 n
  rw [h4] at this
  obtain ⟨g1, g2⟩ := this rfl
  refine ⟨g1, ?_⟩
  unfold suAct
  rw [if_pos ⟨g1, h2, h3⟩]
  exact g2

/-- Block and Unblock undo one another. -/
theorem suDo_back : ∀ a1 a2 a3 a4 a5 b1 b2 b3 b4 b5 : Bool, suMay ⟨a1, a2, a3, a4, a5⟩ ⟨b1, b2, b3, b4, b5⟩ = true →
    (let r := suDo ⟨a1, a2, a3, a4, a5⟩ ⟨b1, b2, b3, b4, b5⟩ 5
     r.2.2 = 0 → suAct r.1 r.2.1 6 = (⟨a1, a2, a3, a4, a5⟩, ⟨b1, b2, b3, b4, b5⟩, 0)) ∧
    (let r := suDo ⟨a1, a2, a3, a4, a5⟩ ⟨b1, b2, b3, b4, b5⟩ 6
     r.2.2 = 0 → suAct r.1 r.2.1 5 = (⟨a1, a2, a3, a4, a5⟩, ⟨b1, b2, b3, b4, b5⟩, 0)) ∧
    (let r := suDo ⟨a1, a2, a3, a4, a5⟩ ⟨b1, b2, b3, b4, b5⟩ 3
     r.2.2 = 0 → suAct ⟨b1, b2, b3, b4, b5⟩ ⟨a1, a2, a3, a4, a5⟩ 4 = (r.2.1, r.1, 0)) ∧
    (let r := suDo ⟨a1, a2, a3, a4, a5⟩ ⟨b1, b2, b3, b4, b5⟩ 4
     r.2.2 = 0 → suAct ⟨b1, b2, b3, b4, b5⟩ ⟨a1, a2, a3, a4, a5⟩ 3 = (r.2.1, r.1, 0)) := by decide +kernel

theorem suAct_back {a b x y : It} : (suAct a b 5 = (x, y, 0) → suAct x y 6 = (a, b, 0)) ∧ (suAct a b 6 = (x, y, 0) → suAct x y 5 = (a, b, 0)) ∧
    (suAct a b 3 = (x, y, 0) → suAct b a 4 = (y, x, 0)) ∧ (suAct a b 4 = (x, y, 0) → suAct b a 3 = (y, x, 0)) := by
  obtain ⟨a1, a2, a3, a4, a5⟩ := a
  obtain ⟨b1, b2, b3, b4, b5⟩ := b
  refine ⟨fun h => ?_, fun h => ?_, fun h => ?_, fun h => ?_⟩
  all_goals
    obtain ⟨h1, _, _, h4⟩ := suAct_ok h
    obtain ⟨g1, g2, g3, g4⟩ := suDo_back a1 a2 a3 a4 a5 b1 b2 b3 b4 b5 h1
  · rw [h4] at g1; exact g1 rfl
  · rw [h4] at g2; exact g2 rfl
  · rw [h4] at g3; exact g3 rfl
  · rw [h4] at g4; exact g4 rfl

end Go.Proofs.Ytkmbnpjnjlcjmaa
