/-
  LAYER 7, PLAIN: what a move makes of who sees, who asked, and who blocks.
-/
import Derived.Test.YtkmbnpjnjlcjmaaSubPure
namespace Go.Proofs.Ytkmbnpjnjlcjmaa

theorem st1 : ∀ s0 s1 q0 q1 b0 b1 : Bool, suMay ⟨s0, s1, q0, q1, b0⟩ ⟨s1, s0, q1, q0, b1⟩ = true → (suAct ⟨s0, s1, q0, q1, b0⟩ ⟨s1, s0, q1, q0, b1⟩ 1).2.2 = 0 →
    b0 = false ∧ b1 = false ∧ s0 = false ∧ q0 = false ∧ suAct ⟨s0, s1, q0, q1, b0⟩ ⟨s1, s0, q1, q0, b1⟩ 1 = (⟨s0, s1, true, q1, b0⟩, ⟨s1, s0, q1, true, b1⟩, 0) ∧ suMay ⟨s0, s1, true, q1, b0⟩ ⟨s1, s0, q1, true, b1⟩ = true := by decide

theorem st2 : ∀ s0 s1 q0 q1 b0 b1 : Bool, suMay ⟨s0, s1, q0, q1, b0⟩ ⟨s1, s0, q1, q0, b1⟩ = true → (suAct ⟨s0, s1, q0, q1, b0⟩ ⟨s1, s0, q1, q0, b1⟩ 2).2.2 = 0 →
    b0 = false ∧ b1 = false ∧ q1 = true ∧ suAct ⟨s0, s1, q0, q1, b0⟩ ⟨s1, s0, q1, q0, b1⟩ 2 = (⟨s0, true, q0, false, b0⟩, ⟨true, s0, false, q0, b1⟩, 0) ∧ suMay ⟨s0, true, q0, false, b0⟩ ⟨true, s0, false, q0, b1⟩ = true := by decide

theorem st3 : ∀ s0 s1 q0 q1 b0 b1 : Bool, suMay ⟨s0, s1, q0, q1, b0⟩ ⟨s1, s0, q1, q0, b1⟩ = true → (suAct ⟨s0, s1, q0, q1, b0⟩ ⟨s1, s0, q1, q0, b1⟩ 3).2.2 = 0 →
    suAct ⟨s0, s1, q0, q1, b0⟩ ⟨s1, s0, q1, q0, b1⟩ 3 = (⟨false, s1, false, q1, b0⟩, ⟨s1, false, q1, false, b1⟩, 0) ∧ suMay ⟨false, s1, false, q1, b0⟩ ⟨s1, false, q1, false, b1⟩ = true := by decide

theorem st4 : ∀ s0 s1 q0 q1 b0 b1 : Bool, suMay ⟨s0, s1, q0, q1, b0⟩ ⟨s1, s0, q1, q0, b1⟩ = true → (suAct ⟨s0, s1, q0, q1, b0⟩ ⟨s1, s0, q1, q0, b1⟩ 4).2.2 = 0 →
    suAct ⟨s0, s1, q0, q1, b0⟩ ⟨s1, s0, q1, q0, b1⟩ 4 = (⟨s0, false, q0, false, b0⟩, ⟨false, s0, false, q0, b1⟩, 0) ∧ suMay ⟨s0, false, q0, false, b0⟩ ⟨false, s0, false, q0, b1⟩ = true := by decide

theorem st5 : ∀ s0 s1 q0 q1 b0 b1 : Bool, suMay ⟨s0, s1, q0, q1, b0⟩ ⟨s1, s0, q1, q0, b1⟩ = true → (suAct ⟨s0, s1, q0, q1, b0⟩ ⟨s1, s0, q1, q0, b1⟩ 5).2.2 = 0 →
    suAct ⟨s0, s1, q0, q1, b0⟩ ⟨s1, s0, q1, q0, b1⟩ 5 = (⟨s0, s1, q0, q1, true⟩, ⟨s1, s0, q1, q0, b1⟩, 0) ∧ suMay ⟨s0, s1, q0, q1, true⟩ ⟨s1, s0, q1, q0, b1⟩ = true := by decide

theorem st6 : ∀ s0 s1 q0 q1 b0 b1 : Bool, suMay ⟨s0, s1, q0, q1, b0⟩ ⟨s1, s0, q1, q0, b1⟩ = true → (suAct ⟨s0, s1, q0, q1, b0⟩ ⟨s1, s0, q1, q0, b1⟩ 6).2.2 = 0 →
    suAct ⟨s0, s1, q0, q1, b0⟩ ⟨s1, s0, q1, q0, b1⟩ 6 = (⟨s0, s1, q0, q1, false⟩, ⟨s1, s0, q1, q0, b1⟩, 0) ∧ suMay ⟨s0, s1, q0, q1, false⟩ ⟨s1, s0, q1, q0, b1⟩ = true := by decide

theorem st_swap (s0 s1 q0 q1 b0 b1 : Bool) : suMay ⟨s1, s0, q1, q0, b1⟩ ⟨s0, s1, q0, q1, b0⟩ = suMay ⟨s0, s1, q0, q1, b0⟩ ⟨s1, s0, q1, q0, b1⟩ := suMay_comm _ _

/-- A move: whether the other one does it, and what. -/
structure Mov where
  o : Bool
  k : Int

def Mov.zero : Mov := ⟨false, 0⟩

end Go.Proofs.Ytkmbnpjnjlcjmaa
