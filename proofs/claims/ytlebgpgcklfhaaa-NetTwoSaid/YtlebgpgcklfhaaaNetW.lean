/-
  LAYER 22: small words for the walks.
-/
import Derived.Test.YtlebgpgcklfhaaaNetLive
import Derived.Test.YtlebgpgcklfhaaaHeld
import Derived.Test.YtlebgpgcklfhaaaBlk
import Derived.OpenShut
import Derived.Deep.Cut
namespace Go.Proofs.Ytlebgpgcklfhaaa
open Go.RowKit

theorem fewN_eq {w : World} {v : Value} {ls : List (List UInt8)} (hv : Texts w v ls) (n m : Nat) {r : Bool} (h : Hid (fewN n m ls = r)) :
    Calls Try.prog 8 #[v, .int .i64 n, .int .i64 m] w fun e w' => e = .returned (.bool r) ∧ Below w.heap.size w w' := by
  have := fewN_any hv n m
  rw [h.out] at this
  exact this.mono fun _ _ ⟨he, hw⟩ => ⟨he, hw ▸ Below.refl _ _⟩

theorem ntTake_len (ls : List (List UInt8)) (i : Int) : (ntTake ls i).2.1.length ≤ ls.length := by
  unfold ntTake
  split
  · simp only [List.length_append, List.length_take, List.length_drop]; omega
  · exact Nat.le_refl _

theorem ntTwice_len (ls : List (List UInt8)) (i : Int) : (ntTwice ls i).1.length ≤ ls.length + 1 := by
  unfold ntTwice
  split
  · split <;> simp
  · simp

theorem ntCor_len (ls : List (List UInt8)) (i a m : Int) : (ntCor ls i a m).1.length ≤ ls.length := by
  unfold ntCor
  split
  · split <;> simp
  · simp

theorem ntAct_len (ls : List (List UInt8)) (k i m : Int) : (ntAct ls k i m).1.length ≤ ls.length + 1 := by
  have h1 := ntTake_len ls i
  have h2 := ntTwice_len ls i
  have h3 := ntCor_len ls i (m / 256) (m % 256)
  unfold ntAct
  split
  · show (ntTake ls i).2.1.length ≤ _; omega
  · split
    · show (ntTake ls i).2.1.length ≤ _; omega
    · split
      · exact h2
      · split
        · show (ntCor ls i (m / 256) (m % 256)).1.length ≤ _; omega
        · simp

theorem few_len {n m : Nat} {ls : List (List UInt8)} (h : Hid (fewN n m ls = true)) : ls.length ≤ n ∧ ∀ t ∈ ls, t.length ≤ m := fewN_yes h.out

end Go.Proofs.Ytlebgpgcklfhaaa
