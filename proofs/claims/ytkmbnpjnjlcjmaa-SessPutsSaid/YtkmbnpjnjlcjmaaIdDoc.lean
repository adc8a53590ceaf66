/-
  THE CONTRACTS OF THE DOCUMENT'S Few AND Same.
-/
import Derived.Test.YtkmbnpjnjlcjmaaIdCmp
import Derived.Test.YtkmbnpjnjlcjmaaIdRow
namespace Go.Proofs.Ytkmbnpjnjlcjmaa
open Go.RowKit

def fewB (ls : List (List UInt8)) : Bool := decide (ls.length ≤ 30) && ls.all fun t => decide (t.length ≤ 30)

theorem fewB_yes {ls : List (List UInt8)} (h : fewB ls = true) : ls.length ≤ 30 ∧ ∀ t ∈ ls, t.length ≤ 30 := by
  unfold fewB at h
  simp only [Bool.and_eq_true, decide_eq_true_eq] at h
  exact ⟨h.1, fun t ht => by simpa using List.all_eq_true.1 h.2 t ht⟩

theorem getD_some {ls : List (List UInt8)} {k : Nat} (h : k < ls.length) : ls[k]? = some (ls.getD k []) := by simp [List.getD, List.getElem?_eq_getElem h]

set_option maxHeartbeats 800000 in
set_option maxRecDepth 100000 in
/-- Two lists that are the same. -/
theorem same_yes {w : World} {v u : Value} {ls : List (List UInt8)} (hv : Texts w v ls) (hu : Texts w u ls) (hl : ls.length ≤ 4294967296) :
    Calls Try.prog 22 #[v, u] w fun e w' => e = .returned (.bool true) ∧ Below w.heap.size w w' := by
  have HV := Lib.hid hv
  have HU := Lib.hid hu
  obtain ⟨a, cap, rfl, _, _, _, _⟩ := hv
  obtain ⟨a2, cap2, rfl, _, _, _, _⟩ := hu
  go_enter Try.func22, Try.ntmps22
  go_wp2_with fail
  go_loopw [5] (fun i wr => ∃ k : Nat, k ≤ ls.length ∧ i = .int .i64 k ∧ Below w.heap.size w wr) (fun i _ => ls.length - (intOf i).toNat)
  case atStart => exact ⟨0, by omega, rfl, Below.refl _ _⟩
  case round =>
    obtain ⟨k, hk, rfl, hnx⟩ := hrel
    have HN := Lib.hid hnx
    by_cases hlt : k < ls.length
    · obtain ⟨b1, o1, e1, hc1⟩ : ∃ b1 o1, a = some ⟨b1, o1, none⟩ ∧ wr.cell? ⟨b1, o1 + k, none⟩ = some (encS (ls.getD k [])) := by
        obtain ⟨a', cap', e, _, _, _, h⟩ := HV.out.later HN.out
        simp only [Value.slice.injEq] at e
        rcases h with h | ⟨b, off, e', _, hc⟩
        · rw [h] at hlt; simp at hlt
        · exact ⟨b, off, e.1.trans e', hc k hlt⟩
      obtain ⟨b2, o2, e2, hc2⟩ : ∃ b1 o1, a2 = some ⟨b1, o1, none⟩ ∧ wr.cell? ⟨b1, o1 + k, none⟩ = some (encS (ls.getD k [])) := by
        obtain ⟨a', cap', e, _, _, _, h⟩ := HU.out.later HN.out
        simp only [Value.slice.injEq] at e
        rcases h with h | ⟨b, off, e', _, hc⟩
        · rw [h] at hlt; simp at hlt
        · exact ⟨b, off, e.1.trans e', hc k hlt⟩
      subst e1 e2
      unfold encS at hc1 hc2
      obtain ⟨x, hx⟩ : ∃ x, ls.getD k [] = x := ⟨_, rfl⟩
      rw [hx] at hc1 hc2
      clear hx hnx
      go_wp2_with fail
      go_region
      go_wp2_with fail
      go_roundw
      case rel => exact ⟨k + 1, by omega, by go_num, HN.out.drew⟩
      case measure => simp [intOf]; omega
    · obtain rfl : k = ls.length := by omega
      clear hnx
      go_wp2_with fail
      go_ret
      exact ⟨rfl, HN.out⟩

end Go.Proofs.Ytkmbnpjnjlcjmaa
