/-
  LAYER 11, THE DOCUMENT's: which of two values is worth more. Few sessions.
-/
import Derived.Test.YtkmbnpjnjlcjmaaBesCode
namespace Go.Proofs.Ytkmbnpjnjlcjmaa
open Go.RowKit

/-- At most n sessions, of few bytes. -/
def fewOne (s : Ses) : Bool := decide (s.u.length ≤ 40) && decide (s.v.st.length ≤ 60)

def fewSes (l : List Ses) : Bool := decide (l.length ≤ 50) && l.all fewOne

theorem few_off {l : List Ses} {k : Nat} (hk : k < l.length) (h : fewOne (sat l k) = false) : fewSes l = false := by
  unfold fewSes
  rw [show l.all fewOne = false from ?_, Bool.and_false]
  rw [List.all_eq_false]
  rw [show sat l k = l[k] from sgetDB hk] at h
  exact ⟨l[k], List.getElem_mem hk, by rw [h]; simp⟩

theorem few_on {l : List Ses} {k : Nat} (ha : ∀ j, j < k → fewOne (sat l j) = true) (h : fewOne (sat l k) = true) : ∀ j, j < k + 1 → fewOne (sat l j) = true := by
  intro j hj
  by_cases e : j = k
  · rw [e]; exact h
  · exact ha j (by omega)

theorem few_all {l : List Ses} (hl : l.length ≤ 50) (ha : ∀ j, j < l.length → fewOne (sat l j) = true) : fewSes l = true := by
  unfold fewSes
  rw [show decide (l.length ≤ 50) = true by simpa using hl, Bool.true_and, List.all_eq_true]
  intro s hs
  obtain ⟨j, hj, rfl⟩ := List.getElem_of_mem hs
  have := ha j hj
  rwa [show sat l j = l[j] from sgetDB hj] at this

theorem few_get {l : List Ses} (h : fewSes l = true) : l.length ≤ 50 ∧ ∀ s ∈ l, s.u.length ≤ 40 ∧ s.v.st.length ≤ 60 := by
  unfold fewSes at h
  rw [Bool.and_eq_true, List.all_eq_true] at h
  refine ⟨by simpa using h.1, fun s hs => ?_⟩
  have := h.2 s hs
  unfold fewOne at this
  simpa using this

set_option maxHeartbeats 1600000 in
set_option maxRecDepth 100000 in
theorem few09_eq {w : World} {v : Value} {l : List Ses} (hv : Sess w v l) {r : Bool} (hr : fewSes l = r) :
    Calls Try.prog 15 #[v] w fun e w' => e = .returned (.bool r) ∧ w = w' := by
  have HV := Lib.hid hv
  obtain ⟨ao, cap, rfl, hm⟩ := hv.open'
  clear hv
  by_cases hl : l.length ≤ 50
  · have t0 : decide (50 < (l.length : Int)) = false := by simp; omega
    have HR := Lib.hid hr
    clear hr
    go_enter Try.func15, Try.ntmps15
    go_wp2_with fail
    go_loop [3] (fun t => ∃ k : Nat, k ≤ l.length ∧ t = .int .i64 k ∧ Hid (∀ j, j < k → fewOne (sat l j) = true)) (fun t => l.length - (intOf t).toNat)
    case atStart => exact ⟨0, by omega, rfl, by show ∀ _, _; intro j hj; omega⟩
    case round =>
      obtain ⟨k, hk, rfl, HA⟩ := hrel
      by_cases hlt : k < l.length
      · obtain ⟨b, off, rfl, hc⟩ := HV.out.row (Below.refl _ _) k hlt
        have hA1 := few_off (l := l) hlt
        have hA2 := few_on (l := l) (k := k) HA.out
        obtain ⟨⟨xn, xi, ⟨xa, xb, xc, xs⟩⟩, hx⟩ : ∃ s, sat l k = s := ⟨_, rfl⟩
        rw [show l.getD k Ses.zero = sat l k from rfl, hx] at hc
        rw [hx] at hA1 hA2
        obtain ⟨s0, s1, s2, s3, s4, s5⟩ := cells6 hc
        try simp only at s0 s1 s2 s3 s4 s5
        by_cases h1 : xn.length ≤ 40
        · have t1 : decide (40 < (xn.length : Int)) = false := by simp; omega
          by_cases h2 : xs.length ≤ 60
          · have t2 : decide (60 < (xs.length : Int)) = false := by simp; omega
            have HA2 : Hid (∀ j, j < k + 1 → fewOne (sat l j) = true) := hA2 (by unfold fewOne; simp [h1, h2])
            clear hA1 hA2 hx hc h1 h2
            go_wp2_with fail
            go_round
            case rel => exact ⟨k + 1, by omega, by go_num, HA2⟩
            case measure => simp [intOf]; omega
          · have t2 : decide (60 < (xs.length : Int)) = true := by simp; omega
            have HRF : Hid (false = r) := by show _ = _; rw [← HR.out, hA1 (by unfold fewOne; simp [h1]; omega)]
            clear hA1 hA2 hx hc h1 h2
            go_wp2_with fail
            go_ret
            exact ⟨by rw [← HRF.out]; rfl, rfl⟩
        · have t1 : decide (40 < (xn.length : Int)) = true := by simp; omega
          have HRF : Hid (false = r) := by show _ = _; rw [← HR.out, hA1 (by unfold fewOne; simp [h1])]
          clear hA1 hA2 hx hc h1
          go_wp2_with fail
          go_ret
          exact ⟨by rw [← HRF.out]; rfl, rfl⟩
      · obtain rfl : k = l.length := by omega
        have HRF : Hid (true = r) := by show _ = _; rw [← HR.out, few_all hl HA.out]
        go_wp2_with fail
        go_ret
        exact ⟨by rw [← HRF.out]; rfl, rfl⟩
  · have t0 : decide (50 < (l.length : Int)) = true := by simp; omega
    have HRF : Hid (false = r) := by
      show _ = _
      rw [← hr]
      unfold fewSes
      rw [show decide (l.length ≤ 50) = false by simp; omega]
      rfl
    clear hr hl
    go_enter Try.func15, Try.ntmps15
    go_wp2_with fail
    go_ret
    exact ⟨by rw [← HRF.out]; rfl, rfl⟩

end Go.Proofs.Ytkmbnpjnjlcjmaa
