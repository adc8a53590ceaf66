/-
  THE CONTRACTS OF THE DOCUMENT'S Few AND Same.
-/
import Derived.Test.YtlebgpgcklfhaaaProg
import Derived.Lib.Hide
import Derived.Test.YtlebgpgcklfhaaaIdRow
namespace Go.Proofs.Ytlebgpgcklfhaaa
open Go.RowKit

theorem Try.infoStr : (Try.prog.info? 9).map (fun i => (i.zero, i.size, i.bytes)) = some (some (.string ⟨#[]⟩), 1, 16) := by kernel_rfl

def fewB (ls : List (List UInt8)) : Bool := decide (ls.length ≤ 30) && ls.all fun t => decide (t.length ≤ 30)

theorem fewB_yes {ls : List (List UInt8)} (h : fewB ls = true) : ls.length ≤ 30 ∧ ∀ t ∈ ls, t.length ≤ 30 := by
  unfold fewB at h
  simp only [Bool.and_eq_true, decide_eq_true_eq] at h
  exact ⟨h.1, fun t ht => by simpa using List.all_eq_true.1 h.2 t ht⟩

theorem getD_some {ls : List (List UInt8)} {k : Nat} (h : k < ls.length) : ls[k]? = some (ls.getD k []) := by simp [List.getD, List.getElem?_eq_getElem h]

set_option maxHeartbeats 400000 in
set_option maxRecDepth 100000 in
theorem few_any {w : World} {v : Value} {ls : List (List UInt8)} (hv : Texts w v ls) :
    Calls Try.prog 8 #[v, .int .i64 30, .int .i64 30] w fun e w' => e = .returned (.bool (fewB ls)) ∧ w = w' := by
  obtain ⟨a, cap, rfl, h1, h2, h3, h4⟩ := hv
  by_cases h : 30 < ls.length
  · have HR : Hid (fewB ls = false) := by show _ = _; unfold fewB; simp; omega
    clear h1 h2 h3 h4
    go_enter Try.func8, Try.ntmps8
    go_wp2_with fail
    go_ret
    exact ⟨by rw [HR.out]; rfl, rfl⟩
  · have h30 : decide (ls.length ≤ 30) = true := by simp; omega
    have H30 := Lib.hid h30
    have H4 := Lib.hid h4
    clear h30 h1 h2 h3 h4
    go_enter Try.func8, Try.ntmps8
    go_wp2_with fail
    go_loop [7] (fun i => ∃ k : Nat, k ≤ ls.length ∧ i = .int .i64 k ∧ Hid ((ls.take k).all (fun t => decide (t.length ≤ 30)) = true)) (fun i => ls.length - (intOf i).toNat)
    case atStart => exact ⟨0, by omega, rfl, by show _ = _; simp⟩
    case round =>
      obtain ⟨k, hk, rfl, HA⟩ := hrel
      by_cases hlt : k < ls.length
      · rcases H4.out with h0 | ⟨b, off, rfl, hbw, hc⟩
        · rw [h0] at hlt; simp at hlt
        · have hcell := hc k hlt
          unfold encS at hcell
          clear hc
          obtain ⟨x, hx⟩ : ∃ x, ls.getD k [] = x := ⟨_, rfl⟩
          rw [hx] at hcell
          have HX : Hid (ls[k]? = some x) := by show _ = _; rw [getD_some hlt, hx]
          clear hx
          by_cases hn : 30 < x.length
          · have HR : Hid (fewB ls = false) := by
              show _ = _
              have : (ls.all fun t => decide (t.length ≤ 30)) = false := by
                rw [Bool.eq_false_iff]
                intro h'
                have := List.all_eq_true.1 h' x (List.mem_of_getElem? HX.out)
                simp at this
                omega
              unfold fewB
              rw [this]
              simp
            go_wp2_with fail
            go_ret
            exact ⟨by rw [HR.out]; rfl, rfl⟩
          · have HN : Hid ((ls.take (k + 1)).all (fun t => decide (t.length ≤ 30)) = true) := by
              show _ = _
              obtain ⟨p1, p2⟩ := List.getElem?_eq_some_iff.1 HX.out
              rw [List.take_succ_eq_append_getElem p1, p2, List.all_append, HA.out]
              simp
              omega
            go_wp2_with fail
            go_round
            case rel => exact ⟨k + 1, by omega, by go_num, HN⟩
            case measure => simp [intOf]; omega
      · obtain rfl : k = ls.length := by omega
        have HR : Hid (fewB ls = true) := by
          show _ = _
          have := HA.out
          rw [List.take_length] at this
          unfold fewB
          rw [this, H30.out]
          rfl
        go_wp2_with fail
        go_ret
        exact ⟨by rw [HR.out]; rfl, rfl⟩

theorem few_eq {w : World} {v : Value} {ls : List (List UInt8)} (hv : Texts w v ls) {r : Bool} (h : Hid (fewB ls = r)) :
    Calls Try.prog 8 #[v, .int .i64 30, .int .i64 30] w fun e w' => e = .returned (.bool r) ∧ w = w' := by
  have := few_any hv
  rwa [h.out] at this

set_option maxHeartbeats 800000 in
set_option maxRecDepth 100000 in
/-- Two lists that are the same. -/
theorem same_yes {w : World} {v u : Value} {ls : List (List UInt8)} (hv : Texts w v ls) (hu : Texts w u ls) (hl : ls.length ≤ 4294967296) :
    Calls Try.prog 14 #[v, u] w fun e w' => e = .returned (.bool true) ∧ Below w.heap.size w w' := by
  have HV := Lib.hid hv
  have HU := Lib.hid hu
  obtain ⟨a, cap, rfl, _, _, _, _⟩ := hv
  obtain ⟨a2, cap2, rfl, _, _, _, _⟩ := hu
  go_enter Try.func14, Try.ntmps14
  go_wp2_with fail
  go_loopw [5] (fun i wr => ∃ k : Nat, k ≤ ls.length ∧ i = .int .i64 k ∧ Below w.heap.size w wr) (fun i _ => ls.length - (intOf i).toNat)
  case atStart => exact ⟨0, by omega, rfl, Below.refl _ _⟩
  case round =>
    obtain ⟨k, hk, rfl, hnx⟩ := hrel
    have HN := Lib.hid hnx
    by_cases hlt : k < ls.length
    · obtain ⟨b1, o1, e1, hc1⟩ : ∃ b1 o1, a = some ⟨b1, o1, none⟩ ∧ wr.cell? ⟨b1, o1 + k, none⟩ = some (encS (ls.getD k [])) := by
        obtain ⟨a', cap', e, _, _, _, h⟩ := HV.out.later HN.out
        simp only [Value.slice.injEq] at e
        rcases h with h | ⟨b, off, e', _, hc⟩
        · rw [h] at hlt; simp at hlt
        · exact ⟨b, off, e.1.trans e', hc k hlt⟩
      obtain ⟨b2, o2, e2, hc2⟩ : ∃ b1 o1, a2 = some ⟨b1, o1, none⟩ ∧ wr.cell? ⟨b1, o1 + k, none⟩ = some (encS (ls.getD k [])) := by
        obtain ⟨a', cap', e, _, _, _, h⟩ := HU.out.later HN.out
        simp only [Value.slice.injEq] at e
        rcases h with h | ⟨b, off, e', _, hc⟩
        · rw [h] at hlt; simp at hlt
        · exact ⟨b, off, e.1.trans e', hc k hlt⟩
      subst e1 e2
      unfold encS at hc1 hc2
      obtain ⟨x, hx⟩ : ∃ x, ls.getD k [] = x := ⟨_, rfl⟩
      rw [hx] at hc1 hc2
      clear hx hnx
      go_wp2_with fail
      go_region
      go_wp2_with fail
      go_roundw
      case rel => exact ⟨k + 1, by omega, by go_num, HN.out.drew⟩
      case measure => simp [intOf]; omega
    · obtain rfl : k = ls.length := by omega
      clear hnx
      go_wp2_with fail
      go_ret
      exact ⟨rfl, HN.out⟩

end Go.Proofs.Ytlebgpgcklfhaaa
