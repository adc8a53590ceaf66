/-
  THE WALK OF IdentMerges, out of the contracts.
-/
import Derived.Test.YtmbgdkelghoghaaIdLive
import Derived.Test.YtmbgdkelghoghaaIdRmerge
namespace Go.Proofs.Ytmbgdkelghoghaa
open Go.RowKit

theorem regrown_belowI {w w' : World} (h : ∃ p : Regrown, w' = Sort.grow (redrawn w p.d) p.os) : Below w.heap.size w w' := by
  obtain ⟨p, rfl⟩ := h
  exact below_regrown _ _ _

set_option maxHeartbeats 1600000 in
set_option maxRecDepth 1000000 in
theorem identMerges_no1 {w : World} {va vb : Value} {ls ms : List (List UInt8)} (ha : Texts w va ls) (_hb : Texts w vb ms) (h1 : Hid (fewB ls = false)) :
    Calls Try.prog 5 #[va, vb] w fun e w' => e = .returned (.bool true) ∧ Below w.heap.size w w' := by
  go_enter Try.func5, Try.ntmps5
  go_wp2_with fail
  refine (few_eq ha h1).mono ?_
  rintro e w1 ⟨rfl, rfl⟩
  go_wp2_with fail
  refine (live3 _).mono ?_
  rintro e w1 ⟨rfl, b⟩
  go_wp2_with fail
  go_ret
  exact ⟨rfl, b⟩

set_option maxHeartbeats 1600000 in
set_option maxRecDepth 1000000 in
theorem identMerges_no2 {w : World} {va vb : Value} {ls ms : List (List UInt8)} (ha : Texts w va ls) (hb : Texts w vb ms) (h1 : Hid (fewB ls = true)) (h2 : Hid (fewB ms = false)) :
    Calls Try.prog 5 #[va, vb] w fun e w' => e = .returned (.bool true) ∧ Below w.heap.size w w' := by
  go_enter Try.func5, Try.ntmps5
  go_wp2_with fail
  refine (few_eq ha h1).mono ?_
  rintro e w1 ⟨rfl, rfl⟩
  go_wp2_with fail
  refine (few_eq hb h2).mono ?_
  rintro e w1 ⟨rfl, rfl⟩
  go_wp2_with fail
  refine (live3 _).mono ?_
  rintro e w1 ⟨rfl, b⟩
  go_wp2_with fail
  go_ret
  exact ⟨rfl, b⟩

set_option maxHeartbeats 1600000 in
set_option maxRecDepth 1000000 in
theorem identMerges_yes {w : World} {va vb : Value} {ls ms : List (List UInt8)} (ha : Texts w va ls) (hb : Texts w vb ms) (h1 : Hid (fewB ls = true)) (h2 : Hid (fewB ms = true)) :
    Calls Try.prog 5 #[va, vb] w fun e w' => e = .returned (.bool true) ∧ Below w.heap.size w w' := by
  have HA := Lib.hid ha
  have HB := Lib.hid hb
  have hl := (fewB_yes h1.out).1
  have hm := (fewB_yes h2.out).1
  obtain ⟨a, cap, rfl, _, _, _, _⟩ := ha
  obtain ⟨a2, cap2, rfl, _, _, _, _⟩ := hb
  go_enter Try.func5, Try.ntmps5
  go_wp2_with fail
  refine (few_eq HA.out h1).mono ?_
  rintro e w1 ⟨rfl, rfl⟩
  go_wp2_with fail
  refine (few_eq HB.out h2).mono ?_
  rintro e w1 ⟨rfl, rfl⟩
  go_wp2_with fail
  go_loopw [5] (fun i wr => ∃ k : Nat, k ≤ ls.length ∧ i = .int .i64 k ∧ Hid (Below w.heap.size w wr)) (fun i _ => ls.length - (intOf i).toNat)
  case atStart => exact ⟨0, by omega, rfl, Below.refl _ _⟩
  case round =>
    obtain ⟨k, hk, rfl, HN⟩ := hrel
    by_cases hlt : k < ls.length
    · go_wp2_with fail
      go_loopw [6] (fun i ws => ∃ j : Nat, j ≤ ms.length ∧ i = .int .i64 j ∧ Hid (Below w.heap.size w ws)) (fun i _ => ms.length - (intOf i).toNat)
      case atStart => exact ⟨0, by omega, rfl, HN⟩
      case round =>
        obtain ⟨j, hj, rfl, HM⟩ := hrel
        by_cases hlt2 : j < ms.length
        · obtain ⟨b1, o1, e1, hc1⟩ := HA.out.cell HM.out k hlt
          obtain ⟨b2, o2, e2, hc2⟩ := HB.out.cell HM.out j hlt2
          subst e1 e2
          obtain ⟨x, hx⟩ : ∃ x, ls.getD k [] = x := ⟨_, rfl⟩
          obtain ⟨y, hy⟩ : ∃ y, ms.getD j [] = y := ⟨_, rfl⟩
          rw [hx] at hc1
          rw [hy] at hc2
          obtain ⟨r, hr⟩ : ∃ r, Hid (idLess x y = r) := ⟨_, rfl⟩
          have HL := Lib.hid (less_eq x y hr)
          have HR := Lib.hid (rless_eq x y hr)
          have g1 := cell_regrown hc1
          have g2 := cell_regrown hc2
          clear hx hy hc1 hc2
          go_wp2_with fail
          refine wp_region_quiet_below (by kernel_rfl) (by kernel_rfl) ?_
          repeat (go_big_quiet_step (first | with_reducible exact rgB HL.out _ _ _ | with_reducible exact rgS HR.out _ _ _))
          refine wpQuiet_nil ?_
          intro w5 hw5
          have hb5 := regrown_belowI hw5
          have HM2 := Lib.hid (below2' HM.out hb5)
          clear hw5 hb5 g1 g2
          go_wp2_with fail
          go_roundw
          case rel => exact ⟨j + 1, by omega, by go_num, HM2⟩
          case measure => simp [intOf]; omega
        · obtain rfl : j = ms.length := by omega
          go_wp2_with fail
          go_roundw
          case rel => exact ⟨k + 1, by omega, by go_num, HM⟩
          case measure => simp [intOf]; omega
    · obtain rfl : k = ls.length := by omega
      go_wp2_with fail
      refine (merge_any (HA.out.later HN.out) (HB.out.later HN.out) (by omega) (by omega)).mono ?_
      rintro e w1 ⟨v1, rfl, ht1, b1⟩
      have HN1 := Lib.hid (below2' HN.out b1)
      have HT1 := Lib.hid ht1
      clear ht1 b1
      go_wp2_with fail
      refine (irmerge_any (HA.out.later HN1.out) (HB.out.later HN1.out) (by omega) (by omega)).mono ?_
      rintro e w2 ⟨v2, rfl, ht2, b2⟩
      have HN2 := Lib.hid (below2' HN1.out b2)
      have HT2 := Lib.hid ht2
      have HT1' := Lib.hid (HT1.out.later b2)
      clear ht2 b2
      have hml := mrg_len (ls ++ ms)
      rw [List.length_append] at hml
      go_wp2_with fail
      refine (same_yes HT1'.out HT2.out (by omega)).mono ?_
      rintro e w3 ⟨rfl, b3⟩
      have HN3 := Lib.hid (below2' HN2.out b3)
      clear b3
      go_wp2_with fail
      refine (live3 _).mono ?_
      rintro e w4 ⟨rfl, b4⟩
      have HN4 := Lib.hid (below2' HN3.out b4)
      clear b4
      go_wp2_with fail
      go_ret
      exact ⟨rfl, HN4.out⟩

theorem walkIdentMerges {w : World} (a : Option Addr) (len cap : Nat) (ss : List ByteArray) (ha : IsStrs w a len cap ss) (a2 : Option Addr) (len2 cap2 : Nat) (ss2 : List ByteArray) (hb : IsStrs w a2 len2 cap2 ss2) :
    Calls Try.prog 5 #[.slice a len cap, .slice a2 len2 cap2] w fun e w' => e = .returned (.bool true) ∧ Below w.heap.size w w' := by
  obtain ⟨ls, h1, _, _⟩ := texts_of_strs ha
  obtain ⟨ms, h2, _, _⟩ := texts_of_strs hb
  cases hf : fewB ls with
  | false => exact identMerges_no1 h1 h2 hf
  | true =>
    cases hg : fewB ms with
    | false => exact identMerges_no2 h1 h2 hf hg
    | true => exact identMerges_yes h1 h2 hf hg

end Go.Proofs.Ytmbgdkelghoghaa
