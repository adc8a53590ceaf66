/-
  THE WALK OF IdentMerged, out of the contracts.
-/
import Derived.Test.YtmbgdkelghoghaaIdLive
import Derived.Test.YtmbgdkelghoghaaIdMap
namespace Go.Proofs.Ytmbgdkelghoghaa
open Go.RowKit

theorem regrown_belowM {w w' : World} (h : ∃ p : Regrown, w' = Sort.grow (redrawn w p.d) p.os) : Below w.heap.size w w' := by
  obtain ⟨p, rfl⟩ := h
  exact below_regrown _ _ _

set_option maxHeartbeats 1600000 in
set_option maxRecDepth 1000000 in
theorem identMerged_no1 {w : World} {va vb : Value} {ls ms : List (List UInt8)} (ha : Texts w va ls) (_hb : Texts w vb ms) (h1 : Hid (fewB ls = false)) :
    Calls Try.prog 8 #[va, vb] w fun e w' => e = .returned (.bool true) ∧ Below w.heap.size w w' := by
  go_enter Try.func8, Try.ntmps8
  go_wp2_with fail
  refine (few_eq ha h1).mono ?_
  rintro e w1 ⟨rfl, rfl⟩
  go_wp2_with fail
  refine (live3 _).mono ?_
  rintro e w1 ⟨rfl, b⟩
  go_wp2_with fail
  go_ret
  exact ⟨rfl, b⟩

set_option maxHeartbeats 1600000 in
set_option maxRecDepth 1000000 in
theorem identMerged_no2 {w : World} {va vb : Value} {ls ms : List (List UInt8)} (ha : Texts w va ls) (hb : Texts w vb ms) (h1 : Hid (fewB ls = true)) (h2 : Hid (fewB ms = false)) :
    Calls Try.prog 8 #[va, vb] w fun e w' => e = .returned (.bool true) ∧ Below w.heap.size w w' := by
  go_enter Try.func8, Try.ntmps8
  go_wp2_with fail
  refine (few_eq ha h1).mono ?_
  rintro e w1 ⟨rfl, rfl⟩
  go_wp2_with fail
  refine (few_eq hb h2).mono ?_
  rintro e w1 ⟨rfl, rfl⟩
  go_wp2_with fail
  refine (live3 _).mono ?_
  rintro e w1 ⟨rfl, b⟩
  go_wp2_with fail
  go_ret
  exact ⟨rfl, b⟩

theorem mrg_turn (ls ms : List (List UInt8)) : mrg (ms ++ ls) = mrg (ls ++ ms) := mrg_unique (mrg_rising _) (fun x => by rw [mrg_mem]; simp [or_comm])
theorem mrg_again (ls ms : List (List UInt8)) : mrg (mrg (ls ++ ms) ++ ls) = mrg (ls ++ ms) := mrg_unique (mrg_rising _) (fun x => by
  rw [mrg_mem]
  simp only [List.mem_append, mrg_mem]
  constructor
  · rintro (h | h)
    · exact h
    · exact .inl h
  · exact .inl)

theorem rising_next {l : List (List UInt8)} (h : Rising l) {i : Nat} (hi : i + 1 < l.length) : idLess (l.getD i []) (l.getD (i + 1) []) = true := by
  have := List.pairwise_iff_getElem.1 h i (i + 1) (by omega) hi (by omega)
  simpa [List.getD, List.getElem?_eq_getElem hi, List.getElem?_eq_getElem (show i < l.length by omega)] using this

set_option maxHeartbeats 3200000 in
set_option maxRecDepth 1000000 in
theorem identMerged_yes {w : World} {va vb : Value} {ls ms : List (List UInt8)} (ha : Texts w va ls) (hb : Texts w vb ms) (h1 : Hid (fewB ls = true)) (h2 : Hid (fewB ms = true)) :
    Calls Try.prog 8 #[va, vb] w fun e w' => e = .returned (.bool true) ∧ Below w.heap.size w w' := by
  have HA := Lib.hid ha
  have HB := Lib.hid hb
  have hl := (fewB_yes h1.out).1
  have hm := (fewB_yes h2.out).1
  have HLl := Lib.hid (fewB_yes h1.out).2
  have HMl := Lib.hid (fewB_yes h2.out).2
  obtain ⟨a, cap, rfl, _, _, _, _⟩ := ha
  obtain ⟨a2, cap2, rfl, _, _, _, _⟩ := hb
  go_enter Try.func8, Try.ntmps8
  go_wp2_with fail
  refine (few_eq HA.out h1).mono ?_
  rintro e w1 ⟨rfl, rfl⟩
  go_wp2_with fail
  refine (few_eq HB.out h2).mono ?_
  rintro e w1 ⟨rfl, rfl⟩
  go_wp2_with fail
  refine (merge_any HA.out HB.out (by omega) (by omega)).mono ?_
  rintro e w1 ⟨v1, rfl, ht1, b1⟩
  have B1 := Lib.hid b1
  have hml := mrg_len (ls ++ ms)
  rw [List.length_append] at hml
  obtain ⟨M, hM⟩ : ∃ M, Hid (mrg (ls ++ ms) = M) := ⟨_, rfl⟩
  rw [hM.out] at ht1 hml
  have HT := Lib.hid ht1
  obtain ⟨a3, cap3, rfl, _, _, _, _⟩ := ht1
  have S0 := Lib.hid (setAt_made w1)
  have N0 : Hid (Below w1.heap.size w1 (w1.alloc (.map #[] 0))) := (Below.refl _ _).alloc (Nat.le_refl _) _
  have hmk := fun w => run_makeMap (P := Try.prog) 37 w
  clear b1
  go_wp2_with fail
  clear hmk
  go_loopw [7] (fun i wr => ∃ k : Nat, k ≤ ls.length ∧ i = .int .i64 k ∧ Hid (SetAt wr w1.heap.size (ls.take k)) ∧ Hid (Below w1.heap.size w1 wr)) (fun i _ => ls.length - (intOf i).toNat)
  case atStart => exact ⟨0, by omega, rfl, S0, N0⟩
  case round =>
    obtain ⟨k, hk, rfl, HS, HN⟩ := hrel
    by_cases hlt : k < ls.length
    · obtain ⟨b1, o1, e1, hc1⟩ := HA.out.cell (below2' B1.out HN.out) k hlt
      subst e1
      obtain ⟨x, hx⟩ : ∃ x, ls.getD k [] = x := ⟨_, rfl⟩
      have hx30 : x.length ≤ 100 := by
        have := HLl.out x (List.mem_of_getElem? ((getD_some hlt).trans (by rw [hx])))
        omega
      have HT2 : Hid (ls.take (k + 1) = ls.take k ++ [x]) := by
        show _ = _
        rw [List.take_succ_eq_append_getElem hlt, ← hx]
        simp [List.getD, List.getElem?_eq_getElem hlt]
      have htl : (ls.take k).length ≤ 1000 := by rw [List.length_take]; omega
      have hsz := HS.out.lt
      rw [hx] at hc1
      clear hx
      go_wp2_with (at_mapUpdate; refine wpList_set_add rfl _ _ _ rfl w1.heap.size (ls.take k) rfl HS.out htl x hx30 rfl rfl ?_; intro w2 hs2 hg2)
      go_roundw
      case rel => exact ⟨k + 1, by omega, by go_num, by show SetAt _ _ _; rw [HT2.out]; exact hs2, HN.out.grown hg2 (by omega) (fun i e => by injection e with e; omega)⟩
      case measure => simp [intOf]; omega
    · obtain rfl : k = ls.length := by omega
      rw [List.take_length] at HS
      clear S0 N0 hlt hk
      go_wp2_with fail
      go_loopw [8] (fun i ws => ∃ k : Nat, k ≤ ms.length ∧ i = .int .i64 k ∧ Hid (SetAt ws w1.heap.size (ls ++ ms.take k)) ∧ Hid (Below w1.heap.size w1 ws)) (fun i _ => ms.length - (intOf i).toNat)
      case atStart => exact ⟨0, by omega, rfl, by show SetAt _ _ _; simpa using HS.out, HN⟩
      case round =>
        clear HS HN
        obtain ⟨k, hk, rfl, HS, HN⟩ := hrel
        by_cases hlt : k < ms.length
        · obtain ⟨b1, o1, e1, hc1⟩ := HB.out.cell (below2' B1.out HN.out) k hlt
          subst e1
          obtain ⟨x, hx⟩ : ∃ x, ms.getD k [] = x := ⟨_, rfl⟩
          have hx30 : x.length ≤ 100 := by
            have := HMl.out x (List.mem_of_getElem? ((getD_some hlt).trans (by rw [hx])))
            omega
          have HT2 : Hid (ls ++ ms.take (k + 1) = ls ++ ms.take k ++ [x]) := by
            show _ = _
            rw [List.take_succ_eq_append_getElem hlt, ← hx, ← List.append_assoc]
            simp [List.getD, List.getElem?_eq_getElem hlt]
          have htl : (ls ++ ms.take k).length ≤ 1000 := by rw [List.length_append, List.length_take]; omega
          have hsz := HS.out.lt
          rw [hx] at hc1
          clear hx
          go_wp2_with (at_mapUpdate; refine wpList_set_add rfl _ _ _ rfl w1.heap.size (ls ++ ms.take k) rfl HS.out htl x hx30 rfl rfl ?_; intro w2 hs2 hg2)
          go_roundw
          case rel => exact ⟨k + 1, by omega, by go_num, by show SetAt _ _ _; rw [HT2.out]; exact hs2, HN.out.grown hg2 (by omega) (fun i e => by injection e with e; omega)⟩
          case measure => simp [intOf]; omega
        · obtain rfl : k = ms.length := by omega
          rw [List.take_length] at HS
          clear hlt hk
          have HR : Hid (Rising M) := by show Rising M; rw [← hM.out]; exact mrg_rising _
          have HMem : Hid (∀ x ∈ M, x ∈ ls ++ ms ∧ x.length ≤ 100) := by
            show ∀ x ∈ M, _
            intro x hx
            rw [← hM.out, mrg_mem] at hx
            refine ⟨hx, ?_⟩
            rcases List.mem_append.1 hx with h | h
            · have := HLl.out x h
              omega
            · have := HMl.out x h
              omega
          clear HLl HMl
          go_wp2_with fail
          go_loopw [9] (fun i wt => ∃ k : Nat, k ≤ M.length ∧ i = .int .i64 k ∧ Hid (SetAt wt w1.heap.size (ls ++ ms)) ∧ Hid (Below w1.heap.size w1 wt)) (fun i _ => M.length - (intOf i).toNat)
          case atStart => exact ⟨0, by omega, rfl, HS, HN⟩
          case round =>
            clear HS HN
            obtain ⟨k, hk, rfl, HS, HN⟩ := hrel
            by_cases hlt : k < M.length
            · obtain ⟨b1, o1, e1, hc1⟩ := HT.out.cell HN.out k hlt
              subst e1
              obtain ⟨x, hx⟩ : ∃ x, M.getD k [] = x := ⟨_, rfl⟩
              obtain ⟨hxm, hx100⟩ := HMem.out x (List.mem_of_getElem? ((getD_some hlt).trans (by rw [hx])))
              have hlk := fun d os => (HS.out.later (below_regrown _ d os)).look x hx100 (decide_eq_true hxm)
              rcases Nat.eq_zero_or_pos k with rfl | hpos
              · rw [hx, Nat.add_zero] at hc1
                have g1 := cell_regrown hc1
                clear hx hxm hc1
                go_wp2_with fail
                refine wp_region_quiet_below (by kernel_rfl) (by kernel_rfl) ?_
                repeat (go_big_quiet_step (fail))
                refine wpQuiet_nil ?_
                intro w5 hw5
                have hb5 := regrown_belowM hw5
                have HN5 := Lib.hid (below2' HN.out hb5)
                have HS5 := Lib.hid (HS.out.later hb5)
                clear hw5 hb5 g1 hlk
                go_wp2_with fail
                go_roundw
                case rel => exact ⟨1, by omega, by go_num, HS5, HN5⟩
                case measure => simp [intOf]; omega
              · obtain ⟨j, rfl⟩ : ∃ j, k = j + 1 := ⟨k - 1, by omega⟩
                obtain ⟨b2, o2, e2, hc2⟩ := HT.out.cell HN.out j (by omega)
                injection e2 with e2
                injection e2 with e3 e4 _
                subst e3 e4
                have HLe := Lib.hid (less_eq (M.getD j []) x (r := true) (by show _ = _; rw [← hx]; exact rising_next HR.out hlt))
                obtain ⟨y, hy⟩ : ∃ y, M.getD j [] = y := ⟨_, rfl⟩
                rw [hx] at hc1
                rw [hy] at hc2 HLe
                have g1 := cell_regrown hc1
                have g2 := cell_regrown hc2
                clear hx hxm hc1 hy hc2 hpos
                go_wp2_with fail
                refine wp_region_quiet_below (by kernel_rfl) (by kernel_rfl) ?_
                repeat (go_big_quiet_step (with_reducible exact rgB HLe.out _ _ _))
                refine wpQuiet_nil ?_
                intro w5 hw5
                have hb5 := regrown_belowM hw5
                have HN5 := Lib.hid (below2' HN.out hb5)
                have HS5 := Lib.hid (HS.out.later hb5)
                clear hw5 hb5 g1 g2 hlk
                go_wp2_with fail
                go_roundw
                case rel => exact ⟨j + 1 + 1, by omega, by go_num, HS5, HN5⟩
                case measure => simp [intOf]; omega
            · obtain rfl : k = M.length := by omega
              have hln := fun ty => HS.out.len ty
              rw [hM.out] at hln
              have HN0 := Lib.hid (below2' B1.out HN.out)
              have HTw := Lib.hid (HT.out.later HN.out)
              clear hlt hk
              go_wp2_with fail
              refine (merge_any (HB.out.later HN0.out) (HA.out.later HN0.out) (by omega) (by omega)).mono ?_
              rintro e w2 ⟨v2, rfl, ht2, b2⟩
              rw [mrg_turn, hM.out] at ht2
              have HN2 := Lib.hid (below2' HN0.out b2)
              have HT2 := Lib.hid ht2
              have HTw2 := Lib.hid (HTw.out.later b2)
              clear ht2 b2 hln
              go_wp2_with fail
              refine (same_yes HTw2.out HT2.out (by omega)).mono ?_
              rintro e w3 ⟨rfl, b3⟩
              have HN3 := Lib.hid (below2' HN2.out b3)
              have HTw3 := Lib.hid (HTw2.out.later b3)
              clear b3
              go_wp2_with fail
              refine (merge_any HTw3.out (HA.out.later HN3.out) (by omega) (by omega)).mono ?_
              rintro e w4 ⟨v4, rfl, ht4, b4⟩
              rw [← hM.out, mrg_again, hM.out] at ht4
              have HN4 := Lib.hid (below2' HN3.out b4)
              have HT4 := Lib.hid ht4
              have HTw4 := Lib.hid (HTw3.out.later b4)
              clear ht4 b4
              go_wp2_with fail
              refine (same_yes HTw4.out HT4.out (by omega)).mono ?_
              rintro e w5 ⟨rfl, b5⟩
              have HN5 := Lib.hid (below2' HN4.out b5)
              clear b5
              go_wp2_with fail
              refine (live3 _).mono ?_
              rintro e w6 ⟨rfl, b6⟩
              have HN6 := Lib.hid (below2' HN5.out b6)
              clear b6
              go_wp2_with fail
              go_ret
              exact ⟨rfl, HN6.out⟩

theorem walkIdentMerged {w : World} (a : Option Addr) (len cap : Nat) (ss : List ByteArray) (ha : IsStrs w a len cap ss) (a2 : Option Addr) (len2 cap2 : Nat) (ss2 : List ByteArray) (hb : IsStrs w a2 len2 cap2 ss2) :
    Calls Try.prog 8 #[.slice a len cap, .slice a2 len2 cap2] w fun e w' => e = .returned (.bool true) ∧ Below w.heap.size w w' := by
  obtain ⟨ls, h1, _, _⟩ := texts_of_strs ha
  obtain ⟨ms, h2, _, _⟩ := texts_of_strs hb
  cases hf : fewB ls with
  | false => exact identMerged_no1 h1 h2 hf
  | true =>
    cases hg : fewB ms with
    | false => exact identMerged_no2 h1 h2 hf hg
    | true => exact identMerged_yes h1 h2 hf hg

end Go.Proofs.Ytmbgdkelghoghaa
