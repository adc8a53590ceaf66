/-
  THE PROOF OF RostWatchers: for every input the law returns true, and each argument reads behind the call as it read before. No condition.
-/
import Derived.Test.YtfkadkopolenbaaGR21
import Derived.Test.YtfkadkopolenbaaGR22
import Derived.Test.YtfkadkopolenbaaGR18
import Derived.Test.YtfkadkopolenbaaGR23
import Derived.Test.YtfkadkopolenbaaGR13
import Derived.Test.YtfkadkopolenbaaRows
import Derived.ProofKit
import Derived.OpenShut
import Derived.ShutString
import Derived.ChangeOld
import Derived.SliceStrings
import Derived.Lib.SmallJoins

section

/-
  THE WALK OF RostWatchers.
-/
namespace Go.Proofs.Ytfkadkopolenbaa
open Go.RowKit

theorem any_takeW {ls : List (List UInt8)} {x : List UInt8} {k : Nat} (hk : k < ls.length) : ((ls.take (k + 1)).any fun y => y == x) = (((ls.take k).any fun y => y == x) || (ls.getD k [] == x)) := by
  rw [List.take_add_one, List.getElem?_eq_getElem hk, List.getD_eq_getElem?_getD, List.getElem?_eq_getElem hk]
  simp only [Option.toList_some, List.any_append, List.any_cons, List.any_nil, Bool.or_false, Option.getD_some]

theorem getD_memW {ls : List (List UInt8)} {k : Nat} (hk : k < ls.length) : ls.getD k [] ∈ ls := by
  rw [List.getD_eq_getElem?_getD, List.getElem?_eq_getElem hk]
  exact List.getElem_mem hk

theorem any_decW (ls : List (List UInt8)) (x : List UInt8) : ((ls.take ls.length).any fun y => y == x) = decide (x ∈ ls) := by
  rw [List.take_length, Bool.eq_iff_iff, List.any_eq_true, decide_eq_true_eq]
  constructor
  · rintro ⟨y, h1, h2⟩; rw [beq_iff_eq] at h2; exact h2 ▸ h1
  · intro h; exact ⟨x, h, by simp⟩

def cntW (l : List Ent) (c : List UInt8) (ls : List (List UInt8)) (k : Nat) : Nat := ((ls.take k).filter fun x => roSees l x c).length

theorem cntW_next {l : List Ent} {c : List UInt8} {ls : List (List UInt8)} {k : Nat} (hk : k < ls.length) : cntW l c ls (k + 1) = cntW l c ls k + if roSees l (ls.getD k []) c = true then 1 else 0 := by
  unfold cntW
  rw [List.take_add_one, List.getElem?_eq_getElem hk, List.getD_eq_getElem?_getD, List.getElem?_eq_getElem hk, List.filter_append, List.length_append]
  simp only [Option.toList_some, Option.getD_some, List.filter_cons, List.filter_nil]
  split <;> rfl

theorem cntW_le (l : List Ent) (c : List UInt8) (ls : List (List UInt8)) (k : Nat) : cntW l c ls k ≤ ls.length := by
  unfold cntW
  refine Nat.le_trans (List.length_filter_le _ _) ?_
  rw [List.length_take]
  omega

set_option maxHeartbeats 3200000 in
set_option maxRecDepth 100000 in
theorem rwats_1 {w : World} {v : Value} {l : List Ent} (hv : Ents w v l) (c x : List UInt8) (hw : fewR l = false) :
    Calls Try.prog 7 #[v, .string ⟨c.toArray⟩, .string ⟨x.toArray⟩] w fun e w' => e = .returned (.bool true) ∧ Below w.heap.size w w' := by
  have HF := Lib.hid (few8_any hv (Lib.hid hw))
  obtain ⟨ao, cap, rfl, hm⟩ := hv.open'
  clear hv hw
  go_enter Try.func7, Try.ntmps7
  go_wp2_with fail
  refine HF.out.mono ?_
  rintro e w0 ⟨rfl, rfl⟩
  go_wp2_with fail
  refine (live8 _).mono ?_
  rintro e w1 ⟨rfl, b1⟩
  have HB := Lib.hid b1
  clear b1
  go_wp2_with fail
  go_ret
  exact ⟨rfl, HB.out⟩

set_option maxHeartbeats 3200000 in
set_option maxRecDepth 100000 in
theorem rwats_2 {w : World} {v : Value} {l : List Ent} (hv : Ents w v l) (c x : List UInt8) (hw : fewR l = true) {may : Bool} (hm8 : roMayD l = may) (hno : may = false ∨ ¬ c.length ≤ 40 ∨ ¬ x.length ≤ 40) :
    Calls Try.prog 7 #[v, .string ⟨c.toArray⟩, .string ⟨x.toArray⟩] w fun e w' => e = .returned (.bool true) ∧ Below w.heap.size w w' := by
  have HF := Lib.hid (few8_any hv (Lib.hid hw))
  have HL := (fewR_get hw).1
  have HS := Lib.hid (fewR_short hw)
  have V := Lib.hid hv
  have HM := Lib.hid hm8
  obtain ⟨ao, cap, rfl, hm⟩ := hv.open'
  clear hv hw hm8
  cases may with
  | false =>
    clear hno
    go_enter Try.func7, Try.ntmps7
    go_wp2_with fail
    refine HF.out.mono ?_
    rintro e w0 ⟨rfl, rfl⟩
    go_wp2_with fail
    refine (rmay8_any V.out HS.out (by omega) HM).mono ?_
    rintro e w1 ⟨rfl, b1⟩
    have HB := Lib.hid b1
    clear b1
    go_wp2_with fail
    refine (live8 _).mono ?_
    rintro e w2 ⟨rfl, b2⟩
    replace HB := Lib.hid (below2Z HB.out b2)
    clear b2
    go_wp2_with fail
    go_ret
    exact ⟨rfl, HB.out⟩
  | true =>
    by_cases hc : c.length ≤ 40
    · have hx : ¬ x.length ≤ 40 := by
        rcases hno with h | h | h
        · cases h
        · exact absurd hc h
        · exact h
      have tc : decide ((40 : Int) < (c.length : Int)) = false := by rw [decide_eq_false_iff_not]; omega
      have tx : decide ((40 : Int) < (x.length : Int)) = true := by rw [decide_eq_true_eq]; omega
      clear hno
      go_enter Try.func7, Try.ntmps7
      go_wp2_with fail
      refine HF.out.mono ?_
      rintro e w0 ⟨rfl, rfl⟩
      go_wp2_with fail
      refine (rmay8_any V.out HS.out (by omega) HM).mono ?_
      rintro e w1 ⟨rfl, b1⟩
      have HB := Lib.hid b1
      clear b1
      go_wp2_with fail
      refine (live8 _).mono ?_
      rintro e w2 ⟨rfl, b2⟩
      replace HB := Lib.hid (below2Z HB.out b2)
      clear b2
      go_wp2_with fail
      go_ret
      exact ⟨rfl, HB.out⟩
    · have tc : decide ((40 : Int) < (c.length : Int)) = true := by rw [decide_eq_true_eq]; omega
      clear hno
      go_enter Try.func7, Try.ntmps7
      go_wp2_with fail
      refine HF.out.mono ?_
      rintro e w0 ⟨rfl, rfl⟩
      go_wp2_with fail
      refine (rmay8_any V.out HS.out (by omega) HM).mono ?_
      rintro e w1 ⟨rfl, b1⟩
      have HB := Lib.hid b1
      clear b1
      go_wp2_with fail
      refine (live8 _).mono ?_
      rintro e w2 ⟨rfl, b2⟩
      replace HB := Lib.hid (below2Z HB.out b2)
      clear b2
      go_wp2_with fail
      go_ret
      exact ⟨rfl, HB.out⟩

theorem rising_atW {ls : List (List UInt8)} (h : ls.Pairwise fun a b => idLess a b = true) {j : Nat} (hj : j + 1 < ls.length) : idLess (ls.getD j []) (ls.getD (j + 1) []) = true := by
  rw [List.getD_eq_getElem?_getD, List.getElem?_eq_getElem (by omega), List.getD_eq_getElem?_getD, List.getElem?_eq_getElem hj]
  exact List.pairwise_iff_getElem.1 h j (j + 1) (by omega) hj (by omega)

set_option maxHeartbeats 12800000 in
set_option maxRecDepth 100000 in
theorem rwats_3 {w : World} {v : Value} {l : List Ent} (hv : Ents w v l) (c x : List UInt8) (hw : fewR l = true) (hm8 : roMayD l = true) (hc : c.length ≤ 40) (hx : x.length ≤ 40) :
    Calls Try.prog 7 #[v, .string ⟨c.toArray⟩, .string ⟨x.toArray⟩] w fun e w' => e = .returned (.bool true) ∧ Below w.heap.size w w' := by
  have HF := Lib.hid (few8_any hv (Lib.hid hw))
  have HL := (fewR_get hw).1
  have HS := Lib.hid (fewR_short hw)
  have V := Lib.hid hv
  have HM := Lib.hid hm8
  have hmc := (roMay_same l).symm.trans hm8
  have hr := roMay_rise hmc
  have HR := Lib.hid hr
  obtain ⟨ws, hws⟩ : ∃ ws, roWat l c = ws := ⟨_, rfl⟩
  obtain ⟨cs, hcs⟩ : ∃ cs, roOf l c = cs := ⟨_, rfl⟩
  have hwl : ws.length ≤ 80 := by rw [← hws]; unfold roWat; rw [List.length_map]; exact Nat.le_trans (List.length_filter_le _ _) HL
  have hcl : cs.length ≤ 80 := by rw [← hcs]; exact Nat.le_trans (roOf_le _ _) HL
  have HWM : Hid (∀ y, y ∈ ws ↔ roSees l y c = true) := Lib.hid (fun y => by rw [← hws]; exact roWat_mem hr)
  have HWR : Hid (ws.Pairwise fun a b => idLess a b = true) := by show ws.Pairwise _; rw [← hws]; exact roWat_rise hr c
  have HWO : Hid (cntW l c cs cs.length = ws.length) := by
    show cntW l c cs cs.length = ws.length
    unfold cntW
    rw [List.take_length, ← hcs, roWat_of hmc, hws]
  have tc : decide ((40 : Int) < (c.length : Int)) = false := by rw [decide_eq_false_iff_not]; omega
  have tx : decide ((40 : Int) < (x.length : Int)) = false := by rw [decide_eq_false_iff_not]; omega
  obtain ⟨ao, cap, rfl, hm⟩ := hv.open'
  clear hv hw hm8 hmc hr
  go_enter Try.func7, Try.ntmps7
  go_wp2_with fail
  refine HF.out.mono ?_
  rintro e w0 ⟨rfl, rfl⟩
  go_wp2_with fail
  refine (rmay8_any V.out HS.out (by omega) HM).mono ?_
  rintro e w1 ⟨rfl, b1⟩
  replace V := Lib.hid (V.out.later b1)
  have HB := Lib.hid b1
  clear b1
  go_wp2_with fail
  refine (rwatchers_rise V.out HR.out (by omega) c).mono ?_
  rintro e w2 ⟨x2, rfl, h2, b2⟩
  replace V := Lib.hid (V.out.later b2)
  replace HB := Lib.hid (below2Z HB.out b2)
  rw [hws] at h2
  have U := Lib.hid h2
  obtain ⟨ua, uc, e2, -⟩ := h2
  subst e2
  clear b2 hws
  go_wp2_with fail
  go_loopw [8, 9] (fun m i wr => ∃ k : Nat, k ≤ ws.length ∧ m = .bool ((ws.take k).any fun y => y == x) ∧ i = .int .i64 k ∧ Hid (Below w2.heap.size w2 wr)) (fun _ i _ => ws.length - (intOf i).toNat)
  case atStart => exact ⟨0, by omega, rfl, rfl, Below.refl _ _⟩
  case round =>
    obtain ⟨k, hk, rfl, rfl, HN⟩ := hrel
    have VR := Lib.hid (V.out.later HN.out)
    by_cases hlt : k < ws.length
    · obtain ⟨ub, uo, e3, d0⟩ := U.out.cell HN.out k hlt
      subst e3
      have hnx := any_takeW (x := x) hlt
      obtain ⟨uk, huk⟩ : ∃ u, ws.getD k [] = u := ⟨_, rfl⟩
      have hsee : roSees l uk c = true := (HWM.out uk).1 (by rw [← huk]; exact getD_memW hlt)
      have F1 : Hid (∀ w', Below wr.heap.size wr w' → _) := Lib.hid (fun w' hw' => sees8_any (VR.out.later hw') uk c)
      rw [hsee] at F1
      rw [huk] at d0 hnx
      have D0 := Lib.hid d0
      obtain ⟨mm, hmm⟩ : ∃ b, ((ws.take k).any fun y => y == x) = b := ⟨_, rfl⟩
      rw [hmm] at hnx ⊢
      have HNX := Lib.hid hnx
      have hk0 : (0 : Int) ≤ (k : Int) := by omega
      have hk1 : (k : Int) < (ws.length : Int) := by omega
      have HUK := Lib.hid huk
      clear hmm hnx hsee huk d0
      have fin : ∀ w8 : World, Below wr.heap.size wr w8 → w8.cell? ⟨ub, uo + k, none⟩ = some (.string ⟨uk.toArray⟩) := fun w8 h => cellLaterZ D0.out h
      by_cases hk00 : k = 0
      · have t3 : decide ((0 : Int) < (k : Int)) = false := by rw [decide_eq_false_iff_not]; omega
        have t3' : decide (0 < k) = false := by rw [decide_eq_false_iff_not]; omega
        have d0 := cell_regrown D0.out
        clear hk00
        go_wp2_with fail
        refine wp_region_quiet_below (by kernel_rfl) (by kernel_rfl) ?_
        repeat (go_big_quiet_step (with_reducible exact rgM F1.out _ _))
        refine wpQuiet_nil ?_
        intro w8 hw8
        replace HN := Lib.hid (below2Z HN.out (regrownZ hw8))
        have hcell := fin _ (regrownZ hw8)
        clear hw8 d0 fin
        cases mm with
        | true =>
          rw [Bool.true_or] at HNX
          go_wp2_with fail
          go_roundw
          case rel => exact ⟨k + 1, by omega, by rw [HNX.out], by go_num, HN⟩
          case measure => simp [intOf]; omega
        | false =>
          rw [Bool.false_or] at HNX
          by_cases he : uk = x
          · have t1 : (uk == x) = true := by rw [beq_iff_eq]; exact he
            rw [t1] at HNX
            subst he
            go_wp2_with fail
            go_roundw
            case rel => exact ⟨k + 1, by omega, by rw [HNX.out], by go_num, HN⟩
            case measure => simp [intOf]; omega
          · have t1 : (uk == x) = false := by rw [beq_eq_false_iff_ne]; exact he
            rw [t1] at HNX
            clear he
            go_wp2_with fail
            go_roundw
            case rel => exact ⟨k + 1, by omega, by rw [HNX.out], by go_num, HN⟩
            case measure => simp [intOf]; omega
      · obtain ⟨j, rfl⟩ : ∃ j, k = j + 1 := ⟨k - 1, by omega⟩
        obtain ⟨ub2, uo2, e8, p0⟩ := U.out.cell HN.out j (by omega)
        injection e8 with e8
        injection e8 with e9 e10 _
        subst e9 e10
        have hle := rising_atW HWR.out hlt
        obtain ⟨uj, hj2⟩ : ∃ u, ws.getD j [] = u := ⟨_, rfl⟩
        rw [hj2] at p0 hle
        rw [HUK.out] at hle
        have F2 := Lib.hid (rless_eq uj uk (Lib.hid hle))
        have d0 := cell_regrown D0.out
        replace p0 := cell_regrown p0
        have em : ((j + 1 : Nat) : Int) - 1 = (j : Int) := by omega
        have t6 : (0 : Int) ≤ (j : Int) := by omega
        have t7 : (j : Int) < (ws.length : Int) := by omega
        have t8 : decide ((0 : Int) < ((j + 1 : Nat) : Int)) = true := by rw [decide_eq_true_eq]; omega
        clear hle hj2 hk00
        go_wp2_with fail
        refine wp_region_quiet_below (by kernel_rfl) (by kernel_rfl) ?_
        repeat (go_big_quiet_step (first | with_reducible exact rgM F1.out _ _ | with_reducible exact rgS F2.out _ _ _))
        refine wpQuiet_nil ?_
        intro w8 hw8
        replace HN := Lib.hid (below2Z HN.out (regrownZ hw8))
        have hcell := fin _ (regrownZ hw8)
        clear hw8 d0 fin p0
        cases mm with
        | true =>
          rw [Bool.true_or] at HNX
          go_wp2_with fail
          go_roundw
          case rel => exact ⟨j + 1 + 1, by omega, by rw [HNX.out], by go_num, HN⟩
          case measure => simp [intOf]; omega
        | false =>
          rw [Bool.false_or] at HNX
          by_cases he : uk = x
          · have t1 : (uk == x) = true := by rw [beq_iff_eq]; exact he
            rw [t1] at HNX
            subst he
            go_wp2_with fail
            go_roundw
            case rel => exact ⟨j + 1 + 1, by omega, by rw [HNX.out], by go_num, HN⟩
            case measure => simp [intOf]; omega
          · have t1 : (uk == x) = false := by rw [beq_eq_false_iff_ne]; exact he
            rw [t1] at HNX
            clear he
            go_wp2_with fail
            go_roundw
            case rel => exact ⟨j + 1 + 1, by omega, by rw [HNX.out], by go_num, HN⟩
            case measure => simp [intOf]; omega
    · obtain rfl : k = ws.length := by omega
      have HAN := Lib.hid (any_decW ws x)
      rw [HAN.out]
      replace HB := Lib.hid (below2Z HB.out HN.out)
      clear HN
      go_wp2_with fail
      refine (of_any VR.out (by omega) c).mono ?_
      rintro e w4 ⟨x4, rfl, h4, b4⟩
      replace VR := Lib.hid (VR.out.later b4)
      replace HB := Lib.hid (below2Z HB.out b4)
      have T4 := Lib.hid h4.texts
      rw [hcs] at T4
      obtain ⟨ca, cc, e4, -⟩ := T4.out
      subst e4
      clear h4 b4 hcs
      go_wp2_with fail
      go_loopw [10, 12] (fun m i wr => ∃ q : Nat, q ≤ cs.length ∧ m = .int .i64 (cntW l c cs q) ∧ i = .int .i64 q ∧ Hid (Below w4.heap.size w4 wr)) (fun _ i _ => cs.length - (intOf i).toNat)
      case atStart => exact ⟨0, by omega, rfl, rfl, Below.refl _ _⟩
      case round =>
        obtain ⟨q, hq, rfl, rfl, HN5⟩ := hrel
        have V5 := Lib.hid (VR.out.later HN5.out)
        by_cases hlq : q < cs.length
        · obtain ⟨cb, co, e5, d1⟩ := T4.out.cell HN5.out q hlq
          subst e5
          have hnx := cntW_next (l := l) (c := c) hlq
          have hle := cntW_le l c cs q
          obtain ⟨cq, hcq⟩ : ∃ u, cs.getD q [] = u := ⟨_, rfl⟩
          rw [hcq] at d1 hnx
          obtain ⟨r, hr⟩ : ∃ r, roSees l cq c = r := ⟨_, rfl⟩
          have F5 := Lib.hid (sees8_any V5.out cq c)
          rw [hr] at hnx F5
          clear hcq hr
          cases r with
          | true =>
            simp only [if_true] at hnx
            have HNX := Lib.hid hnx
            have hw1 : IntKind.i64.wrap ((cntW l c cs q : Int) + 1) = (cntW l c cs (q + 1) : Int) := by rw [IntWalk.i64_in _ (by omega), HNX.out]; omega
            clear hnx
            go_wp2_with fail
            refine F5.out.mono ?_
            rintro e w6 ⟨rfl, b6⟩
            have N6 := Lib.hid (below2Z HN5.out b6)
            clear b6 d1
            go_wp2_with fail
            go_roundw
            case rel => exact ⟨q + 1, by omega, rfl, by go_num, N6⟩
            case measure => simp [intOf]; omega
          | false =>
            simp only [Bool.false_eq_true, if_false, Nat.add_zero] at hnx
            have HNX := Lib.hid hnx
            clear hnx
            go_wp2_with fail
            refine F5.out.mono ?_
            rintro e w6 ⟨rfl, b6⟩
            have N6 := Lib.hid (below2Z HN5.out b6)
            clear b6 d1
            go_wp2_with fail
            go_roundw
            case rel => exact ⟨q + 1, by omega, by rw [HNX.out], by go_num, N6⟩
            case measure => simp [intOf]; omega
        · obtain rfl : q = cs.length := by omega
          rw [HWO.out]
          replace HB := Lib.hid (below2Z HB.out HN5.out)
          have hsx : roSees l x c = decide (x ∈ ws) := by
            rw [Bool.eq_iff_iff, decide_eq_true_eq]
            exact (HWM.out x).symm
          have F7 := Lib.hid (sees8_any V5.out x c)
          rw [hsx] at F7
          obtain ⟨am, ham⟩ : ∃ b, decide (x ∈ ws) = b := ⟨_, rfl⟩
          rw [ham] at F7 ⊢
          have t7 : (am == am) = true := beq_self_eq_true _
          have t8 : ((ws.length : Int) == (ws.length : Int)) = true := beq_self_eq_true _
          clear hsx ham HN5
          go_wp2_with fail
          refine F7.out.mono ?_
          rintro e w7 ⟨rfl, b7⟩
          replace HB := Lib.hid (below2Z HB.out b7)
          clear b7
          go_wp2_with fail
          refine (live8 _).mono ?_
          rintro e w8 ⟨rfl, b8⟩
          replace HB := Lib.hid (below2Z HB.out b8)
          clear b8
          go_wp2_with fail
          go_ret
          exact ⟨rfl, HB.out⟩

theorem walkRostWatchers {w : World} {v : Value} {l : List Ent} (hv : Ents w v l) (c : List UInt8) (_ : c.length ≤ maxLen) (x : List UInt8) (_ : x.length ≤ maxLen) :
    Calls Try.prog 7 #[v, .string ⟨c.toArray⟩, .string ⟨x.toArray⟩] w fun e w' => e = .returned (.bool true) ∧ Below w.heap.size w w' := by
  cases hw : fewR l with
  | false => exact rwats_1 hv c x hw
  | true =>
    cases hm : roMayD l with
    | false => exact rwats_2 hv c x hw hm (.inl rfl)
    | true =>
      by_cases hc : c.length ≤ 40
      · by_cases hx : x.length ≤ 40
        · exact rwats_3 hv c x hw hm hc hx
        · exact rwats_2 hv c x hw hm (.inr (.inr hx))
      · exact rwats_2 hv c x hw hm (.inr (.inl hc))

end Go.Proofs.Ytfkadkopolenbaa

end

section

/-
  THE FRAME OF THE PROOF OF RostWatchers: for every input the law returns true, and each argument reads behind the call as it read before. No condition.
-/
namespace Go.Proofs.Ytfkadkopolenbaa.rostWatchers
open Go.ChangeShapes Go.WideShapes Go.ChangeAt Go.RowKit
open Go.ChangeMaps (open_string shut_string)
set_option linter.unusedVariables false

theorem own : ownKnob Try.prog.godebug = none := by kernel_rfl
theorem laidOut : laidOutB Try.prog = true := by kernel_rfl

set_option maxRecDepth 100000 in
theorem lifted (os : Os) (started : os.Started) (H : Type) (enc : TypeId × Value → H) :
    ReturnsInHanded {} Try.checked os 7 .any (Rows.rostWatchersSpec.pre6 enc Try.prog Try.f7 Rows.rostWatchersRow.domain false) (Rows.rostWatchersSpec.post enc Try.prog Try.f7 false true false false) := by
  refine returnsInHanded_of_change (C := Try.checked) own started (by kernel_rfl) Try.func7
    (ChangeSpec.witness6 (enc := enc) (C := Try.checked) false ⟨#[], #[.slice none 0 0, .string ByteArray.empty, .string ByteArray.empty], []⟩ 8 (by kernel_rfl) (by kernel_rfl) (by kernel_rfl) (by kernel_rfl)) ?_
  intro W base args ds gs before hval0 hW hcnd _
  have hval : ∀ (j : Nat) t v, Try.f7.params[j]? = some t → args[j]? = some v → Value.okWide Try.prog W .any base t v := hval0
  have hW' := hW
  obtain ⟨p, q, hA0, hV, rfl, hfz, hnd⟩ := hW
  have hA : DataW.TrodAll enc Try.prog W 0 (fun _ => true) true Try.f7.params.toList args.toList ds p := hA0
  rw [Try.params7] at hA hval
  obtain ⟨v0, vs0, d0, ds0, p0, q0, hargs, rfl, rfl, h0, r0⟩ := trodAll_cons hA
  obtain ⟨v1, vs1, d1, ds1, p1, q1, rfl, rfl, rfl, h1, r1⟩ := trodAll_cons r0
  obtain ⟨v2, vs2, d2, ds2, p2, q2, rfl, rfl, rfl, h2, r2⟩ := trodAll_cons r1
  obtain ⟨rfl, rfl, rfl⟩ := trodAll_nil r2
  obtain rfl : args = #[v0, v1, v2] := by cases args; simp_all
  obtain ⟨rfl, rfl⟩ := trodVars_none hV
  have k0 := h0
  have lt0 : ∀ x ∈ p0, x.block < W.heap.size := by obtain ⟨m, hm⟩ := k0; exact DataW.trod_lt m _ _ _ hm
  obtain ⟨l0, w0⟩ := open_ents (hval 0 22 v0 rfl rfl) h0
  have k1 := h1
  have lt1 : ∀ x ∈ p1, x.block < W.heap.size := by obtain ⟨m, hm⟩ := k1; exact DataW.trod_lt m _ _ _ hm
  obtain ⟨s1, rfl, hd1, hp1, w1⟩ := open_string Try.underlying9 (hval 1 9 v1 rfl rfl) h1
  obtain ⟨a1, e1⟩ : ∃ l : List UInt8, s1 = ⟨l.toArray⟩ := ⟨s1.data.toList, by cases s1; simp⟩
  subst e1
  have w1 : a1.length ≤ maxLen := by rw [← size_bytes]; exact w1
  have k2 := h2
  have lt2 : ∀ x ∈ p2, x.block < W.heap.size := by obtain ⟨m, hm⟩ := k2; exact DataW.trod_lt m _ _ _ hm
  obtain ⟨s2, rfl, hd2, hp2, w2⟩ := open_string Try.underlying9 (hval 2 9 v2 rfl rfl) h2
  obtain ⟨a2, e2⟩ : ∃ l : List UInt8, s2 = ⟨l.toArray⟩ := ⟨s2.data.toList, by cases s2; simp⟩
  subst e2
  have w2 : a2.length ≤ maxLen := by rw [← size_bytes]; exact w2
  clear hA0 hval0
  refine (walkRostWatchers (w := W) w0 a1 w1 a2 w2).mono fun e W' ⟨he, bel⟩ => ?_
  subst he
  exact ⟨_, rfl, _, _, _, [], _, [], hW', trodAll_mk1 (shut_bool Try.underlying4 _), (trodAll_cons_mk (Below.trod laidOut (by kernel_rfl) (of_decide_eq_true (by kernel_rfl)) k0 bel lt0) (trodAll_cons_mk (Below.trod laidOut (by kernel_rfl) (of_decide_eq_true (by kernel_rfl)) k1 bel lt1) (trodAll_cons_mk (Below.trod laidOut (by kernel_rfl) (of_decide_eq_true (by kernel_rfl)) k2 bel lt2) trodAll_mk0))), rfl, bel.frame _, fun h => by cases h⟩

theorem over : Rows.rostWatchersRow.holds Try.pinned (OpenSpec.ofChange Rows.rostWatchersSpec) :=
  OpenClaim.holds_of_wide 7 Try.f7 rfl rfl rfl rfl rfl rfl rfl ⟨rfl, rfl, rfl, rfl, rfl⟩ rfl rfl rfl rfl rfl (by kernel_rfl) Try.func7 (by kernel_rfl)
    (of_decide_eq_true (by kernel_rfl)) (by unfold Func.isWrapper; first | (rw [if_pos (by decide +kernel)]; kernel_rfl) | (rw [if_neg (by decide +kernel)]; exact ⟨rfl, rfl⟩))
    (fun os started H enc _ => lifted os started H enc)

/-- THE STATEMENT. -/
theorem proved : Rows.RostWatchersSaid := over
#print axioms proved
end Go.Proofs.Ytfkadkopolenbaa.rostWatchers

end
