/-
  THE PROOF OF RostSides: for every input the law returns true, and each argument reads behind the call as it read before. No condition.
-/
import Derived.Test.YtfkadkopolenbaaGR21
import Derived.Test.YtfkadkopolenbaaGR13
import Derived.Test.YtfkadkopolenbaaGR22
import Derived.Test.YtfkadkopolenbaaGR18
import Derived.Test.YtfkadkopolenbaaGR19
import Derived.Test.YtfkadkopolenbaaRows
import Derived.ProofKit
import Derived.OpenShut
import Derived.ShutString
import Derived.ChangeOld
import Derived.SliceStrings
import Derived.Lib.SmallJoins

section

/-
  THE WALK OF RostSides.
-/
namespace Go.Proofs.Ytfkadkopolenbaa
open Go.RowKit

set_option maxHeartbeats 3200000 in
set_option maxRecDepth 100000 in
theorem rsides_1 {w : World} {v : Value} {l : List Ent} (hv : Ents w v l) (hw : fewR l = false) :
    Calls Try.prog 8 #[v] w fun e w' => e = .returned (.bool true) ∧ Below w.heap.size w w' := by
  have HF := Lib.hid (few8_any hv (Lib.hid hw))
  obtain ⟨ao, cap, rfl, hm⟩ := hv.open'
  clear hv hw
  go_enter Try.func8, Try.ntmps8
  go_wp2_with fail
  refine HF.out.mono ?_
  rintro e w0 ⟨rfl, rfl⟩
  go_wp2_with fail
  refine (live8 _).mono ?_
  rintro e w1 ⟨rfl, b1⟩
  have HB := Lib.hid b1
  clear b1
  go_wp2_with fail
  go_ret
  exact ⟨rfl, HB.out⟩

set_option maxHeartbeats 3200000 in
set_option maxRecDepth 100000 in
theorem rsides_2 {w : World} {v : Value} {l : List Ent} (hv : Ents w v l) (hw : fewR l = true) (hm8 : roMayD l = false) :
    Calls Try.prog 8 #[v] w fun e w' => e = .returned (.bool true) ∧ Below w.heap.size w w' := by
  have HF := Lib.hid (few8_any hv (Lib.hid hw))
  have HL := (fewR_get hw).1
  have HS := Lib.hid (fewR_short hw)
  have V := Lib.hid hv
  have HM := Lib.hid hm8
  obtain ⟨ao, cap, rfl, hm⟩ := hv.open'
  clear hv hw hm8
  go_enter Try.func8, Try.ntmps8
  go_wp2_with fail
  refine HF.out.mono ?_
  rintro e w0 ⟨rfl, rfl⟩
  go_wp2_with fail
  refine (rmay8_any V.out HS.out (by omega) HM).mono ?_
  rintro e w1 ⟨rfl, b1⟩
  have HB := Lib.hid b1
  clear b1
  go_wp2_with fail
  refine (live8 _).mono ?_
  rintro e w2 ⟨rfl, b2⟩
  replace HB := Lib.hid (below2Z HB.out b2)
  clear b2
  go_wp2_with fail
  go_ret
  exact ⟨rfl, HB.out⟩

theorem any_take {ls : List (List UInt8)} {x : List UInt8} {k : Nat} (hk : k < ls.length) : ((ls.take (k + 1)).any fun y => y == x) = (((ls.take k).any fun y => y == x) || (ls.getD k [] == x)) := by
  rw [List.take_add_one, List.getElem?_eq_getElem hk, List.getD_eq_getElem?_getD, List.getElem?_eq_getElem hk]
  simp only [Option.toList_some, List.any_append, List.any_cons, List.any_nil, Bool.or_false, Option.getD_some]

theorem any_mem {ls : List (List UInt8)} {x : List UInt8} (h : x ∈ ls) : ((ls.take ls.length).any fun y => y == x) = true := by
  rw [List.take_length, List.any_eq_true]
  exact ⟨x, h, by simp⟩

theorem getD_mem {ls : List (List UInt8)} {k : Nat} (hk : k < ls.length) : ls.getD k [] ∈ ls := by
  rw [List.getD_eq_getElem?_getD, List.getElem?_eq_getElem hk]
  exact List.getElem_mem hk

def sumO (l : List Ent) (us : List (List UInt8)) (k : Nat) : Nat := ((us.take k).map fun u => (roOf l u).length).sum

theorem sumO_next {l : List Ent} {us : List (List UInt8)} {k : Nat} (hk : k < us.length) : sumO l us (k + 1) = sumO l us k + (roOf l (us.getD k [])).length := by
  unfold sumO
  rw [List.take_add_one, List.getElem?_eq_getElem hk, List.getD_eq_getElem?_getD, List.getElem?_eq_getElem hk]
  simp only [Option.toList_some, List.map_append, List.map_cons, List.map_nil, List.sum_append, List.sum_cons, List.sum_nil, Nat.add_zero, Option.getD_some]

theorem sumO_le {l : List Ent} {us : List (List UInt8)} (hl : l.length ≤ 80) : ∀ {k : Nat}, k ≤ us.length → sumO l us k ≤ 80 * k
  | 0, _ => by simp [sumO]
  | k + 1, h => by
    rw [sumO_next (by omega)]
    have := sumO_le hl (us := us) (k := k) (by omega)
    have := roOf_le l (us.getD k [])
    omega

theorem sumO_all {l : List Ent} {us : List (List UInt8)} (hn : us.Nodup) (hm : ∀ e ∈ l, e.o ∈ us) : sumO l us us.length = l.length := by
  unfold sumO
  rw [List.take_length]
  exact sum_owners l us hn hm

set_option maxHeartbeats 12800000 in
set_option maxRecDepth 100000 in
theorem rsides_3 {w : World} {v : Value} {l : List Ent} (hv : Ents w v l) (hw : fewR l = true) (hm8 : roMayD l = true) :
    Calls Try.prog 8 #[v] w fun e w' => e = .returned (.bool true) ∧ Below w.heap.size w w' := by
  obtain ⟨i0, hi, hz0, hz1, hz2⟩ := info_parts Try.infoTxt
  have HF := Lib.hid (few8_any hv (Lib.hid hw))
  have HL := (fewR_get hw).1
  have HS := Lib.hid (fewR_short hw)
  have V := Lib.hid hv
  have HM := Lib.hid hm8
  have HMC := Lib.hid ((roMay_same l).symm.trans hm8)
  obtain ⟨us, hus⟩ : ∃ us, mrg (l.map (·.o)) = us := ⟨_, rfl⟩
  obtain ⟨os, hos⟩ : ∃ os, l.map (·.o) = os := ⟨_, rfl⟩
  have hol : os.length = l.length := by rw [← hos, List.length_map]
  have HOG : Hid (∀ k, k < l.length → os.getD k [] = (l.getD k Ent.zero).o) := Lib.hid (fun k hk => by rw [← hos, List.getD_eq_getElem?_getD, List.getElem?_map, List.getElem?_eq_getElem hk, getD_at hk]; rfl)
  have hul : us.length ≤ 80 := by have := mrg_len (l.map (·.o)); rw [List.length_map, hus] at this; omega
  have HU : Hid (us.Nodup ∧ ∀ e ∈ l, e.o ∈ us) := by
    show us.Nodup ∧ ∀ e ∈ l, e.o ∈ us
    rw [← hus]
    exact ⟨rise_nodup (mrg_rising _), fun e he => (mrg_mem _ _).2 (List.mem_map_of_mem he)⟩
  rw [hos] at hus
  clear hos
  obtain ⟨ao, cap, rfl, hm⟩ := hv.open'
  clear hv hw hm8
  go_enter Try.func8, Try.ntmps8
  go_wp2_with fail
  refine HF.out.mono ?_
  rintro e w0 ⟨rfl, rfl⟩
  go_wp2_with fail
  refine (rmay8_any V.out HS.out (by omega) HM).mono ?_
  rintro e w1 ⟨rfl, b1⟩
  replace V := Lib.hid (V.out.later b1)
  have HB := Lib.hid b1
  clear b1
  go_wp2_with fail
  go_loopw [3, 4] (fun s i wr => ∃ k : Nat, k ≤ l.length ∧ i = .int .i64 k ∧ Hid (OwnT wr w1.heap.size 9 s (os.take k)) ∧ Hid (Below w1.heap.size w1 wr)) (fun _ i _ => l.length - (intOf i).toNat)
  case atStart => exact ⟨0, by omega, rfl, World.ownsRow_nil _ _ _ _, Below.refl _ _⟩
  case round =>
    obtain ⟨k, hk, rfl, HO, HN⟩ := hrel
    by_cases hlt : k < l.length
    · obtain ⟨b, off, rfl, h0, h1, h2, h3, h4, h5, h6⟩ := V.out.row HN.out k hlt
      have hX : os.take (k + 1) = os.take k ++ [(l.getD k Ent.zero).o] := by rw [List.take_add_one, ← HOG.out k hlt, List.getElem?_eq_getElem (by omega), List.getD_eq_getElem?_getD, List.getElem?_eq_getElem (by omega)]; rfl
      obtain ⟨⟨eo, c, ⟨i1, i2, i3, i4, i5⟩⟩, hr⟩ : ∃ r, l.getD k Ent.zero = r := ⟨_, rfl⟩
      rw [hr] at h0 hX
      simp only at h0 hX
      have HX := Lib.hid hX
      have O2 := Lib.hid (HO.out.alloc (.cells #[.string ⟨eo.toArray⟩] 9))
      have N2 := Lib.hid (bl_allocS HN.out (.cells #[.string ⟨eo.toArray⟩] 9))
      have hz3 := N2.out.size
      have hcl : (os.take k).length ≤ 4294967 := by rw [List.length_take]; omega
      clear hX HO hr h1 h2 h3 h4 h5 h6
      go_wp2_with (at_builtin; go_must (refine wpList_append_texts rfl _ _ 29 rfl w1.heap.size 9 i0 _ 16 Try.underlying29 hi hz0 hz1 hz2 rfl _ (os.take k) rfl (by exact O2.out) _ 1 1 [eo] rfl rfl (fun e => nomatch e) ?c1 (by simp only [List.length_cons, List.length_nil]; omega) (by decide) hz3 ?_))
      case c1 => exact new_cellN (by simp)
      intro v' w' hown' hb'
      rw [← HX.out] at hown'
      have O3 := Lib.hid hown'
      have N3 := Lib.hid (N2.out.trans hb')
      clear hown' hb' O2 h0
      go_wp2_with fail
      go_roundw
      case rel => exact ⟨k + 1, by omega, by go_num, O3, N3⟩
      case measure => simp [intOf]; omega
    · obtain rfl : k = l.length := by omega
      have HT := Lib.hid (HO.out.texts)
      rw [← hol, List.take_length] at HT
      clear HOG
      have HV2 := Lib.hid (V.out.later HN.out)
      have HB2 := Lib.hid (below2Z HB.out HN.out)
      have hml : os.length ≤ 100 := by omega
      clear HO HB V
      go_wp2_with fail
      refine (irmerge_any HT.out (texts_nil _) hml (by simp)).mono ?_
      rintro e w2 ⟨x2, rfl, h2, b2⟩
      rw [List.append_nil, hus] at h2
      have U := Lib.hid h2
      have V := Lib.hid (HV2.out.later b2)
      have HB := Lib.hid (below2Z HB2.out b2)
      obtain ⟨ua, uc, e2, -⟩ := h2
      subst e2
      clear b2 HT HV2 HB2 HN hus
      go_wp2_with fail
      go_loopw [5, 6] (fun n i wr => ∃ k : Nat, k ≤ us.length ∧ n = .int .i64 (sumO l us k) ∧ i = .int .i64 k ∧ Hid (Below w2.heap.size w2 wr)) (fun _ i _ => us.length - (intOf i).toNat)
      case atStart => exact ⟨0, by omega, rfl, rfl, Below.refl _ _⟩
      case round =>
        obtain ⟨k, hk, rfl, rfl, HN⟩ := hrel
        have VR := Lib.hid (V.out.later HN.out)
        by_cases hlt : k < us.length
        · obtain ⟨ub, uo, e3, c0⟩ := U.out.cell HN.out k hlt
          subst e3
          have hsum := sumO_next (l := l) hlt
          have hle := sumO_le (us := us) HL (k := k) hk
          obtain ⟨uk, huk⟩ : ∃ u, us.getD k [] = u := ⟨_, rfl⟩
          rw [huk] at c0 hsum
          have HSUM := Lib.hid hsum
          have HK := Lib.hid huk
          clear hsum huk
          go_wp2_with fail
          refine (of_any VR.out (by omega) uk).mono ?_
          rintro e w4 ⟨x4, rfl, h4, b4⟩
          have T4 := Lib.hid h4.texts
          have V4 := Lib.hid (VR.out.later b4)
          have N4 := Lib.hid b4
          obtain ⟨cs, hcs⟩ : ∃ cs, roOf l uk = cs := ⟨_, rfl⟩
          have hcl : cs.length ≤ 80 := by have := roOf_le l uk; rw [hcs] at this; omega
          have HC : Hid (∀ c ∈ cs, uk ∈ roOf l c ∧ suMay (roGet l uk c) (roGet l c uk) = true) := Lib.hid (fun c hc => ro_back HMC.out (by rw [hcs]; exact hc))
          rw [hcs] at T4 HSUM
          obtain ⟨ca, cc, e4, -⟩ := T4.out
          subst e4
          have HN0 := HN
          clear h4 b4 c0 VR HN hcs
          have hw1 : IntKind.i64.wrap ((sumO l us k : Int) + (cs.length : Int)) = (sumO l us (k + 1) : Int) := by rw [IntWalk.i64_in _ (by omega), HSUM.out]; omega
          go_wp2_with fail
          go_loopw [8] (fun i wr => ∃ j : Nat, j ≤ cs.length ∧ i = .int .i64 j ∧ Hid (Below w4.heap.size w4 wr)) (fun i _ => cs.length - (intOf i).toNat)
          case atStart => exact ⟨0, by omega, rfl, Below.refl _ _⟩
          case round =>
            obtain ⟨j, hj, rfl, HN5⟩ := hrel
            have V5 := Lib.hid (V4.out.later HN5.out)
            by_cases hlj : j < cs.length
            · obtain ⟨cb, co, e5, d0⟩ := T4.out.cell HN5.out j hlj
              subst e5
              obtain ⟨cj, hcj⟩ : ∃ u, cs.getD j [] = u := ⟨_, rfl⟩
              have hmem : cj ∈ cs := by rw [← hcj]; exact getD_mem hlj
              rw [hcj] at d0
              obtain ⟨hb1, hb2⟩ := HC.out cj hmem
              obtain ⟨⟨i1, i2, i3, i4, i5⟩, hg1⟩ : ∃ r, roGet l uk cj = r := ⟨_, rfl⟩
              obtain ⟨⟨j1, j2, j3, j4, j5⟩, hg2⟩ : ∃ r, roGet l cj uk = r := ⟨_, rfl⟩
              rw [hg1, hg2] at hb2
              have HB2 := Lib.hid hb2
              have G1 := Lib.hid hg1
              have G2 := Lib.hid hg2
              have HCJ0 := Lib.hid hcj
              clear hcj hmem hb2 hg1 hg2
              go_wp2_with fail
              refine (of_any V5.out (by omega) cj).mono ?_
              rintro e w6 ⟨x6, rfl, h6, b6⟩
              have T6 := Lib.hid h6.texts
              have V6 := Lib.hid (V5.out.later b6)
              have N6 := Lib.hid b6
              have HN5X := HN5
              have HCJ := HCJ0
              obtain ⟨bs, hbs⟩ : ∃ bs, roOf l cj = bs := ⟨_, rfl⟩
              have hbl : bs.length ≤ 80 := by have := roOf_le l cj; rw [hbs] at this; omega
              rw [hbs] at T6 hb1
              have HB1 := Lib.hid hb1
              obtain ⟨ba, bc, e6, -⟩ := T6.out
              subst e6
              clear h6 b6 d0 V5 HN5 hbs hb1
              go_wp2_with fail
              go_loopw [10, 11] (fun m i wr => ∃ q : Nat, q ≤ bs.length ∧ m = .bool ((bs.take q).any fun y => y == uk) ∧ i = .int .i64 q ∧ Hid (Below w6.heap.size w6 wr)) (fun _ i _ => bs.length - (intOf i).toNat)
              case atStart => exact ⟨0, by omega, rfl, rfl, Below.refl _ _⟩
              case round =>
                obtain ⟨q, hq, rfl, rfl, HN7⟩ := hrel
                by_cases hlq : q < bs.length
                · obtain ⟨bb, bo, e7, d1⟩ := T6.out.cell HN7.out q hlq
                  subst e7
                  have D7 := Lib.hid (below2Z HN0.out (below2Z N4.out (below2Z HN5X.out (below2Z N6.out HN7.out))))
                  obtain ⟨ub2, uo2, e8, d2⟩ := U.out.cell D7.out k hlt
                  rw [HK.out] at d2
                  injection e8 with e8
                  injection e8 with e9 e10 _
                  subst e9 e10
                  obtain ⟨bq, hbq⟩ : ∃ u, bs.getD q [] = u := ⟨_, rfl⟩
                  have hnx := any_take (x := uk) hlq
                  rw [hbq] at d1 hnx
                  obtain ⟨mm, hmm⟩ : ∃ b, ((bs.take q).any fun y => y == uk) = b := ⟨_, rfl⟩
                  rw [hmm] at hnx ⊢
                  replace d1 := cell_regrown d1
                  replace d2 := cell_regrown d2
                  clear hbq hmm D7
                  have hq0 : (0 : Int) ≤ (q : Int) := by omega
                  have hq1 : (q : Int) < (bs.length : Int) := by omega
                  have hk0 : (0 : Int) ≤ (k : Int) := by omega
                  have hk1 : (k : Int) < (us.length : Int) := by omega
                  cases mm with
                  | true =>
                    rw [Bool.true_or] at hnx
                    have HNX := Lib.hid hnx
                    clear hnx
                    go_wp2_with fail
                    refine wp_region_quiet_below (by kernel_rfl) (by kernel_rfl) ?_
                    repeat (go_big_quiet_step (fail))
                    refine wpQuiet_nil ?_
                    intro w8 hw8
                    have N8 := Lib.hid (below2Z HN7.out (regrownZ hw8))
                    clear hw8 d1 d2
                    go_wp2_with fail
                    go_roundw
                    case rel => exact ⟨q + 1, by omega, by rw [HNX.out], by go_num, N8⟩
                    case measure => simp [intOf]; omega
                  | false =>
                    rw [Bool.false_or] at hnx
                    by_cases he : bq = uk
                    · have t1 : (bq == uk) = true := by rw [beq_iff_eq]; exact he
                      rw [t1] at hnx
                      have HNX := Lib.hid hnx
                      subst he
                      clear hnx
                      go_wp2_with fail
                      refine wp_region_quiet_below (by kernel_rfl) (by kernel_rfl) ?_
                      repeat (go_big_quiet_step (fail))
                      refine wpQuiet_nil ?_
                      intro w8 hw8
                      have N8 := Lib.hid (below2Z HN7.out (regrownZ hw8))
                      clear hw8 d1 d2
                      go_wp2_with fail
                      go_roundw
                      case rel => exact ⟨q + 1, by omega, by rw [HNX.out], by go_num, N8⟩
                      case measure => simp [intOf]; omega
                    · have t1 : (bq == uk) = false := by rw [beq_eq_false_iff_ne]; exact he
                      have HNX := Lib.hid (hnx.trans t1)
                      clear hnx he
                      go_wp2_with fail
                      refine wp_region_quiet_below (by kernel_rfl) (by kernel_rfl) ?_
                      repeat (go_big_quiet_step (fail))
                      refine wpQuiet_nil ?_
                      intro w8 hw8
                      have N8 := Lib.hid (below2Z HN7.out (regrownZ hw8))
                      clear hw8 d1 d2
                      go_wp2_with fail
                      go_roundw
                      case rel => exact ⟨q + 1, by omega, by rw [HNX.out], by go_num, N8⟩
                      case measure => simp [intOf]; omega
                · obtain rfl : q = bs.length := by omega
                  rw [any_mem HB1.out]
                  have N7 := Lib.hid (below2Z N6.out HN7.out)
                  have D7 := Lib.hid (below2Z HN0.out (below2Z N4.out (below2Z HN5X.out N7.out)))
                  obtain ⟨ub2, uo2, e8, d2⟩ := U.out.cell D7.out k hlt
                  rw [HK.out] at d2
                  injection e8 with e8
                  injection e8 with e9 e10 _
                  subst e9 e10
                  obtain ⟨cb2, co2, e8, d3⟩ := T4.out.cell (below2Z HN5X.out N7.out) j hlj
                  rw [HCJ.out] at d3
                  injection e8 with e8
                  injection e8 with e9 e10 _
                  subst e9 e10
                  have W7 := Lib.hid (V6.out.later HN7.out)
                  have F1 : Hid (∀ w', Below wr.heap.size wr w' → _) := Lib.hid (fun w' hw' => get8_eq (W7.out.later hw') uk cj G1)
                  have F2 : Hid (∀ w', Below wr.heap.size wr w' → _) := Lib.hid (fun w' hw' => get8_eq (W7.out.later hw') cj uk G2)
                  have F3 := Lib.hid (smay_bl i1 i2 i3 i4 i5 j1 j2 j3 j4 j5 HB2.out)
                  replace d2 := cell_regrown d2
                  replace d3 := cell_regrown d3
                  have hj0 : (0 : Int) ≤ (j : Int) := by omega
                  have hj1 : (j : Int) < (cs.length : Int) := by omega
                  have hk0 : (0 : Int) ≤ (k : Int) := by omega
                  have hk1 : (k : Int) < (us.length : Int) := by omega
                  go_wp2_with fail
                  refine wp_region_quiet_below (by kernel_rfl) (by kernel_rfl) ?_
                  repeat (go_big_quiet_step (first | with_reducible exact rgM F1.out _ _ | with_reducible exact rgM F2.out _ _ | with_reducible exact rgB F3.out _ _ _))
                  refine wpQuiet_nil ?_
                  intro w8 hw8
                  have N8 := Lib.hid (below2Z HN5X.out (below2Z N7.out (regrownZ hw8)))
                  clear hw8 d2 d3
                  go_wp2_with fail
                  go_roundw
                  case rel => exact ⟨j + 1, by omega, by go_num, N8⟩
                  case measure => simp [intOf]; omega
            · obtain rfl : j = cs.length := by omega
              have N8 := Lib.hid (below2Z N4.out HN5.out)
              have N9 := Lib.hid (below2Z HN0.out N8.out)
              go_wp2_with fail
              go_roundw
              case rel => exact ⟨k + 1, by omega, rfl, by go_num, N9⟩
              case measure => simp [intOf]; omega
        · obtain rfl : k = us.length := by omega
          have hall := sumO_all (l := l) HU.out.1 HU.out.2
          rw [hall]
          have t9 : ((l.length : Int) == (l.length : Int)) = true := beq_self_eq_true _
          replace HB := Lib.hid (below2Z HB.out HN.out)
          go_wp2_with fail
          refine (live8 _).mono ?_
          rintro e w9 ⟨rfl, b9⟩
          replace HB := Lib.hid (below2Z HB.out b9)
          clear b9
          go_wp2_with fail
          go_ret
          exact ⟨rfl, HB.out⟩

theorem walkRostSides {w : World} {v : Value} {l : List Ent} (hv : Ents w v l) :
    Calls Try.prog 8 #[v] w fun e w' => e = .returned (.bool true) ∧ Below w.heap.size w w' := by
  cases hw : fewR l with
  | false => exact rsides_1 hv hw
  | true =>
    cases hm : roMayD l with
    | false => exact rsides_2 hv hw hm
    | true => exact rsides_3 hv hw hm

end Go.Proofs.Ytfkadkopolenbaa

end

section

/-
  THE FRAME OF THE PROOF OF RostSides: for every input the law returns true, and each argument reads behind the call as it read before. No condition.
-/
namespace Go.Proofs.Ytfkadkopolenbaa.rostSides
open Go.ChangeShapes Go.WideShapes Go.ChangeAt Go.RowKit
open Go.ChangeMaps (open_string shut_string)
set_option linter.unusedVariables false

theorem own : ownKnob Try.prog.godebug = none := by kernel_rfl
theorem laidOut : laidOutB Try.prog = true := by kernel_rfl

set_option maxRecDepth 100000 in
theorem lifted (os : Os) (started : os.Started) (H : Type) (enc : TypeId × Value → H) :
    ReturnsInHanded {} Try.checked os 8 .any (Rows.rostSidesSpec.pre6 enc Try.prog Try.f8 Rows.rostSidesRow.domain false) (Rows.rostSidesSpec.post enc Try.prog Try.f8 false true false false) := by
  refine returnsInHanded_of_change (C := Try.checked) own started (by kernel_rfl) Try.func8
    (ChangeSpec.witness6 (enc := enc) (C := Try.checked) false ⟨#[], #[.slice none 0 0], []⟩ 8 (by kernel_rfl) (by kernel_rfl) (by kernel_rfl) (by kernel_rfl)) ?_
  intro W base args ds gs before hval0 hW hcnd _
  have hval : ∀ (j : Nat) t v, Try.f8.params[j]? = some t → args[j]? = some v → Value.okWide Try.prog W .any base t v := hval0
  have hW' := hW
  obtain ⟨p, q, hA0, hV, rfl, hfz, hnd⟩ := hW
  have hA : DataW.TrodAll enc Try.prog W 0 (fun _ => true) true Try.f8.params.toList args.toList ds p := hA0
  rw [Try.params8] at hA hval
  obtain ⟨v0, vs0, d0, ds0, p0, q0, hargs, rfl, rfl, h0, r0⟩ := trodAll_cons hA
  obtain ⟨rfl, rfl, rfl⟩ := trodAll_nil r0
  obtain rfl : args = #[v0] := by cases args; simp_all
  obtain ⟨rfl, rfl⟩ := trodVars_none hV
  have k0 := h0
  have lt0 : ∀ x ∈ p0, x.block < W.heap.size := by obtain ⟨m, hm⟩ := k0; exact DataW.trod_lt m _ _ _ hm
  obtain ⟨l0, w0⟩ := open_ents (hval 0 22 v0 rfl rfl) h0
  clear hA0 hval0
  refine (walkRostSides (w := W) w0).mono fun e W' ⟨he, bel⟩ => ?_
  subst he
  exact ⟨_, rfl, _, _, _, [], _, [], hW', trodAll_mk1 (shut_bool Try.underlying4 _), (trodAll_cons_mk (Below.trod laidOut (by kernel_rfl) (of_decide_eq_true (by kernel_rfl)) k0 bel lt0) trodAll_mk0), rfl, bel.frame _, fun h => by cases h⟩

theorem over : Rows.rostSidesRow.holds Try.pinned (OpenSpec.ofChange Rows.rostSidesSpec) :=
  OpenClaim.holds_of_wide 8 Try.f8 rfl rfl rfl rfl rfl rfl rfl ⟨rfl, rfl, rfl, rfl, rfl⟩ rfl rfl rfl rfl rfl (by kernel_rfl) Try.func8 (by kernel_rfl)
    (of_decide_eq_true (by kernel_rfl)) (by unfold Func.isWrapper; first | (rw [if_pos (by decide +kernel)]; kernel_rfl) | (rw [if_neg (by decide +kernel)]; exact ⟨rfl, rfl⟩))
    (fun os started H enc _ => lifted os started H enc)

/-- THE STATEMENT. -/
theorem proved : Rows.RostSidesSaid := over
#print axioms proved
end Go.Proofs.Ytfkadkopolenbaa.rostSides

end
