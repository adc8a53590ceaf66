/-
  THE WALK OF SessAll.
-/
import Derived.Test.YtkmbnpjnjlcjmaaSesLive
import Derived.Test.YtkmbnpjnjlcjmaaBesBest
import Derived.Test.YtkmbnpjnjlcjmaaSeqS
import Derived.Test.YtkmbnpjnjlcjmaaSesAll
namespace Go.Proofs.Ytkmbnpjnjlcjmaa
open Go.RowKit

theorem few_shortA {l : List Ses} (h : fewSes l = true) : ShortS l := fun s hs => by
  have := (few_get h).2 s hs
  exact ⟨by omega, by omega⟩

set_option maxHeartbeats 3200000 in
set_option maxRecDepth 100000 in
theorem sall_1 {w : World} {v : Value} {l : List Ses} (hv : Sess w v l) (hw : fewSes l = false) :
    Calls Try.prog 6 #[v] w fun e w' => e = .returned (.bool true) ∧ Below w.heap.size w w' := by
  have HF := Lib.hid (few09_eq hv hw)
  obtain ⟨ao, cap, rfl, hm⟩ := hv.open'
  clear hv hw
  go_enter Try.func6, Try.ntmps6
  go_wp2_with fail
  refine HF.out.mono ?_
  rintro e w0 ⟨rfl, rfl⟩
  go_wp2_with fail
  refine (live9 _).mono ?_
  rintro e w1 ⟨rfl, b1⟩
  have HB := Lib.hid b1
  clear b1
  go_wp2_with fail
  go_ret
  exact ⟨rfl, HB.out⟩

set_option maxHeartbeats 3200000 in
set_option maxRecDepth 100000 in
theorem sall_2 {w : World} {v : Value} {l : List Ses} (hv : Sess w v l) (hw : fewSes l = true) (hm9 : seMay l = false) :
    Calls Try.prog 6 #[v] w fun e w' => e = .returned (.bool true) ∧ Below w.heap.size w w' := by
  have HF := Lib.hid (few09_eq hv hw)
  have V := Lib.hid hv
  have HS := Lib.hid (few_shortA hw)
  have HM := Lib.hid hm9
  obtain ⟨ao, cap, rfl, hm⟩ := hv.open'
  clear hv hw hm9
  go_enter Try.func6, Try.ntmps6
  go_wp2_with fail
  refine HF.out.mono ?_
  rintro e w0 ⟨rfl, rfl⟩
  go_wp2_with fail
  refine (rsmay9_any V.out HS.out HM).mono ?_
  rintro e w1 ⟨rfl, b1⟩
  have HB := Lib.hid b1
  clear b1
  go_wp2_with fail
  refine (live9 _).mono ?_
  rintro e w2 ⟨rfl, b2⟩
  replace HB := Lib.hid (below2Z HB.out b2)
  clear b2
  go_wp2_with fail
  go_ret
  exact ⟨rfl, HB.out⟩

theorem texts_row {w : World} {a : Option Addr} {n cap : Nat} {ls : List (List UInt8)} (h : Texts w (.slice a n cap) ls) {k : Nat} (hk : k < ls.length) : ∃ b off, a = some ⟨b, off, none⟩ ∧ n = ls.length ∧ ∀ i, i < ls.length → w.cell? ⟨b, off + i, none⟩ = some (encS (ls.getD i [])) := by
  obtain ⟨a', cap', e, _, _, _, h⟩ := h
  simp only [Value.slice.injEq] at e
  rcases h with h | ⟨b, off, e', _, hc⟩
  · rw [h] at hk; simp at hk
  · exact ⟨b, off, e.1.trans e', e.2.1, hc⟩

theorem texts_open {w : World} {v : Value} {ls : List (List UInt8)} (h : Texts w v ls) : ∃ a cap, v = .slice a ls.length cap := by
  obtain ⟨a, cap, e, _⟩ := h
  exact ⟨a, cap, e⟩

theorem sum_le4 : ∀ (l : List Nat), (∀ n ∈ l, n ≤ 4) → l.sum ≤ 4 * l.length
  | [], _ => by simp
  | a :: t, h => by
    have := sum_le4 t (fun n hn => h n (by simp [hn]))
    have := h a (by simp)
    simp only [List.sum_cons, List.length_cons]
    omega

set_option maxHeartbeats 3200000 in
set_option maxRecDepth 100000 in
theorem sall_3 {w : World} {v : Value} {l : List Ses} (hv : Sess w v l) (hw : fewSes l = true) (hm9 : seMay l = true) :
    Calls Try.prog 6 #[v] w fun e w' => e = .returned (.bool true) ∧ Below w.heap.size w w' := by
  have HF := Lib.hid (few09_eq hv hw)
  have hl50 := (few_get hw).1
  have V := Lib.hid hv
  have HS := Lib.hid (few_shortA hw)
  have HM := Lib.hid hm9
  have hri := (seMay_rise hm9).2.1
  obtain ⟨us, hus⟩ : ∃ us, mrg (seNames l) = us := ⟨_, rfl⟩
  have HA : Hid ((us.map (seOf l)).flatten = l) := by show _ = _; rw [← hus]; exact of_all hri
  have HP : Hid (∀ k, k < us.length → 1 ≤ (seOf l (us.getD k [])).length ∧ (seOf l (us.getD k [])).length ≤ 4) := by
    show ∀ _, _
    intro k hk
    have hm : us.getD k [] ∈ us := by rw [List.getD_eq_getElem?_getD, List.getElem?_eq_getElem hk]; exact List.getElem_mem hk
    exact ⟨of_some (by rw [hus]; exact hm), of_few hm9 _⟩
  have HG : Hid (Rising us) := by show Rising us; rw [← hus]; exact mrg_rising _
  have hul : us.length ≤ 50 := by have := mrg_len (seNames l); rw [seNames_len, hus] at this; omega
  obtain ⟨ao, cap, rfl, hm⟩ := hv.open'
  clear hv hw hm9 hri
  go_enter Try.func6, Try.ntmps6
  go_wp2_with fail
  refine HF.out.mono ?_
  rintro e w0 ⟨rfl, rfl⟩
  go_wp2_with fail
  refine (rsmay9_any V.out HS.out HM).mono ?_
  rintro e w1 ⟨rfl, b1⟩
  replace V := Lib.hid (V.out.later b1)
  have HB := Lib.hid b1
  clear b1
  go_wp2_with fail
  refine (susers_any V.out (by omega)).mono ?_
  rintro e w2 ⟨x2, rfl, h2, b2⟩
  replace V := Lib.hid (V.out.later b2)
  replace HB := Lib.hid (below2Z HB.out b2)
  rw [hus] at h2
  have U := Lib.hid h2
  clear h2
  clear b2
  obtain ⟨ua, uc, rfl⟩ := texts_open U.out
  clear hus
  go_wp2_with fail
  go_loopw [3, 5] (fun o i wr => ∃ k : Nat, k ≤ us.length ∧ i = .int .i64 k ∧ Hid (OwnSes wr w2.heap.size o ((us.map (seOf l)).take k).flatten) ∧ Hid (Below w2.heap.size w2 wr)) (fun _ i _ => us.length - (intOf i).toNat)
  case atStart => exact ⟨0, by omega, rfl, ownS_nil _ _, Below.refl _ _⟩
  case round =>
    obtain ⟨k, hk, rfl, HO, HN⟩ := hrel
    have VR := Lib.hid (V.out.later HN.out)
    have hfl : (((us.map (seOf l)).take k).flatten).length ≤ 200 := by
      rw [List.length_flatten]
      refine Nat.le_trans (sum_le4 _ ?_) (by rw [List.length_map, List.length_take, List.length_map]; omega)
      intro n hn
      obtain ⟨m, hm, rfl⟩ := List.mem_map.1 hn
      obtain ⟨u, hu, rfl⟩ := List.mem_map.1 (List.mem_of_mem_take hm)
      obtain ⟨i, hi, rfl⟩ := List.getElem_of_mem hu
      have := (HP.out i hi).2
      rwa [List.getD_eq_getElem?_getD, List.getElem?_eq_getElem hi] at this
    by_cases hlt : k < us.length
    · obtain ⟨ub, uo, rfl, -, hc⟩ := texts_row U.out hlt
      have UR : Hid (∀ i, i < us.length → wr.cell? ⟨ub, uo + i, none⟩ = some (encS (us.getD i []))) := Lib.hid (fun i hi => (cellLaterZ (hc i hi) HN.out))
      have HP1 := Lib.hid (HP.out k hlt)
      have HX := flat_take (l := l) hlt
      rw [List.map_take, List.map_take] at HX
      replace HX := Lib.hid HX
      have c0 := UR.out k hlt
      obtain ⟨uk, hk2⟩ : ∃ u, us.getD k [] = u := ⟨_, rfl⟩
      rw [hk2] at c0 HP1 HX
      unfold encS at c0
      have HK := Lib.hid hk2
      clear hc hk2
      go_wp2_with fail
      refine (sof_any VR.out (by omega) uk).mono ?_
      rintro e w5 ⟨x5, rfl, h5, b5⟩
      obtain ⟨n5, hn5⟩ : ∃ n, (seOf l uk).length = n := ⟨_, rfl⟩
      have hn51 : 1 ≤ n5 := by rw [← hn5]; exact HP1.out.1
      have hn54 : n5 ≤ 4 := by rw [← hn5]; exact HP1.out.2
      obtain ⟨g5, c5, rfl⟩ : ∃ g c, x5 = .slice (some ⟨g, 0, none⟩) n5 c := by
        rcases h5.2 with ⟨rfl, h0⟩ | ⟨g, c, cur, rfl, _⟩
        · omega
        · exact ⟨g, c, by rw [hn5]⟩
      have O5 := Lib.hid h5
      have OA := Lib.hid (HO.out.later b5)
      have N5 := Lib.hid (below2Z HN.out b5)
      have c0' := cellLaterZ c0 b5
      have t1 : decide ((n5 : Int) < 1) = false := by rw [decide_eq_false_iff_not]; omega
      have t2 : decide ((4 : Int) < (n5 : Int)) = false := by rw [decide_eq_false_iff_not]; omega
      have t1' : decide (n5 < 1) = false := by rw [decide_eq_false_iff_not]; omega
      have t2' : decide (4 < n5) = false := by rw [decide_eq_false_iff_not]; omega
      have UR5 : Hid (∀ i, i < us.length → w5.cell? ⟨ub, uo + i, none⟩ = some (encS (us.getD i []))) := Lib.hid (fun i hi => cellLaterZ (UR.out i hi) b5)
      clear h5 b5 c0 UR VR HO HN
      go_wp2_with fail
      by_cases hk0 : k = 0
      · have t3 : decide ((0 : Int) < (k : Int)) = false := by rw [decide_eq_false_iff_not]; omega
        have t3' : decide (0 < k) = false := by rw [decide_eq_false_iff_not]; omega
        clear hk0
        refine wp_region_quiet_below (by kernel_rfl) (by kernel_rfl) ?_
        repeat (go_big_quiet_step (fail))
        refine wpQuiet_nil ?_
        intro w6 hw6
        have b6 := regrownZ hw6
        have N6 := Lib.hid (below2Z N5.out b6)
        have OA6 := Lib.hid (OA.out.later b6)
        have S6 := Lib.hid (((O5.out.rd sesOK).later b6).src sesOK)
        have z6 := N6.out.size
        clear hw6 b6 N5 OA O5
        go_wp2_with (at_builtin; refine wpList_append_S sesOK rfl _ _ rfl w2.heap.size _ (((us.map (seOf l)).take k).flatten) rfl OA6.out (some ⟨g5, 0, none⟩) n5 c5 (seOf l uk) rfl hn5.symm (fun e => by cases e) (fun ad had => by obtain rfl := Option.some.inj had; exact S6.out) (by rw [hn5]; omega) z6 ?_)
        intro v7 w7 h7 b7
        rw [← HX.out] at h7
        have O7 := Lib.hid h7
        have N7 := Lib.hid (N6.out.trans b7)
        clear h7 b7 S6
        go_wp2_with fail
        go_roundw
        case rel => exact ⟨k + 1, by omega, by go_num, O7, N7⟩
        case measure => simp [intOf]; omega
      · obtain ⟨j, rfl⟩ : ∃ j, k = j + 1 := ⟨k - 1, by omega⟩
        have p0 := UR5.out j (by omega)
        have hle := rising_at HG.out hlt
        obtain ⟨uj, hj2⟩ : ∃ u, us.getD j [] = u := ⟨_, rfl⟩
        rw [hj2] at p0 hle
        rw [HK.out] at hle
        unfold encS at p0
        have HL := Lib.hid (rless_eq uj uk (Lib.hid hle))
        replace p0 := cell_regrown p0
        replace c0' := cell_regrown c0'
        have em : ((j + 1 : Nat) : Int) - 1 = (j : Int) := by omega
        have t6 : (0 : Int) ≤ (j : Int) := by omega
        have t7 : (j : Int) < (us.length : Int) := by omega
        have t8 : decide ((0 : Int) < ((j + 1 : Nat) : Int)) = true := by rw [decide_eq_true_eq]; omega
        have t9 : (0 : Int) ≤ ((j + 1 : Nat) : Int) := by omega
        have t10 : ((j + 1 : Nat) : Int) < (us.length : Int) := by omega
        clear hle hj2 UR5
        refine wp_region_quiet_below (by kernel_rfl) (by kernel_rfl) ?_
        repeat (go_big_quiet_step (with_reducible exact rgS HL.out _ _ _))
        refine wpQuiet_nil ?_
        intro w6 hw6
        have b6 := regrownZ hw6
        have N6 := Lib.hid (below2Z N5.out b6)
        have OA6 := Lib.hid (OA.out.later b6)
        have S6 := Lib.hid (((O5.out.rd sesOK).later b6).src sesOK)
        have z6 := N6.out.size
        clear hw6 b6 N5 OA O5
        go_wp2_with (at_builtin; refine wpList_append_S sesOK rfl _ _ rfl w2.heap.size _ (((us.map (seOf l)).take (j + 1)).flatten) rfl OA6.out (some ⟨g5, 0, none⟩) n5 c5 (seOf l uk) rfl hn5.symm (fun e => by cases e) (fun ad had => by obtain rfl := Option.some.inj had; exact S6.out) (by rw [hn5]; omega) z6 ?_)
        intro v7 w7 h7 b7
        rw [← HX.out] at h7
        have O7 := Lib.hid h7
        have N7 := Lib.hid (N6.out.trans b7)
        clear h7 b7 S6
        go_wp2_with fail
        go_roundw
        case rel => exact ⟨j + 1 + 1, by omega, by go_num, O7, N7⟩
        case measure => simp [intOf]; omega
    · obtain rfl : k = us.length := by omega
      have ho := HO.out
      rw [List.take_of_length_le (by rw [List.length_map]; exact Nat.le_refl _), HA.out] at ho
      have OA := Lib.hid (ho.rd sesOK)
      obtain ⟨oa, oc, rfl, -⟩ := OA.out.open'
      have HB2 := Lib.hid (below2Z HB.out HN.out)
      clear ho HO HN hfl HB
      go_wp2_with fail
      refine (rssame_any OA.out VR.out (Lib.hid (sessSame_self _))).mono ?_
      rintro e w5 ⟨rfl, b5⟩
      replace VR := Lib.hid (VR.out.later b5)
      replace HB2 := Lib.hid (below2Z HB2.out b5)
      clear b5
      go_wp2_with fail
      refine (smay9_any VR.out HS.out HM).mono ?_
      rintro e w6 ⟨rfl, b6⟩
      replace HB2 := Lib.hid (below2Z HB2.out b6)
      clear b6
      go_wp2_with fail
      refine (live9 _).mono ?_
      rintro e w7 ⟨rfl, b7⟩
      replace HB2 := Lib.hid (below2Z HB2.out b7)
      clear b7
      go_wp2_with fail
      go_ret
      exact ⟨rfl, HB2.out⟩

theorem walkSessAll {w : World} {v : Value} {l : List Ses} (hv : Sess w v l) (_ : ∀ s ∈ l, SesFit s) :
    Calls Try.prog 6 #[v] w fun e w' => e = .returned (.bool true) ∧ Below w.heap.size w w' := by
  cases hw : fewSes l with
  | false => exact sall_1 hv hw
  | true =>
    cases hm : seMay l with
    | false => exact sall_2 hv hw hm
    | true => exact sall_3 hv hw hm

end Go.Proofs.Ytkmbnpjnjlcjmaa
