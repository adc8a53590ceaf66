/-
  THE WALK OF ScriptJoins.
-/
import Derived.Test.YthfkfonfiejbmaaScrLive
namespace Go.Proofs.Ythfkfonfiejbmaa
open Go.RowKit

attribute [local go_sem] ByteArray.mk_append_mk

theorem scBatch_cases (l : List Ev) (h : l.length ≤ 100) : (l.all scMay = true ∧ scBatch l = (scCat l, 0)) ∨ (l.all scMay = false ∧ scBatch l = ([], 1)) := by
  cases ha : l.all scMay with
  | true => exact .inl ⟨rfl, scBatch_all h ha⟩
  | false =>
    refine .inr ⟨rfl, ?_⟩
    unfold scBatch
    rw [ha]
    simp

set_option maxHeartbeats 1600000 in
set_option maxRecDepth 100000 in
theorem scwj_1 {w : World} {v v2 : Value} {l m : List Ev} (hv : Evs w v l) (hm : Evs w v2 m) (he : evsShort 40 l = false) :
    Calls Try.prog 7 #[v, v2] w fun e w' => e = .returned (.bool true) ∧ Below w.heap.size w w' := by
  have V := Lib.hid hv
  have M := Lib.hid hm
  obtain ⟨va, vc, rfl, -⟩ := RdS.open' hv
  obtain ⟨ma, mc, rfl, -⟩ := RdS.open' hm
  clear hv hm
  have HB := Lib.hid (Below.refl w.heap.size w)
  go_enter Try.func7, Try.ntmps7
  go_wp2_with fail
  refine (events_any V.out 40 (by omega) (Lib.hid he)).mono ?_
  rintro e w1 ⟨rfl, b1⟩
  replace V := Lib.hid (RdS.later V.out b1)
  replace M := Lib.hid (RdS.later M.out b1)
  replace HB := Lib.hid (below2Z HB.out b1)
  clear b1
  go_wp2_with fail
  refine (live23 _).mono ?_
  rintro e w2 ⟨rfl, b2⟩
  replace V := Lib.hid (RdS.later V.out b2)
  replace M := Lib.hid (RdS.later M.out b2)
  replace HB := Lib.hid (below2Z HB.out b2)
  clear b2
  go_wp2_with fail
  go_ret
  exact ⟨rfl, HB.out⟩

set_option maxHeartbeats 1600000 in
set_option maxRecDepth 100000 in
theorem scwj_2 {w : World} {v v2 : Value} {l m : List Ev} (hv : Evs w v l) (hm : Evs w v2 m) (he : evsShort 40 l = true) (he2 : evsShort 40 m = false) :
    Calls Try.prog 7 #[v, v2] w fun e w' => e = .returned (.bool true) ∧ Below w.heap.size w w' := by
  have V := Lib.hid hv
  have M := Lib.hid hm
  obtain ⟨va, vc, rfl, -⟩ := RdS.open' hv
  obtain ⟨ma, mc, rfl, -⟩ := RdS.open' hm
  clear hv hm
  have HB := Lib.hid (Below.refl w.heap.size w)
  go_enter Try.func7, Try.ntmps7
  go_wp2_with fail
  refine (events_any V.out 40 (by omega) (Lib.hid he)).mono ?_
  rintro e w1 ⟨rfl, b1⟩
  replace V := Lib.hid (RdS.later V.out b1)
  replace M := Lib.hid (RdS.later M.out b1)
  replace HB := Lib.hid (below2Z HB.out b1)
  clear b1
  go_wp2_with fail
  refine (events_any M.out 40 (by omega) (Lib.hid he2)).mono ?_
  rintro e w2 ⟨rfl, b2⟩
  replace V := Lib.hid (RdS.later V.out b2)
  replace M := Lib.hid (RdS.later M.out b2)
  replace HB := Lib.hid (below2Z HB.out b2)
  clear b2
  go_wp2_with fail
  refine (live23 _).mono ?_
  rintro e w3 ⟨rfl, b3⟩
  replace V := Lib.hid (RdS.later V.out b3)
  replace M := Lib.hid (RdS.later M.out b3)
  replace HB := Lib.hid (below2Z HB.out b3)
  clear b3
  go_wp2_with fail
  go_ret
  exact ⟨rfl, HB.out⟩

theorem joins_bad {l m al : List Ev} (h : al.length ≤ 100) (hal : l ++ m = al) (hbad : l.all scMay = false ∨ m.all scMay = false) : scBatch al = ([], 1) := by
  rcases scBatch_cases al h with ⟨h1, _⟩ | ⟨_, h1⟩
  · rw [← hal, List.all_append] at h1
    simp only [Bool.and_eq_true] at h1
    rcases hbad with hb | hb
    · rw [hb] at h1; simp at h1
    · rw [hb] at h1; simp at h1
  · exact h1

theorem joins_which {l m : List Ev} (h1 : l.length ≤ 100) (h2 : m.length ≤ 100) (hbad : l.all scMay = false ∨ m.all scMay = false) {x y : List UInt8} {n1 n2 : Nat} (hl : scBatch l = (x, n1)) (hm : scBatch m = (y, n2)) : n1 = 1 ∨ n1 = 0 ∧ n2 = 1 := by
  rcases scBatch_cases l h1 with ⟨a1, e1⟩ | ⟨a1, e1⟩
  · rw [e1] at hl
    rcases scBatch_cases m h2 with ⟨a2, e2⟩ | ⟨a2, e2⟩
    · rw [a1, a2] at hbad; simp at hbad
    · rw [e2] at hm
      simp only [Prod.mk.injEq] at hl hm
      exact .inr ⟨hl.2.symm, hm.2.symm⟩
  · rw [e1] at hl
    simp only [Prod.mk.injEq] at hl
    exact .inl hl.2.symm

set_option maxHeartbeats 1600000 in
set_option maxRecDepth 100000 in
theorem scwj_3 {w : World} {v v2 : Value} {l m : List Ev} (hv : Evs w v l) (hm : Evs w v2 m) (he : evsShort 40 l = true) (he2 : evsShort 40 m = true) (hal1 : l.all scMay = true) (hal2 : m.all scMay = true) :
    Calls Try.prog 7 #[v, v2] w fun e w' => e = .returned (.bool true) ∧ Below w.heap.size w w' := by
  have hl40 := (evsShort_get he).1
  have hm40 := (evsShort_get he2).1
  have HSL := Lib.hid (evsShort_ev he)
  have HSM := Lib.hid (evsShort_ev he2)
  obtain ⟨al, hal⟩ : ∃ al, l ++ m = al := ⟨_, rfl⟩
  have HAL := Lib.hid hal
  have HSA : Hid (∀ e ∈ al, evShort e) := Lib.hid (fun e he => by rw [← hal] at he; exact (List.mem_append.1 he).elim (HSL.out e) (HSM.out e))
  have hal80 : al.length ≤ 80 := by rw [← hal, List.length_append]; omega
  have HE := Lib.hid he
  have HE2 := Lib.hid he2
  obtain ⟨x, hx⟩ : ∃ x, scCat l = x := ⟨_, rfl⟩
  obtain ⟨y, hy⟩ : ∃ y, scCat m = y := ⟨_, rfl⟩
  have HBL : Hid (scBatch l = (x, 0)) := Lib.hid (by rw [← hx]; exact scBatch_all (by omega) hal1)
  have HBM : Hid (scBatch m = (y, 0)) := Lib.hid (by rw [← hy]; exact scBatch_all (by omega) hal2)
  have haa : al.all scMay = true := by rw [← hal, List.all_append, hal1, hal2]; rfl
  have hxy : scCat al = x ++ y := by rw [← hal, scCat_append, hx, hy]
  have HBA : Hid (scBatch al = (x ++ y, 0)) := Lib.hid (by rw [← hxy]; exact scBatch_all (by omega) haa)
  have HU : Hid (UnIs (x ++ y) al 0) := Lib.hid (.inl ⟨rfl, by omega, haa, hxy.symm⟩)
  have hxl : x.length ≤ 13000 := by have := scCat_len l hal1; rw [hx] at this; omega
  have hyl : y.length ≤ 13000 := by have := scCat_len m hal2; rw [hy] at this; omega
  have hxyl : (x ++ y).length ≤ 1000000 := by rw [List.length_append]; omega
  clear hx hy haa hxy hal1 hal2
  clear hal he he2
  have V := Lib.hid hv
  have M := Lib.hid hm
  obtain ⟨va, vc, rfl, -⟩ := RdS.open' hv
  obtain ⟨ma, mc, rfl, -⟩ := RdS.open' hm
  clear hv hm
  have HB := Lib.hid (Below.refl w.heap.size w)
  go_enter Try.func7, Try.ntmps7
  go_wp2_with fail
  refine (events_any V.out 40 (by omega) HE).mono ?_
  rintro e w1 ⟨rfl, b1⟩
  replace V := Lib.hid (RdS.later V.out b1)
  replace M := Lib.hid (RdS.later M.out b1)
  replace HB := Lib.hid (below2Z HB.out b1)
  clear b1
  go_wp2_with fail
  refine (events_any M.out 40 (by omega) HE2).mono ?_
  rintro e w2 ⟨rfl, b2⟩
  replace V := Lib.hid (RdS.later V.out b2)
  replace M := Lib.hid (RdS.later M.out b2)
  replace HB := Lib.hid (below2Z HB.out b2)
  clear b2
  go_wp2_with fail
  refine (scbat_any V.out HSL.out HBL).mono ?_
  rintro e w3 ⟨rfl, b3⟩
  replace V := Lib.hid (RdS.later V.out b3)
  replace M := Lib.hid (RdS.later M.out b3)
  replace HB := Lib.hid (below2Z HB.out b3)
  clear b3
  go_wp2_with fail
  refine (scbat_any M.out HSM.out HBM).mono ?_
  rintro e w4 ⟨rfl, b4⟩
  replace V := Lib.hid (RdS.later V.out b4)
  replace M := Lib.hid (RdS.later M.out b4)
  replace HB := Lib.hid (below2Z HB.out b4)
  clear b4
  have VN := Lib.hid (evs_noneW V.out)
  have VS := Lib.hid (evs_srcW (RdS.later V.out (bl_newZ w4 (.cells #[] 26))))
  have MN := Lib.hid (evs_noneW M.out)
  go_wp2_with (at_builtin; go_must (refine wpList_append_S evOK rfl _ _ rfl w4.heap.size _ [] rfl (by exact ownS_made w4) va l.length vc l rfl rfl VN.out VS.out (by simp only [List.length_nil]; omega) (by simp) ?_))
  intro v3 w93 ho3 hb3
  have c3 : Below w4.heap.size w4 w93 := ((Below.refl w4.heap.size w4).alloc (Nat.le_refl _) _).trans hb3
  have O3 := Lib.hid ho3
  have C3 := Lib.hid c3
  have hz3 := c3.size
  have MS := Lib.hid (evs_srcW (RdS.later M.out c3))
  clear ho3 hb3 c3
  go_wp2_with (at_builtin; go_must (refine wpList_append_S evOK rfl _ _ rfl w4.heap.size _ l rfl (by exact O3.out) ma m.length mc m rfl rfl MN.out MS.out (by omega) hz3 ?_))
  intro v4 w94 ho4 hb4
  rw [HAL.out] at ho4
  have b400 := C3.out.trans hb4
  have ha4 := OwnS.rd evOK ho4
  obtain ⟨aa, ac, rfl, -⟩ := RdS.open' ha4
  have AL := Lib.hid ha4
  replace V := Lib.hid (RdS.later V.out b400)
  replace M := Lib.hid (RdS.later M.out b400)
  replace HB := Lib.hid (below2Z HB.out b400)
  clear ho4 hb4 ha4 b400 O3 C3 hz3 MS VN VS MN
  go_wp2_with fail
  refine (scbat_any AL.out HSA.out HBA).mono ?_
  rintro e w5 ⟨rfl, b5⟩
  replace V := Lib.hid (RdS.later V.out b5)
  replace M := Lib.hid (RdS.later M.out b5)
  replace AL := Lib.hid (RdS.later AL.out b5)
  replace HB := Lib.hid (below2Z HB.out b5)
  clear b5
  go_wp2_with fail
  refine (scun_any (x ++ y) hxyl _).mono ?_
  rintro e w6 ⟨vv, mm, er, rfl, hev, hun, b6⟩
  replace V := Lib.hid (RdS.later V.out b6)
  replace M := Lib.hid (RdS.later M.out b6)
  replace AL := Lib.hid (RdS.later AL.out b6)
  replace HB := Lib.hid (below2Z HB.out b6)
  obtain ⟨rfl, rfl⟩ := unIs_one HU.out hun
  clear b6
  obtain ⟨av, cv, hav, -⟩ := RdS.open' hev
  subst hav
  have VV := Lib.hid hev
  clear hev hun HU
  go_wp2_with fail
  refine (scsame_yes VV.out AL.out).mono ?_
  rintro e w7 ⟨rfl, b7⟩
  replace V := Lib.hid (RdS.later V.out b7)
  replace M := Lib.hid (RdS.later M.out b7)
  replace AL := Lib.hid (RdS.later AL.out b7)
  replace VV := Lib.hid (RdS.later VV.out b7)
  replace HB := Lib.hid (below2Z HB.out b7)
  clear b7
  go_wp2_with fail
  refine (live23 _).mono ?_
  rintro e w8 ⟨rfl, b8⟩
  replace V := Lib.hid (RdS.later V.out b8)
  replace M := Lib.hid (RdS.later M.out b8)
  replace AL := Lib.hid (RdS.later AL.out b8)
  replace VV := Lib.hid (RdS.later VV.out b8)
  replace HB := Lib.hid (below2Z HB.out b8)
  clear b8
  go_wp2_with fail
  go_ret
  exact ⟨rfl, HB.out⟩

set_option maxHeartbeats 1600000 in
set_option maxRecDepth 100000 in
theorem scwj_4 {w : World} {v v2 : Value} {l m : List Ev} (hv : Evs w v l) (hm : Evs w v2 m) (he : evsShort 40 l = true) (he2 : evsShort 40 m = true) (hbad : l.all scMay = false ∨ m.all scMay = false) :
    Calls Try.prog 7 #[v, v2] w fun e w' => e = .returned (.bool true) ∧ Below w.heap.size w w' := by
  have hl40 := (evsShort_get he).1
  have hm40 := (evsShort_get he2).1
  have HSL := Lib.hid (evsShort_ev he)
  have HSM := Lib.hid (evsShort_ev he2)
  obtain ⟨al, hal⟩ : ∃ al, l ++ m = al := ⟨_, rfl⟩
  have HAL := Lib.hid hal
  have HSA : Hid (∀ e ∈ al, evShort e) := Lib.hid (fun e he => by rw [← hal] at he; exact (List.mem_append.1 he).elim (HSL.out e) (HSM.out e))
  have hal80 : al.length ≤ 80 := by rw [← hal, List.length_append]; omega
  have HE := Lib.hid he
  have HE2 := Lib.hid he2
  have HBA : Hid (scBatch al = ([], 1)) := Lib.hid (joins_bad (by omega) hal hbad)
  obtain ⟨x, n1, hbl⟩ : ∃ x n, scBatch l = (x, n) := ⟨_, _, rfl⟩
  obtain ⟨y, n2, hbm⟩ : ∃ y n, scBatch m = (y, n) := ⟨_, _, rfl⟩
  have HBL := Lib.hid hbl
  have HBM := Lib.hid hbm
  have hcase := joins_which (by omega) (by omega) hbad hbl hbm
  clear hbl hbm hbad
  clear hal he he2
  have V := Lib.hid hv
  have M := Lib.hid hm
  obtain ⟨va, vc, rfl, -⟩ := RdS.open' hv
  obtain ⟨ma, mc, rfl, -⟩ := RdS.open' hm
  clear hv hm
  have HB := Lib.hid (Below.refl w.heap.size w)
  have HCASE := Lib.hid hcase
  clear hcase
  go_enter Try.func7, Try.ntmps7
  go_wp2_with fail
  refine (events_any V.out 40 (by omega) HE).mono ?_
  rintro e w1 ⟨rfl, b1⟩
  replace V := Lib.hid (RdS.later V.out b1)
  replace M := Lib.hid (RdS.later M.out b1)
  replace HB := Lib.hid (below2Z HB.out b1)
  clear b1
  go_wp2_with fail
  refine (events_any M.out 40 (by omega) HE2).mono ?_
  rintro e w2 ⟨rfl, b2⟩
  replace V := Lib.hid (RdS.later V.out b2)
  replace M := Lib.hid (RdS.later M.out b2)
  replace HB := Lib.hid (below2Z HB.out b2)
  clear b2
  go_wp2_with fail
  refine (scbat_any V.out HSL.out HBL).mono ?_
  rintro e w3 ⟨rfl, b3⟩
  replace V := Lib.hid (RdS.later V.out b3)
  replace M := Lib.hid (RdS.later M.out b3)
  replace HB := Lib.hid (below2Z HB.out b3)
  clear b3
  go_wp2_with fail
  refine (scbat_any M.out HSM.out HBM).mono ?_
  rintro e w4 ⟨rfl, b4⟩
  replace V := Lib.hid (RdS.later V.out b4)
  replace M := Lib.hid (RdS.later M.out b4)
  replace HB := Lib.hid (below2Z HB.out b4)
  clear b4
  have VN := Lib.hid (evs_noneW V.out)
  have VS := Lib.hid (evs_srcW (RdS.later V.out (bl_newZ w4 (.cells #[] 26))))
  have MN := Lib.hid (evs_noneW M.out)
  go_wp2_with (at_builtin; go_must (refine wpList_append_S evOK rfl _ _ rfl w4.heap.size _ [] rfl (by exact ownS_made w4) va l.length vc l rfl rfl VN.out VS.out (by simp only [List.length_nil]; omega) (by simp) ?_))
  intro v3 w93 ho3 hb3
  have c3 : Below w4.heap.size w4 w93 := ((Below.refl w4.heap.size w4).alloc (Nat.le_refl _) _).trans hb3
  have O3 := Lib.hid ho3
  have C3 := Lib.hid c3
  have hz3 := c3.size
  have MS := Lib.hid (evs_srcW (RdS.later M.out c3))
  clear ho3 hb3 c3
  go_wp2_with (at_builtin; go_must (refine wpList_append_S evOK rfl _ _ rfl w4.heap.size _ l rfl (by exact O3.out) ma m.length mc m rfl rfl MN.out MS.out (by omega) hz3 ?_))
  intro v4 w94 ho4 hb4
  rw [HAL.out] at ho4
  have b400 := C3.out.trans hb4
  have ha4 := OwnS.rd evOK ho4
  obtain ⟨aa, ac, rfl, -⟩ := RdS.open' ha4
  have AL := Lib.hid ha4
  replace V := Lib.hid (RdS.later V.out b400)
  replace M := Lib.hid (RdS.later M.out b400)
  replace HB := Lib.hid (below2Z HB.out b400)
  clear ho4 hb4 ha4 b400 O3 C3 hz3 MS VN VS MN
  go_wp2_with fail
  refine (scbat_any AL.out HSA.out HBA).mono ?_
  rintro e w5 ⟨rfl, b5⟩
  replace V := Lib.hid (RdS.later V.out b5)
  replace M := Lib.hid (RdS.later M.out b5)
  replace AL := Lib.hid (RdS.later AL.out b5)
  replace HB := Lib.hid (below2Z HB.out b5)
  clear b5
  rcases HCASE.out with rfl | ⟨rfl, rfl⟩
  · have t1 : ((1 : Int) != 0) = true := rfl
    go_wp2_with fail
    refine (live23 _).mono ?_
    rintro e w201 ⟨rfl, b201⟩
    replace V := Lib.hid (RdS.later V.out b201)
    replace M := Lib.hid (RdS.later M.out b201)
    replace AL := Lib.hid (RdS.later AL.out b201)
    replace HB := Lib.hid (below2Z HB.out b201)
    clear b201
    go_wp2_with fail
    go_ret
    exact ⟨rfl, HB.out⟩
  · go_wp2_with fail
    refine (live23 _).mono ?_
    rintro e w301 ⟨rfl, b301⟩
    replace V := Lib.hid (RdS.later V.out b301)
    replace M := Lib.hid (RdS.later M.out b301)
    replace AL := Lib.hid (RdS.later AL.out b301)
    replace HB := Lib.hid (below2Z HB.out b301)
    clear b301
    go_wp2_with fail
    go_ret
    exact ⟨rfl, HB.out⟩

theorem walkScriptJoins {w : World} {v v2 : Value} {l m : List Ev} (hv : Evs w v l) (_ : ∀ e ∈ l, evFit e) (hm : Evs w v2 m) (_ : ∀ e ∈ m, evFit e) :
    Calls Try.prog 7 #[v, v2] w fun e w' => e = .returned (.bool true) ∧ Below w.heap.size w w' := by
  cases he : evsShort 40 l with
  | false => exact scwj_1 hv hm he
  | true =>
    cases he2 : evsShort 40 m with
    | false => exact scwj_2 hv hm he he2
    | true =>
      cases h1 : l.all scMay with
      | false => exact scwj_4 hv hm he he2 (.inl h1)
      | true =>
        cases h2 : m.all scMay with
        | false => exact scwj_4 hv hm he he2 (.inr h2)
        | true => exact scwj_3 hv hm he he2 h1 h2

end Go.Proofs.Ythfkfonfiejbmaa
