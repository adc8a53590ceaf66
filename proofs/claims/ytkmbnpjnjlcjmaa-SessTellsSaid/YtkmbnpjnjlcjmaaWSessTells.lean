/-
  THE WALK OF SessTells.
-/
import Derived.Test.YtkmbnpjnjlcjmaaSesLive
import Derived.Test.YtkmbnpjnjlcjmaaBesBest
namespace Go.Proofs.Ytkmbnpjnjlcjmaa
open Go.RowKit

theorem few_shortT {l : List Ses} (h : fewSes l = true) : ShortS l := fun s hs => by
  have := (few_get h).2 s hs
  exact ⟨by omega, by omega⟩

set_option maxHeartbeats 3200000 in
set_option maxRecDepth 100000 in
theorem stells_1 {w : World} {v : Value} {l : List Ses} (hv : Sess w v l) (u : List UInt8) (hw : fewSes l = false) :
    Calls Try.prog 3 #[v, .string ⟨u.toArray⟩] w fun e w' => e = .returned (.bool true) ∧ Below w.heap.size w w' := by
  have HF := Lib.hid (few09_eq hv hw)
  obtain ⟨ao, cap, rfl, hm⟩ := hv.open'
  clear hv
  go_enter Try.func3, Try.ntmps3
  go_wp2_with fail
  refine HF.out.mono ?_
  rintro e w0 ⟨rfl, rfl⟩
  go_wp2_with fail
  refine (live9 _).mono ?_
  rintro e w1 ⟨rfl, b1⟩
  have HB := Lib.hid b1
  clear b1
  go_wp2_with fail
  go_ret
  exact ⟨rfl, HB.out⟩

set_option maxHeartbeats 3200000 in
set_option maxRecDepth 100000 in
theorem stells_2 {w : World} {v : Value} {l : List Ses} (hv : Sess w v l) (u : List UInt8) (hw : fewSes l = true) (hu : ¬ u.length ≤ 40) :
    Calls Try.prog 3 #[v, .string ⟨u.toArray⟩] w fun e w' => e = .returned (.bool true) ∧ Below w.heap.size w w' := by
  have HF := Lib.hid (few09_eq hv hw)
  obtain ⟨ao, cap, rfl, hm⟩ := hv.open'
  have t1 : decide (40 < (u.length : Int)) = true := by rw [decide_eq_true_eq]; omega
  clear hu
  clear hv
  go_enter Try.func3, Try.ntmps3
  go_wp2_with fail
  refine HF.out.mono ?_
  rintro e w0 ⟨rfl, rfl⟩
  go_wp2_with fail
  refine (live9 _).mono ?_
  rintro e w1 ⟨rfl, b1⟩
  have HB := Lib.hid b1
  clear b1
  go_wp2_with fail
  go_ret
  exact ⟨rfl, HB.out⟩

theorem mrgn_le {l : List Ses} (h : l.length ≤ 100) : (mrg (seNames l)).length ≤ 4294967296 := by
  have := mrg_len (seNames l)
  rw [seNames_len] at this
  omega

set_option maxHeartbeats 3200000 in
set_option maxRecDepth 100000 in
theorem stells_3 {w : World} {v : Value} {l : List Ses} (hv : Sess w v l) (u : List UInt8) (hw : fewSes l = true) (hu : u.length ≤ 40) :
    Calls Try.prog 3 #[v, .string ⟨u.toArray⟩] w fun e w' => e = .returned (.bool true) ∧ Below w.heap.size w w' := by
  have HF := Lib.hid (few09_eq hv hw)
  have hl50 := (few_get hw).1
  have HS := Lib.hid (few_shortT hw)
  have V := Lib.hid hv
  obtain ⟨ao, cap, rfl, hm⟩ := hv.open'
  have t1 : decide (40 < (u.length : Int)) = false := by rw [decide_eq_false_iff_not]; omega
  obtain ⟨r, hr⟩ : ∃ r, seMay l = r := ⟨_, rfl⟩
  have HR := Lib.hid hr
  clear hv hw hr hu
  go_enter Try.func3, Try.ntmps3
  go_wp2_with fail
  refine HF.out.mono ?_
  rintro e w0 ⟨rfl, rfl⟩
  go_wp2_with fail
  refine (smay9_any V.out HS.out HR).mono ?_
  rintro e w1 ⟨rfl, b1⟩
  replace V := Lib.hid (V.out.later b1)
  have HB := Lib.hid b1
  clear b1
  go_wp2_with fail
  refine (rsmay9_any V.out HS.out HR).mono ?_
  rintro e w2 ⟨rfl, b2⟩
  replace V := Lib.hid (V.out.later b2)
  replace HB := Lib.hid (below2Z HB.out b2)
  clear b2
  have t2 : (r == r) = true := beq_self_eq_true r
  go_wp2_with fail
  refine (sof_any V.out (by omega) u).mono ?_
  rintro e w3 ⟨x3, rfl, h3, b3⟩
  replace V := Lib.hid (V.out.later b3)
  replace HB := Lib.hid (below2Z HB.out b3)
  have X3 := Lib.hid (h3.rd sesOK)
  clear h3
  clear b3
  go_wp2_with fail
  refine (rsof_any V.out (by omega) u).mono ?_
  rintro e w4 ⟨x4, rfl, h4, b4⟩
  replace V := Lib.hid (V.out.later b4)
  replace X3 := Lib.hid (X3.out.later b4)
  replace HB := Lib.hid (below2Z HB.out b4)
  have X4 := Lib.hid (h4.rd sesOK)
  clear h4
  clear b4
  go_wp2_with fail
  refine (rssame_any X3.out X4.out (Lib.hid (sessSame_self _))).mono ?_
  rintro e w5 ⟨rfl, b5⟩
  replace V := Lib.hid (V.out.later b5)
  replace X3 := Lib.hid (X3.out.later b5)
  replace X4 := Lib.hid (X4.out.later b5)
  replace HB := Lib.hid (below2Z HB.out b5)
  clear b5
  go_wp2_with fail
  refine (susers_any V.out (by omega)).mono ?_
  rintro e w6 ⟨x6, rfl, h6, b6⟩
  replace V := Lib.hid (V.out.later b6)
  replace HB := Lib.hid (below2Z HB.out b6)
  have X6 := Lib.hid (h6)
  clear h6
  clear b6
  go_wp2_with fail
  refine (rsusers_any V.out (by omega)).mono ?_
  rintro e w7 ⟨x7, rfl, h7, b7⟩
  replace V := Lib.hid (V.out.later b7)
  replace X6 := Lib.hid (X6.out.later b7)
  replace HB := Lib.hid (below2Z HB.out b7)
  have X7 := Lib.hid (h7)
  clear h7
  clear b7
  go_wp2_with fail
  refine (same_yes X6.out X7.out (mrgn_le (by omega))).mono ?_
  rintro e w8 ⟨rfl, b8⟩
  replace V := Lib.hid (V.out.later b8)
  replace X6 := Lib.hid (X6.out.later b8)
  replace X7 := Lib.hid (X7.out.later b8)
  replace HB := Lib.hid (below2Z HB.out b8)
  clear b8
  go_wp2_with fail
  refine (live9 _).mono ?_
  rintro e w9 ⟨rfl, b9⟩
  replace HB := Lib.hid (below2Z HB.out b9)
  clear b9
  go_wp2_with fail
  go_ret
  exact ⟨rfl, HB.out⟩

theorem walkSessTells {w : World} {v : Value} {l : List Ses} (hv : Sess w v l) (_ : ∀ s ∈ l, SesFit s) (u : List UInt8) (_ : u.length ≤ maxLen) :
    Calls Try.prog 3 #[v, .string ⟨u.toArray⟩] w fun e w' => e = .returned (.bool true) ∧ Below w.heap.size w w' := by
  cases hw : fewSes l with
  | false => exact stells_1 hv u hw
  | true =>
    by_cases hu : u.length ≤ 40
    · exact stells_3 hv u hw hu
    · exact stells_2 hv u hw hu

end Go.Proofs.Ytkmbnpjnjlcjmaa
