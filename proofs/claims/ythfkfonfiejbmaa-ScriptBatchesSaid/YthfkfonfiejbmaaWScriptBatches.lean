/-
  THE WALK OF ScriptBatches.
-/
import Derived.Test.YthfkfonfiejbmaaScrLive
namespace Go.Proofs.Ythfkfonfiejbmaa
open Go.RowKit

set_option maxHeartbeats 1600000 in
set_option maxRecDepth 100000 in
theorem scwbat_no {w : World} {v : Value} {l : List Ev} (hv : Evs w v l) (he : evsShort 110 l = false) :
    Calls Try.prog 4 #[v] w fun e w' => e = .returned (.bool true) ∧ Below w.heap.size w w' := by
  have V := Lib.hid hv
  obtain ⟨av, cv, rfl, -⟩ := RdS.open' hv
  clear hv
  have HB := Lib.hid (Below.refl w.heap.size w)
  go_enter Try.func4, Try.ntmps4
  go_wp2_with fail
  refine (events_any V.out 110 (by omega) (Lib.hid he)).mono ?_
  rintro e w1 ⟨rfl, b1⟩
  replace V := Lib.hid (RdS.later V.out b1)
  replace HB := Lib.hid (below2Z HB.out b1)
  clear b1
  go_wp2_with fail
  refine (live23 _).mono ?_
  rintro e w2 ⟨rfl, b2⟩
  replace V := Lib.hid (RdS.later V.out b2)
  replace HB := Lib.hid (below2Z HB.out b2)
  clear b2
  go_wp2_with fail
  go_ret
  exact ⟨rfl, HB.out⟩

set_option maxHeartbeats 1600000 in
set_option maxRecDepth 100000 in
theorem scwbat_yes {w : World} {v : Value} {l : List Ev} (hv : Evs w v l) (he : evsShort 110 l = true) :
    Calls Try.prog 4 #[v] w fun e w' => e = .returned (.bool true) ∧ Below w.heap.size w w' := by
  obtain ⟨r, er, hb⟩ : ∃ r er, scBatch l = (r, er) := ⟨_, _, rfl⟩
  have hsh := evsShort_ev he
  have V := Lib.hid hv
  obtain ⟨av, cv, rfl, -⟩ := RdS.open' hv
  clear hv
  have HB := Lib.hid (Below.refl w.heap.size w)
  have HSH := Lib.hid hsh
  have HBT := Lib.hid hb
  have HE := Lib.hid he
  clear hsh hb he
  go_enter Try.func4, Try.ntmps4
  go_wp2_with fail
  refine (events_any V.out 110 (by omega) HE).mono ?_
  rintro e w1 ⟨rfl, b1⟩
  replace V := Lib.hid (RdS.later V.out b1)
  replace HB := Lib.hid (below2Z HB.out b1)
  clear b1
  go_wp2_with fail
  refine (scbat_any V.out HSH.out HBT).mono ?_
  rintro e w2 ⟨rfl, b2⟩
  replace V := Lib.hid (RdS.later V.out b2)
  replace HB := Lib.hid (below2Z HB.out b2)
  clear b2
  go_wp2_with fail
  refine (rscbat_any V.out HSH.out HBT).mono ?_
  rintro e w3 ⟨rfl, b3⟩
  replace V := Lib.hid (RdS.later V.out b3)
  replace HB := Lib.hid (below2Z HB.out b3)
  clear b3
  go_wp2_with fail
  refine (live23 _).mono ?_
  rintro e w4 ⟨rfl, b4⟩
  replace V := Lib.hid (RdS.later V.out b4)
  replace HB := Lib.hid (below2Z HB.out b4)
  clear b4
  go_wp2_with fail
  go_ret
  exact ⟨rfl, HB.out⟩

theorem walkScriptBatches {w : World} {v : Value} {l : List Ev} (hv : Evs w v l) (_ : ∀ e ∈ l, evFit e) :
    Calls Try.prog 4 #[v] w fun e w' => e = .returned (.bool true) ∧ Below w.heap.size w w' := by
  cases he : evsShort 110 l with
  | false => exact scwbat_no hv he
  | true => exact scwbat_yes hv he

end Go.Proofs.Ythfkfonfiejbmaa
