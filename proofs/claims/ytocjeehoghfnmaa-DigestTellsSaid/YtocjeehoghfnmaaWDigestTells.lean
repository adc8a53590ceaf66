/-
  THE WALK OF DigestTells, out of the contracts.
-/
import Derived.Test.YtocjeehoghfnmaaDigLive
import Derived.Test.YtocjeehoghfnmaaDigRput
import Derived.Test.YtocjeehoghfnmaaDigRmay
namespace Go.Proofs.Ytocjeehoghfnmaa
open Go.RowKit

set_option maxHeartbeats 1600000 in
set_option maxRecDepth 1000000 in
theorem walkDigestTells {w : World} (v : Value) (t : List Row) (hv : Tab w v t) (_ : ∀ r ∈ t, r.c.length ≤ maxLen ∧ r.v.st.length ≤ maxLen) :
    Calls Try.prog 3 #[v] w fun e w' => e = .returned (.bool true) ∧ Below w.heap.size w w' := by
  have HV := Lib.hid hv
  cases hf : fewT t with
  | false =>
    have HF := Lib.hid hf
    clear hf hv
    go_enter Try.func3, Try.ntmps3
    go_wp2_with fail
    refine (fewt_eq HV.out HF).mono ?_
    rintro e w1 ⟨rfl, rfl⟩
    go_wp2_with fail
    refine (live5 _).mono ?_
    rintro e w1 ⟨rfl, b⟩
    go_wp2_with fail
    go_ret
    exact ⟨rfl, b⟩
  | true =>
    have HF := Lib.hid hf
    have HS := Lib.hid (fewT_short hf)
    obtain ⟨l, r, hl⟩ : ∃ l r, Hid (diPut t = (l, r)) := ⟨_, _, rfl⟩
    obtain ⟨m, hm⟩ : ∃ m, Hid (diMay t = m) := ⟨_, rfl⟩
    obtain ⟨s, hs⟩ : ∃ s, Hid (diSum t = s) := ⟨_, rfl⟩
    clear hf hv
    go_enter Try.func3, Try.ntmps3
    go_wp2_with fail
    refine (fewt_eq HV.out HF).mono ?_
    rintro e w0 ⟨rfl, rfl⟩
    go_wp2_with fail
    refine (diput_eq HV.out HS.out hl).mono ?_
    rintro e w1 ⟨rfl, b⟩
    have B1 := Lib.hid b
    clear b
    go_wp2_with fail
    refine (rdiput_eq (HV.out.later B1.out) HS.out hl).mono ?_
    rintro e w2 ⟨rfl, b⟩
    have B2 := Lib.hid (below2' B1.out b)
    clear b B1
    go_wp2_with fail
    refine (dimay_eq (HV.out.later B2.out) HS.out hm).mono ?_
    rintro e w3 ⟨rfl, b⟩
    have B3 := Lib.hid (below2' B2.out b)
    clear b B2
    go_wp2_with fail
    refine (rdimay_eq (HV.out.later B3.out) HS.out hm).mono ?_
    rintro e w4 ⟨rfl, b⟩
    have B4 := Lib.hid (below2' B3.out b)
    clear b B3
    go_wp2_with fail
    refine (disum_any (HV.out.later B4.out) HS.out).mono ?_
    rw [hs.out]
    rintro e w5 ⟨rfl, b⟩
    have B5 := Lib.hid (below2' B4.out b)
    clear b B4
    go_wp2_with fail
    refine (rdisum_any (HV.out.later B5.out) HS.out).mono ?_
    rw [hs.out]
    rintro e w6 ⟨rfl, b⟩
    have B6 := Lib.hid (below2' B5.out b)
    clear b B5
    go_wp2_with fail
    refine (live5 _).mono ?_
    rintro e w7 ⟨rfl, b⟩
    have B7 := Lib.hid (below2' B6.out b)
    clear b B6
    go_wp2_with fail
    go_ret
    exact ⟨rfl, B7.out⟩

end Go.Proofs.Ytocjeehoghfnmaa
