/-
  THE WALK OF DigestTakes, out of the contracts.
-/
import Derived.Test.YtocjeehoghfnmaaDigLive
import Derived.Test.YtocjeehoghfnmaaDigRtake
namespace Go.Proofs.Ytocjeehoghfnmaa
open Go.RowKit

theorem tSame_self (t : List Row) : tSame t t = true := tSame_iff.2 rfl

set_option maxHeartbeats 1600000 in
set_option maxRecDepth 1000000 in
theorem walkDigestTakes {w : World} (l : List UInt8) (_hl : l.length ≤ maxLen) (p : Int) (_ : (Lit.int .i64 p).wf = true) :
    Calls Try.prog 4 #[.string ⟨l.toArray⟩, .int .i64 p] w fun e w' => e = .returned (.bool true) ∧ Below w.heap.size w w' := by
  unfold maxLen at _hl
  by_cases h : 1500 < l.length
  · go_enter Try.func4, Try.ntmps4
    go_wp2_with fail
    refine (live5 _).mono ?_
    rintro e w1 ⟨rfl, b⟩
    go_wp2_with fail
    go_ret
    exact ⟨rfl, b⟩
  · have hl' : l.length ≤ 4294967296 := by omega
    have HT := Lib.hid (ditake_any l hl' p)
    have HR := Lib.hid (rditake_any l hl' p)
    obtain ⟨⟨t, f, er⟩, ht⟩ : ∃ R, diTake l p = R := ⟨_, rfl⟩
    rw [ht] at HT HR
    have HSm := Lib.hid (tSame_self t)
    clear ht
    go_enter Try.func4, Try.ntmps4
    go_wp2_with fail
    refine (HT.out _).mono ?_
    rintro e w1 ⟨v1, rfl, t1, b⟩
    have B1 := Lib.hid b
    have T1 := Lib.hid t1
    clear b t1
    go_wp2_with fail
    refine (HR.out _).mono ?_
    rintro e w2 ⟨v2, rfl, t2, b⟩
    have B2 := Lib.hid (below2' B1.out b)
    have T1 := Lib.hid (T1.out.later b)
    have T2 := Lib.hid t2
    clear b t2 B1
    go_wp2_with fail
    refine (tsame_eq T1.out T2.out HSm).mono ?_
    rintro e w3 ⟨rfl, b⟩
    have B3 := Lib.hid (below2' B2.out b)
    clear b B2
    go_wp2_with fail
    refine (live5 _).mono ?_
    rintro e w7 ⟨rfl, b⟩
    have B7 := Lib.hid (below2' B3.out b)
    clear b B3
    go_wp2_with fail
    go_ret
    exact ⟨rfl, B7.out⟩

end Go.Proofs.Ytocjeehoghfnmaa
