/-
  THE WALK OF CrcBack, out of the contracts.
-/
import Derived.Test.YtcphelohkllodaaCrcLive
import Derived.OpenShut
namespace Go.Proofs.Ytcphelohkllodaa
open Go.RowKit

set_option maxHeartbeats 400000 in
set_option maxRecDepth 1000000 in
theorem walkCrcBack {w : World} (l : List UInt8) (_hl : l.length ≤ maxLen) :
    Calls Try.prog 10 #[.string ⟨l.toArray⟩] w fun e w' => e = .returned (.bool true) ∧ Below w.heap.size w w' := by
  unfold maxLen at _hl
  by_cases h : 1000 < l.length
  · go_enter Try.func10, Try.ntmps10
    go_wp2_with fail
    refine (live2 _).mono ?_
    rintro e w1 ⟨rfl, hb1⟩
    go_wp2_with fail
    go_ret
    exact ⟨rfl, hb1⟩
  · have hl : l.length ≤ 4294967296 := by omega
    have hlen : (cseal l).length = l.length + 4 := by simp [cseal, low4]
    have hs : Hid (copen (cseal l) = (l, 0)) := copen_seal l
    have HL : Hid ((cseal l).length ≤ 4294967296) := by show _ ≤ _; omega
    obtain ⟨t, n, ho⟩ : ∃ t n, Hid (copen l = (t, n)) := ⟨_, _, rfl⟩
    have htl : t.length ≤ l.length := by
      have := ho.out
      unfold copen at this
      split at this
      · simp only [Prod.mk.injEq] at this; rw [← this.1]; simp
      · split at this
        · simp only [Prod.mk.injEq] at this; rw [← this.1]; simp
        · simp only [Prod.mk.injEq] at this; rw [← this.1]; simp
    by_cases hn : n = 0
    · subst hn
      have hb : Hid (cseal t = l) := copen_ok ho.out
      clear hlen
      go_enter Try.func10, Try.ntmps10
      go_wp2_with fail
      refine (seal_any l hl _).mono ?_
      rintro e w1 ⟨rfl, hb1⟩
      go_wp2_with fail
      refine (open_eq HL.out hs _).mono ?_
      rintro e w2 ⟨rfl, hb2⟩
      go_wp2_with fail
      refine (open_eq hl ho _).mono ?_
      rintro e w3 ⟨rfl, hb3⟩
      go_wp2_with fail
      refine (seal_eq (by omega) hb _).mono ?_
      rintro e w4 ⟨rfl, hb4⟩
      go_wp2_with fail
      refine (live2 _).mono ?_
      rintro e w5 ⟨rfl, hb5⟩
      go_wp2_with fail
      go_ret
      exact ⟨rfl, below3 (below3 hb1 hb2 hb3) hb4 hb5⟩
    · have ht : t = [] := by
        have := copen_bad (t := l) (by rw [ho.out]; exact hn)
        rwa [ho.out] at this
      subst ht
      have t1 : ((n : Int) != 0) = true := by simp; omega
      clear hlen htl hn
      go_enter Try.func10, Try.ntmps10
      go_wp2_with fail
      refine (seal_any l hl _).mono ?_
      rintro e w1 ⟨rfl, hb1⟩
      go_wp2_with fail
      refine (open_eq HL.out hs _).mono ?_
      rintro e w2 ⟨rfl, hb2⟩
      go_wp2_with fail
      refine (open_eq hl ho _).mono ?_
      rintro e w3 ⟨rfl, hb3⟩
      go_wp2_with fail
      refine (live2 _).mono ?_
      rintro e w5 ⟨rfl, hb5⟩
      go_wp2_with fail
      go_ret
      exact ⟨rfl, below3 hb1 hb2 (below2' hb3 hb5)⟩

end Go.Proofs.Ytcphelohkllodaa
