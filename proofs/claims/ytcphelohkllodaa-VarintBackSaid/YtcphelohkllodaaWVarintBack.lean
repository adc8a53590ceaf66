/-
  THE WALK OF VarintBack, out of the contracts.
-/
import Derived.Test.YtcphelohkllodaaVarLive
import Derived.OpenShut
namespace Go.Proofs.Ytcphelohkllodaa
open Go.RowKit
attribute [local go_sem] ByteArray.mk_append_mk

set_option maxHeartbeats 400000 in
set_option maxRecDepth 1000000 in
theorem walkVarintBack (n : Int) (hn : (Lit.int .u64 n).wf = true) (a : List UInt8) (_ha : a.length ≤ maxLen) (b : List UInt8) (_hb : b.length ≤ maxLen) (w : World) :
    Calls Try.prog 5 #[.int .u64 n, .string ⟨a.toArray⟩, .string ⟨b.toArray⟩] w fun e w' => e = .returned (.bool true) ∧ Below w.heap.size w w' := by
  have hb := bounds_u64 hn
  obtain ⟨x, rfl⟩ := Int.eq_ofNat_of_zero_le hb.1
  have hx : x < 18446744073709551616 := by omega
  clear hb hn
  unfold maxLen at _ha _hb
  by_cases h : 300 < a.length ∨ 300 < b.length
  · by_cases h1 : 300 < a.length
    · clear h
      go_enter Try.func5, Try.ntmps5
      go_wp2_with fail
      refine (live1 _).mono ?_
      rintro e w1 ⟨rfl, hb1⟩
      go_wp2_with fail
      go_ret
      exact ⟨rfl, hb1⟩
    · have h2 : 300 < b.length := by omega
      clear h
      go_enter Try.func5, Try.ntmps5
      go_wp2_with fail
      refine (live1 _).mono ?_
      rintro e w1 ⟨rfl, hb1⟩
      go_wp2_with fail
      go_ret
      exact ⟨rfl, hb1⟩
  · have h1 : a.length ≤ 300 := by omega
    have h2 : b.length ≤ 300 := by omega
    clear h _ha _hb
    have ls := vput_len_le x
    have ps := vput_len_pos x
    have HG : Hid (vget (a ++ (vput x ++ b)) (a.length : Int) = (x, a.length + (vput x).length, 0)) := vget_vput x hx a b
    have HP := Lib.hid (put_any x hx)
    have HZ := Lib.hid (size_any x hx)
    obtain ⟨s, hs⟩ : ∃ s, s = vput x := ⟨_, rfl⟩
    rw [← hs] at ls ps HG HP HZ
    have HS := Lib.hid hs
    clear hs
    have hlen : (a ++ (s ++ b)).length ≤ 4294967296 := by simp; omega
    have HL := Lib.hid hlen
    clear hlen
    obtain ⟨k, to, f, hk⟩ : ∃ k to f, vget b 0 = (k, to, f) := ⟨_, _, _, rfl⟩
    have hkk := vget_facts hk
    have hkl := hkk.1
    have HK := Lib.hid hk
    have hback : f = 0 → vput k = b.take to ∧ 1 ≤ to ∧ to ≤ b.length := by
      intro hf
      have := vput_vget (l := b) (by rw [hk]; exact hf)
      rw [hk] at this
      exact this
    by_cases hf : f = 0
    · subst hf
      obtain ⟨e1, e2, e3⟩ := hback rfl
      have HE := Lib.hid e1
      have hsl := fun w => run_slice_bytes_to (P := Try.prog) w 9 b to to rfl Try.underlying9 (by omega)
      clear hback hk hkk e1
      have g1 : decide ((1 : Int) ≤ (to : Int)) = true := by simp; omega
      have g2 : decide (to ≤ b.length) = true := by simp; omega
      go_enter Try.func5, Try.ntmps5
      go_wp2_with fail
      refine (HP.out _).mono ?_
      rintro e w1 ⟨rfl, hb1⟩
      go_wp2_with fail
      refine (get_eq (a ++ (s ++ b)) HL.out a.length _ HG).mono ?_
      rintro e w' ⟨rfl, rfl⟩
      go_wp2_with fail
      refine (HZ.out _).mono ?_
      rintro e w' ⟨rfl, rfl⟩
      go_wp2_with fail
      refine (get_eq b (by omega) 0 _ HK).mono ?_
      rintro e w' ⟨rfl, rfl⟩
      go_wp2_with fail
      refine wp_region_quiet_below (by kernel_rfl) (by kernel_rfl) ?_
      repeat (go_big_quiet_step (first | exact rgB (put_eq HE hkl) _ _ _ | exact rgB live1 _ _ _))
      refine wpQuiet_nil ?_
      intro _ hw'
      obtain ⟨⟨dq, osq⟩, hw''⟩ := hw'
      subst hw''
      go_wp2
      go_ret
      exact ⟨rfl, below2' hb1 (below_regrown _ _ _)⟩
    · have hz : k = 0 ∧ to = 0 := by
        unfold vget at hk
        split at hk
        · simp only [Prod.mk.injEq] at hk; omega
        · split at hk
          · simp only [Prod.mk.injEq] at hk; omega
          · simp only [Prod.mk.injEq] at hk; omega
      obtain ⟨rfl, rfl⟩ := hz
      have t1 : ((f : Int) != 0) = true := by simp; omega
      clear hback hk hkk hf
      go_enter Try.func5, Try.ntmps5
      go_wp2_with fail
      refine (HP.out _).mono ?_
      rintro e w1 ⟨rfl, hb1⟩
      go_wp2_with fail
      refine (get_eq (a ++ (s ++ b)) HL.out a.length _ HG).mono ?_
      rintro e w' ⟨rfl, rfl⟩
      go_wp2_with fail
      refine (HZ.out _).mono ?_
      rintro e w' ⟨rfl, rfl⟩
      go_wp2_with fail
      refine (get_eq b (by omega) 0 _ HK).mono ?_
      rintro e w' ⟨rfl, rfl⟩
      go_wp2_with fail
      refine (live1 _).mono ?_
      rintro e w3 ⟨rfl, hb3⟩
      go_wp2_with fail
      go_ret
      exact ⟨rfl, below2' hb1 hb3⟩

end Go.Proofs.Ytcphelohkllodaa
