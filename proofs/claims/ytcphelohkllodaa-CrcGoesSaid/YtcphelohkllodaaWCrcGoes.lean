/-
  THE WALK OF CrcGoes, out of the contracts.
-/
import Derived.Test.YtcphelohkllodaaCrcLive
import Derived.OpenShut
namespace Go.Proofs.Ytcphelohkllodaa
open Go.RowKit
attribute [local go_sem] ByteArray.mk_append_mk

theorem xor_all (n : Nat) (h : n < 4294967296) : bits .xor .u32 (n : Int) 4294967295 = ((n ^^^ 4294967295 : Nat) : Int) := xor_u32 n 4294967295 h (by decide)

theorem csum_xor (l : List UInt8) : csum l ^^^ 4294967295 = cfold 4294967295 l := by unfold csum; exact xor_cancel _ _

set_option maxHeartbeats 800000 in
set_option maxRecDepth 1000000 in
theorem walkCrcGoes {w : World} (a : List UInt8) (_ha : a.length ≤ maxLen) (b : List UInt8) (_hb : b.length ≤ maxLen) :
    Calls Try.prog 13 #[.string ⟨a.toArray⟩, .string ⟨b.toArray⟩] w fun e w' => e = .returned (.bool true) ∧ Below w.heap.size w w' := by
  unfold maxLen at _ha _hb
  by_cases h : 300 < a.length ∨ 300 < b.length
  · by_cases h1 : 300 < a.length
    · clear h
      go_enter Try.func13, Try.ntmps13
      go_wp2_with fail
      refine (live2 _).mono ?_
      rintro e w1 ⟨rfl, hb1⟩
      go_wp2_with fail
      go_ret
      exact ⟨rfl, hb1⟩
    · have h2 : 300 < b.length := by omega
      clear h
      go_enter Try.func13, Try.ntmps13
      go_wp2_with fail
      refine (live2 _).mono ?_
      rintro e w1 ⟨rfl, hb1⟩
      go_wp2_with fail
      go_ret
      exact ⟨rfl, hb1⟩
  · have h1 : a.length ≤ 300 := by omega
    have h2 : b.length ≤ 300 := by omega
    clear h _ha _hb
    have hx : bits .xor .u32 ((csum a : Nat) : Int) 4294967295 = ((cfold 4294967295 a : Nat) : Int) := by
      rw [xor_all _ (csum_lt a), csum_xor]
    have hal := cfold_lt a (show 4294967295 < 4294967296 by decide)
    have g1 : decide ((300 : Int) < (a.length : Int)) = false := by simp; omega
    have g2 : decide ((300 : Int) < (b.length : Int)) = false := by simp; omega
    go_enter Try.func13, Try.ntmps13
    go_wp2_with fail
    refine (sum_any a (by omega) _).mono ?_
    rintro e w1 ⟨rfl, hb1⟩
    go_wp2_with fail
    go_loop [5, 6] (fun v i => ∃ k d : Nat, k ≤ b.length ∧ d < 4294967296 ∧ i = .int .i64 k ∧ v = .int .u32 d ∧ Hid (d = cfold 4294967295 (a ++ b.take k))) (fun _ i => b.length - (intOf i).toNat)
    case atStart => exact ⟨0, cfold 4294967295 a, by omega, hal, rfl, rfl, by show _ = _; simp⟩
    case round =>
      obtain ⟨k, d, hk, hd, rfl, rfl, HD⟩ := hrel
      clear hx hal
      by_cases hlt : k < b.length
      · have hlt' : k < (⟨b.toArray⟩ : ByteArray).size := by rw [size_bytes]; exact hlt
        obtain ⟨c, hc⟩ : ∃ c : UInt8, (⟨b.toArray⟩ : ByteArray)[k]'hlt' = c := ⟨_, rfl⟩
        have HB : Hid (b[k]? = some c) := by rw [← hc]; exact bytes_at b k hlt'
        have hN : Hid (cstep d c.toNat = cfold 4294967295 (a ++ b.take (k + 1))) := by
          show _ = _
          obtain ⟨h1, h2⟩ := List.getElem?_eq_some_iff.1 HB.out
          rw [List.take_succ_eq_append_getElem h1, h2, ← List.append_assoc, cfold_append, HD.out]
          rfl
        have h256 := c.toNat_lt
        have hl2 := cstep_lt hd (show c.toNat < 4294967296 by omega)
        go_wp2_with fail
        refine (step_any d c.toNat hd (by omega) _).mono ?_
        rintro e w' ⟨rfl, rfl⟩
        go_wp2_with fail
        go_round
        case rel => exact ⟨k + 1, cstep d c.toNat, by omega, hl2, by go_num, rfl, hN⟩
        case measure => simp [intOf]; omega
      · obtain rfl : k = b.length := by omega
        have hx2 : bits .xor .u32 (d : Int) 4294967295 = ((csum (a ++ b) : Nat) : Int) := by
          have h2 := HD.out
          rw [List.take_length] at h2
          rw [xor_all _ hd, h2]
          rfl
        have HL : Hid ((a ++ b).length ≤ 4294967296) := by show _ ≤ _; simp; omega
        clear HD
        go_wp2_with fail
        refine (sum_any (a ++ b) HL.out _).mono ?_
        rintro e w2 ⟨rfl, hb2⟩
        go_wp2_with fail
        refine (live2 _).mono ?_
        rintro e w3 ⟨rfl, hb3⟩
        go_wp2_with fail
        go_ret
        exact ⟨rfl, below3 hb1 hb2 hb3⟩

end Go.Proofs.Ytcphelohkllodaa
