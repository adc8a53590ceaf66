/-
  THE CONTRACT OF THE DOCUMENT'S ANSWER TO varint.Get.
-/
import Derived.Test.YthfkfonfiejbmaaVarGet
namespace Go.Proofs.Ythfkfonfiejbmaa
open Go.RowKit

set_option maxHeartbeats 400000 in
set_option maxRecDepth 1000000 in
theorem rget_in (l : List UInt8) (hl : l.length ≤ 4294967296) (q : Nat) (hq : q ≤ l.length) (w : World) :
    Calls Try.prog 54 #[.string ⟨l.toArray⟩, .int .i64 q] w fun e w' => e = .returned (triple (vget l q)) ∧ w = w' := by
  have b1 : decide (l.length < q) = false := by simp; omega
  have b2 : decide ((q : Int) < 0) = false := by simp
  go_enter Try.func54, Try.ntmps54
  go_wp2
  go_loop [7, 8, 9] (fun n P c => ∃ i acc pw : Nat, i ≤ 9 ∧ q + i ≤ l.length ∧ n = .int .u64 acc ∧ P = .int .u64 pw ∧ c = .int .i64 i ∧ Hid (pw = 128 ^ i) ∧ Hid (GetAt l q i acc (q + i) (7 * i)))
    (fun _ _ c => (10 - (intOf c).toNat))
  case atStart => exact ⟨0, 0, 1, by omega, by omega, rfl, rfl, rfl, rfl, getAt_start l q⟩
  case round =>
    obtain ⟨i, acc, pw, hi9, hqi, rfl, rfl, rfl, HP, Hall⟩ := hrel
    by_cases hend : q + i = l.length
    · have HR := Lib.hid (getAt_end Hall.out hq hend)
      have t1 : (l.length : Int) ≤ (q : Int) + i := by omega
      clear hend
      go_wp2
      go_ret3
      exact ⟨by rw [HR.out]; rfl, rfl⟩
    · have hlt : q + i < l.length := by omega
      have t1 : ¬ (l.length : Int) ≤ (q : Int) + i := by omega
      have hlt' : q + i < (⟨l.toArray⟩ : ByteArray).size := by show _ < l.toArray.size; simpa using hlt
      obtain ⟨b, hb⟩ : ∃ b : UInt8, (⟨l.toArray⟩ : ByteArray)[q + i]'hlt' = b := ⟨_, rfl⟩
      have HB : Hid (l[q + i]? = some b) := by rw [← hb]; exact bytes_at l (q + i) hlt'
      have h256 := b.toNat_lt
      clear hend
      by_cases h91 : i = 9 ∧ 1 < b.toNat
      · have t2 : ((i : Int) == 9) = true := by simp; omega
        have t3 : (1 : Int) < b.toNat := by omega
        have HR := Lib.hid (getAt_form Hall.out hq HB.out (.inl h91))
        clear h91
        go_wp2
        go_ret3
        exact ⟨by rw [HR.out]; rfl, rfl⟩
      · have H91 := Lib.hid h91
        clear h91
        have hs := sum_lt acc (b.toNat % 128) i Hall.out.1 (by omega) hi9 (fun h => by have := H91.out; omega)
        obtain ⟨z, hz⟩ : ∃ z, z = b.toNat % 128 * 128 ^ i := ⟨_, rfl⟩
        have t6 : IntKind.u64.wrap ((b.toNat : Int) % 128 * (pw : Int)) = (z : Int) := by
          rw [IntKind.wrap_u64, HP.out, hz]
          have : (b.toNat : Int) % 128 = ((b.toNat % 128 : Nat) : Int) := by omega
          rw [this, ← Int.natCast_mul]
          omega
        have t9 : (((i : Int) == 9) = true ∧ ¬ (1 : Int) < b.toNat) ∨ ((i : Int) == 9) = false := by
          by_cases h : i = 9
          · exact .inl ⟨by simp; omega, by have := H91.out; omega⟩
          · exact .inr (by simp; omega)
        have T9 := Lib.hid t9
        clear t9
        by_cases h0 : b.toNat < 128
        · by_cases hz0 : b.toNat = 0 ∧ 0 < i
          · have t7 : ((b.toNat : Int) == 0) = true := by simp; omega
            have t8 : (0 : Int) < i := by omega
            have HR := Lib.hid (getAt_form Hall.out hq HB.out (.inr ⟨h0, hz0⟩))
            rw [← hz] at hs
            clear hz hz0
            rcases T9.out with ⟨t2, t3⟩ | t2
            all_goals
              clear T9
              go_wp2
              go_ret3
              exact ⟨by rw [HR.out]; rfl, rfl⟩
          · have HR := Lib.hid (getAt_last Hall.out hq HB.out H91.out h0 hz0)
            rw [← hz] at hs HR
            clear hz
            have t7 : (((b.toNat : Int) == 0) = true ∧ ¬ (0 : Int) < i) ∨ ((b.toNat : Int) == 0) = false := by
              by_cases h : b.toNat = 0
              · exact .inl ⟨by simp; omega, by omega⟩
              · exact .inr (by simp; omega)
            have T7 := Lib.hid t7
            clear t7 hz0
            rcases T9.out with ⟨t2, t3⟩ | t2
            all_goals
              clear T9
              rcases T7.out with ⟨t7, t8⟩ | t7
              all_goals
                clear T7
                go_wp2
                go_ret3
                exact ⟨by rw [HR.out]; rfl, rfl⟩
        · have hi8 : i ≤ 8 := by have := H91.out; omega
          have t2 : ((i : Int) == 9) = false := by simp; omega
          have HN := Lib.hid (getAt_next Hall.out HB.out H91.out h0)
          rw [← hz] at hs HN
          clear hz
          have hpw : pw * 128 < 18446744073709551616 := by
            rw [HP.out]
            calc 128 ^ i * 128 ≤ 128 ^ 8 * 128 := Nat.mul_le_mul_right _ (Nat.pow_le_pow_right (by decide) hi8)
              _ < 18446744073709551616 := by decide
          go_wp2
          go_round
          case rel => exact ⟨i + 1, acc + z, pw * 128, by omega, by omega, by go_num, by go_num, by go_num, by show _ = _; rw [HP.out, Nat.pow_succ], by show GetAt _ _ _ _ _ _; rw [← Nat.add_assoc, show 7 * (i + 1) = 7 * i + 7 by omega]; exact HN.out⟩
          case measure => simp [intOf]; omega

set_option maxHeartbeats 400000 in
set_option maxRecDepth 1000000 in
theorem rget_any (l : List UInt8) (hl : l.length ≤ 4294967296) (p : Int) (w : World) :
    Calls Try.prog 54 #[.string ⟨l.toArray⟩, .int .i64 p] w fun e w' => e = .returned (triple (vget l p)) ∧ w = w' := by
  by_cases h : p < 0 ∨ (l.length : Int) < p
  · rw [vget_out h]
    by_cases h1 : p < 0
    · clear h
      go_enter Try.func54, Try.ntmps54
      go_wp2
      go_ret3
      exact ⟨rfl, rfl⟩
    · have h2 : (l.length : Int) < p := by omega
      clear h
      go_enter Try.func54, Try.ntmps54
      go_wp2
      go_ret3
      exact ⟨rfl, rfl⟩
  · obtain ⟨q, rfl⟩ := Int.eq_ofNat_of_zero_le (show 0 ≤ p by omega)
    exact rget_in l hl q (by omega) w

end Go.Proofs.Ythfkfonfiejbmaa
