/-
  THE CONTRACTS OF digest.Sum AND OF THE DOCUMENT'S ANSWER TO IT.
-/
import Derived.Test.YtocjeehoghfnmaaDigRput
namespace Go.Proofs.Ytocjeehoghfnmaa
open Go.RowKit

theorem fnv_lit (l : List UInt8) : fnv l < 18446744073709551616 := fnv_lt l

theorem fnv_step (a : Nat) (b : UInt8) (ha : a < 18446744073709551616) : IntKind.u64.wrap (bits .xor .u64 (a : Int) (b.toNat : Int) * 1099511628211) = ((fnv1 a b : Nat) : Int) := by
  have hb := b.toNat_lt
  rw [u64_xor_nat _ _ (by omega) (by omega), IntKind.wrap_u64]
  unfold fnv1 fnvP fnvM
  omega

theorem fnv_start : (14695981039346656037 : Int) = ((fnv (List.take 0 ([] : List UInt8)) : Nat) : Int) := rfl

theorem fnv_next {l : List UInt8} {k : Nat} {b : UInt8} (hb : l[k]? = some b) : fnv (l.take (k + 1)) = fnv1 (fnv (l.take k)) b := by
  obtain ⟨h1, h2⟩ := List.getElem?_eq_some_iff.1 hb
  rw [List.take_succ_eq_append_getElem h1, h2, fnv_snoc]

set_option maxHeartbeats 1600000 in
set_option maxRecDepth 1000000 in
theorem disum_any {w : World} {v : Value} {t : List Row} (hv : Tab w v t) (hs : Short t) :
    Calls Try.prog 21 #[v] w fun e w' => e = .returned (.int .u64 (diSum t)) ∧ Below w.heap.size w w' := by
  obtain ⟨l, r, hl⟩ : ∃ l r, diPut t = (l, r) := ⟨_, _, rfl⟩
  have hll := diPut_len t
  rw [hl] at hll
  simp only at hll
  have HP := Lib.hid (diput_eq hv hs (Lib.hid hl))
  have HR : Hid (diSum t = fnv l) := by show _ = _; unfold diSum; rw [hl]
  obtain ⟨a, cap, rfl, _⟩ := hv.open'
  clear hv hs hl
  go_enter Try.func21, Try.ntmps21
  go_wp2_with fail
  refine HP.out.mono ?_
  rintro e w1 ⟨rfl, hb1⟩
  have B1 := Lib.hid hb1
  clear hb1
  go_wp2_with fail
  go_loop [5, 14] (fun s i => ∃ k : Nat, k ≤ l.length ∧ i = .int .i64 k ∧ s = .int .u64 (fnv (l.take k))) (fun _ i => l.length - (intOf i).toNat)
  case atStart => exact ⟨0, by omega, rfl, congrArg (Value.int .u64) fnv_start⟩
  case round =>
    obtain ⟨k, hk, rfl, rfl⟩ := hrel
    by_cases hlt : k < l.length
    · have hlt' : k < (⟨l.toArray⟩ : ByteArray).size := by rw [size_bytes]; exact hlt
      obtain ⟨b, hb⟩ : ∃ b : UInt8, (⟨l.toArray⟩ : ByteArray)[k]'hlt' = b := ⟨_, rfl⟩
      have HB : Hid (l[k]? = some b) := by rw [← hb]; exact bytes_at l k hlt'
      have h256 := b.toNat_lt
      have HE := Lib.hid (fnv_next HB.out)
      have HL := Lib.hid (fnv_lit (l.take k))
      obtain ⟨x, hx⟩ : ∃ x, fnv (l.take k) = x := ⟨_, rfl⟩
      rw [hx] at HE HL
      rw [hx]
      have HE2 := Lib.hid (fnv_step x b HL.out)
      clear hx
      go_wp2_with fail
      go_round
      case rel => exact ⟨k + 1, by omega, by go_num, congrArg (Value.int .u64) (by rw [HE.out]; exact HE2.out)⟩
      case measure => simp [intOf]; omega
    · obtain rfl : k = l.length := by omega
      go_wp2_with fail
      go_ret
      exact ⟨ret_int (by rw [HR.out]), B1.out⟩

set_option maxHeartbeats 1600000 in
set_option maxRecDepth 1000000 in
theorem rdisum_any {w : World} {v : Value} {t : List Row} (hv : Tab w v t) (hs : Short t) :
    Calls Try.prog 22 #[v] w fun e w' => e = .returned (.int .u64 (diSum t)) ∧ Below w.heap.size w w' := by
  obtain ⟨l, r, hl⟩ : ∃ l r, diPut t = (l, r) := ⟨_, _, rfl⟩
  have hll := diPut_len t
  rw [hl] at hll
  simp only at hll
  have HP := Lib.hid (rdiput_eq hv hs (Lib.hid hl))
  have HR : Hid (diSum t = fnv l) := by show _ = _; unfold diSum; rw [hl]
  obtain ⟨a, cap, rfl, _⟩ := hv.open'
  clear hv hs hl
  go_enter Try.func22, Try.ntmps22
  go_wp2_with fail
  refine HP.out.mono ?_
  rintro e w1 ⟨rfl, hb1⟩
  have B1 := Lib.hid hb1
  clear hb1
  go_wp2_with fail
  go_loop [5, 6] (fun s i => ∃ k : Nat, k ≤ l.length ∧ i = .int .i64 k ∧ s = .int .u64 (fnv (l.take k))) (fun _ i => l.length - (intOf i).toNat)
  case atStart => exact ⟨0, by omega, rfl, congrArg (Value.int .u64) fnv_start⟩
  case round =>
    obtain ⟨k, hk, rfl, rfl⟩ := hrel
    by_cases hlt : k < l.length
    · have hlt' : k < (⟨l.toArray⟩ : ByteArray).size := by rw [size_bytes]; exact hlt
      obtain ⟨b, hb⟩ : ∃ b : UInt8, (⟨l.toArray⟩ : ByteArray)[k]'hlt' = b := ⟨_, rfl⟩
      have HB : Hid (l[k]? = some b) := by rw [← hb]; exact bytes_at l k hlt'
      have h256 := b.toNat_lt
      have HE := Lib.hid (fnv_next HB.out)
      have HL := Lib.hid (fnv_lit (l.take k))
      obtain ⟨x, hx⟩ : ∃ x, fnv (l.take k) = x := ⟨_, rfl⟩
      rw [hx] at HE HL
      rw [hx]
      have HE2 := Lib.hid (fnv_step x b HL.out)
      clear hx
      go_wp2_with fail
      go_round
      case rel => exact ⟨k + 1, by omega, by go_num, congrArg (Value.int .u64) (by rw [HE.out]; exact HE2.out)⟩
      case measure => simp [intOf]; omega
    · obtain rfl : k = l.length := by omega
      go_wp2_with fail
      go_ret
      exact ⟨ret_int (by rw [HR.out]), B1.out⟩

end Go.Proofs.Ytocjeehoghfnmaa
