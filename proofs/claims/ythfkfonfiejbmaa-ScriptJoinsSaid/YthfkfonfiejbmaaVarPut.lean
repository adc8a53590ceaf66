/-
  THE CONTRACTS OF varint.Put, Size, Text AND OF THE DOCUMENT'S ANSWERS TO THEM: each returns what the plain mathematics says, and writes nothing that was there.
-/
import Derived.Test.YthfkfonfiejbmaaRows
import Derived.Test.YthfkfonfiejbmaaVarPure
import Derived.Test.YthfkfonfiejbmaaKit
import Derived.Deep.DeepMust
import Derived.Lib.Hide
namespace Go.Proofs.Ythfkfonfiejbmaa
open Go.RowKit

theorem Try.info5 : (Try.prog.info? 5).map (fun i => (i.zero, i.size, i.bytes)) = some (some (.int .u8 0), 1, 1) := by kernel_rfl

set_option maxHeartbeats 400000 in
set_option maxRecDepth 100000 in
theorem put_any (n : Nat) (hn : n < 18446744073709551616) (w : World) :
    Calls Try.prog 56 #[.int .u64 n] w fun e w' => e = .returned (.string ⟨(vput n).toArray⟩) ∧ Below w.heap.size w w' := by
  obtain ⟨i0, hi, hz0, hz1, hz2⟩ := info_parts Try.info5
  go_enter Try.func56, Try.ntmps56
  go_wp2
  go_loopw [0, 3] (fun i v wr => ∃ (m : Nat) (xs : List UInt8), m < 18446744073709551616 ∧ xs ++ vput m = vput n ∧ i = .int .u64 m ∧ wr.ownsRow w.heap.size 5 1 v xs.length (bvals xs) ∧ Below w.heap.size w wr)
    (fun i _ _ => (intOf i).toNat)
  case atStart => exact ⟨n, [], hn, rfl, rfl, World.ownsRow_nil _ _ _ _, Below.refl _ _⟩
  case round =>
    obtain ⟨m, xs, hm, hx, rfl, hown, hnx⟩ := hrel
    have hlen : xs.length ≤ 10 := by
      have h1 := congrArg List.length hx
      have h2 := vput_len_le n
      simp at h1; omega
    have hsz := hnx.size
    by_cases hlt : m < 128
    · have hv := vput_lt hlt
      go_wp2_with (at_builtin; go_must (refine wpList_append_u8 _ m rfl (by omega) rfl _ _ 45 rfl w.heap.size 5 i0 Try.underlying45 hi hz0 hz1 hz2 _ xs rfl (by exact hown) rfl (by omega) hsz ?_))
      intro v' w1 hown' hb
      have hc := run_convert_owned (P := Try.prog) 45 5 9 Try.underlying45 Try.underlying5 Try.underlying9 hown'
      go_wp2
      go_ret
      exact ⟨by rw [← hx, hv]; rfl, hnx.trans hb⟩
    · have hv := vput_ge (by omega) hm
      go_wp2_with (at_builtin; go_must (refine wpList_append_u8 _ (m % 128 + 128) (or128 m) (by omega) rfl _ _ 45 rfl w.heap.size 5 i0 Try.underlying45 hi hz0 hz1 hz2 _ xs rfl (by exact hown) rfl (by omega) hsz ?_))
      intro v' w1 hown' hb
      go_wp2
      go_roundw
      case rel => exact ⟨m / 128, xs ++ [u8of (m % 128 + 128)], by omega, by rw [← hx, hv]; simp, by go_num, by simpa using hown', hnx.trans hb⟩
      case measure => simp [intOf]; omega

set_option maxHeartbeats 400000 in
set_option maxRecDepth 100000 in
theorem rput_any (n : Nat) (hn : n < 18446744073709551616) (w : World) :
    Calls Try.prog 57 #[.int .u64 n] w fun e w' => e = .returned (.string ⟨(vput n).toArray⟩) ∧ Below w.heap.size w w' := by
  obtain ⟨i0, hi, hz0, hz1, hz2⟩ := info_parts Try.info5
  go_enter Try.func57, Try.ntmps57
  go_wp2
  go_loopw [0, 3] (fun i v wr => ∃ (m : Nat) (xs : List UInt8), m < 18446744073709551616 ∧ xs ++ vput m = vput n ∧ i = .int .u64 m ∧ wr.ownsRow w.heap.size 5 1 v xs.length (bvals xs) ∧ Below w.heap.size w wr)
    (fun i _ _ => (intOf i).toNat)
  case atStart => exact ⟨n, [], hn, rfl, rfl, World.ownsRow_made w #[] 0 (Nat.le_refl _) (by decide) rfl, (Below.refl _ _).alloc (Nat.le_refl _) _⟩
  case round =>
    obtain ⟨m, xs, hm, hx, rfl, hown, hnx⟩ := hrel
    have hlen : xs.length ≤ 10 := by
      have h1 := congrArg List.length hx
      have h2 := vput_len_le n
      simp at h1; omega
    have hsz := hnx.size
    by_cases hlt : m < 128
    · have hv := vput_lt hlt
      go_wp2_with (at_builtin; go_must (refine wpList_append_u8 _ m rfl (by omega) rfl _ _ 45 rfl w.heap.size 5 i0 Try.underlying45 hi hz0 hz1 hz2 _ xs rfl (by exact hown) rfl (by omega) hsz ?_))
      intro v' w1 hown' hb
      have hc := run_convert_owned (P := Try.prog) 45 5 9 Try.underlying45 Try.underlying5 Try.underlying9 hown'
      go_wp2
      go_ret
      exact ⟨by rw [← hx, hv]; rfl, hnx.trans hb⟩
    · have hv := vput_ge (by omega) hm
      go_wp2_with (at_builtin; go_must (refine wpList_append_u8 _ (m % 128 + 128) (by omega) (by omega) rfl _ _ 45 rfl w.heap.size 5 i0 Try.underlying45 hi hz0 hz1 hz2 _ xs rfl (by exact hown) rfl (by omega) hsz ?_))
      intro v' w1 hown' hb
      go_wp2
      go_roundw
      case rel => exact ⟨m / 128, xs ++ [u8of (m % 128 + 128)], by omega, by rw [← hx, hv]; simp, by go_num, by simpa using hown', hnx.trans hb⟩
      case measure => simp [intOf]; omega

set_option maxHeartbeats 400000 in
set_option maxRecDepth 100000 in
theorem text_any (l : List UInt8) (hl : l.length ≤ 4294967296) (w : World) :
    Calls Try.prog 32 #[.string ⟨l.toArray⟩] w fun e w' => e = .returned (.string ⟨(vput l.length ++ l).toArray⟩) ∧ Below w.heap.size w w' := by
  go_enter Try.func32, Try.ntmps32
  have hlen := vput_len_le l.length
  go_wp2_with (go_at_call 56; go_must (refine (put_any l.length (by omega) _).mono ?_); rintro e w' ⟨rfl, hb⟩)
  go_ret
  exact ⟨rfl, hb⟩

set_option maxHeartbeats 400000 in
set_option maxRecDepth 100000 in
theorem rtext_any (l : List UInt8) (hl : l.length ≤ 4294967296) (w : World) :
    Calls Try.prog 34 #[.string ⟨l.toArray⟩] w fun e w' => e = .returned (.string ⟨(vput l.length ++ l).toArray⟩) ∧ Below w.heap.size w w' := by
  go_enter Try.func34, Try.ntmps34
  have hlen := vput_len_le l.length
  go_wp2_with (go_at_call 57; go_must (refine (rput_any l.length (by omega) _).mono ?_); rintro e w' ⟨rfl, hb⟩)
  go_ret
  exact ⟨rfl, hb⟩

end Go.Proofs.Ythfkfonfiejbmaa
