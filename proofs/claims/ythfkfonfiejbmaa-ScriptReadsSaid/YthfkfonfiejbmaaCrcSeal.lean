/-
  THE CONTRACTS OF crc.low, Seal, Open AND OF THE DOCUMENT'S ANSWERS TO THEM.
-/
import Derived.Test.YthfkfonfiejbmaaCrcSum
namespace Go.Proofs.Ythfkfonfiejbmaa
open Go.RowKit
attribute [local go_sem] ByteArray.mk_append_mk

theorem low4_vals (n : Nat) (hn : n < 4294967296) : #[Value.int IntKind.u8 ((n : Int) % 256), Value.int IntKind.u8 ((n : Int) / 256 % 256), Value.int IntKind.u8 ((n : Int) / 65536 % 256), Value.int IntKind.u8 ((n : Int) / 16777216)] = (bvals (low4 n)).toArray := by
  simp only [bvals, low4, List.map_cons, List.map_nil]
  rw [u8of_toNat (by omega), u8of_toNat (by omega), u8of_toNat (by omega), u8of_toNat (by omega)]
  rw [show ((n % 256 : Nat) : Int) = (n : Int) % 256 by omega, show ((n / 256 % 256 : Nat) : Int) = (n : Int) / 256 % 256 by omega, show ((n / 65536 % 256 : Nat) : Int) = (n : Int) / 65536 % 256 by omega, show ((n / 16777216 % 256 : Nat) : Int) = (n : Int) / 16777216 by omega]

set_option maxHeartbeats 400000 in
set_option maxRecDepth 100000 in
theorem low_any (n : Nat) (hn : n < 4294967296) (w : World) :
    Calls Try.prog 45 #[.int .u32 n] w fun e w' => e = .returned (.string ⟨(low4 n).toArray⟩) ∧ Below w.heap.size w w' := by
  have hcv := fun w => run_convert_new (P := Try.prog) w 45 5 9 Try.underlying45 Try.underlying5 Try.underlying9 _ (low4 n) (low4_vals n hn) 4 rfl (by decide)
  go_enter Try.func45, Try.ntmps45
  go_wp2_with fail
  go_ret
  exact ⟨rfl, (Below.refl _ _).alloc (Nat.le_refl _) _⟩

set_option maxHeartbeats 400000 in
set_option maxRecDepth 100000 in
theorem seal_any (l : List UInt8) (hl : l.length ≤ 4294967296) (w : World) :
    Calls Try.prog 35 #[.string ⟨l.toArray⟩] w fun e w' => e = .returned (.string ⟨(cseal l).toArray⟩) ∧ Below w.heap.size w w' := by
  have h4 : (low4 (csum l)).length = 4 := rfl
  have hs := csum_lt l
  go_enter Try.func35, Try.ntmps35
  go_wp2_with fail
  refine (sum_any l hl _).mono ?_
  rintro e w1 ⟨rfl, hb1⟩
  go_wp2_with fail
  refine (low_any (csum l) hs _).mono ?_
  rintro e w2 ⟨rfl, hb2⟩
  go_wp2_with fail
  go_ret
  exact ⟨rfl, below2' hb1 hb2⟩

set_option maxHeartbeats 400000 in
set_option maxRecDepth 100000 in
theorem rseal_any (l : List UInt8) (hl : l.length ≤ 4294967296) (w : World) :
    Calls Try.prog 11 #[.string ⟨l.toArray⟩] w fun e w' => e = .returned (.string ⟨(cseal l).toArray⟩) ∧ Below w.heap.size w w' := by
  have h4 : (low4 (csum l)).length = 4 := rfl
  have hs := csum_lt l
  have hcv := fun w => run_convert_new (P := Try.prog) w 45 5 9 Try.underlying45 Try.underlying5 Try.underlying9 _ (low4 (csum l)) (low4_vals (csum l) hs) 4 rfl (by decide)
  go_enter Try.func11, Try.ntmps11
  go_wp2_with fail
  refine (rsum_any l hl _).mono ?_
  rintro e w' ⟨rfl, rfl⟩
  go_wp2_with fail
  go_ret
  exact ⟨rfl, (Below.refl _ _).alloc (Nat.le_refl _) _⟩

/-- Two results: text, error. -/
def pairS (r : List UInt8 × Nat) : Value := .tuple #[.string ⟨r.1.toArray⟩, .int .i64 r.2]

set_option maxHeartbeats 400000 in
set_option maxRecDepth 100000 in
theorem open_any (l : List UInt8) (hl : l.length ≤ 4294967296) (w : World) :
    Calls Try.prog 23 #[.string ⟨l.toArray⟩] w fun e w' => e = .returned (pairS (copen l)) ∧ Below w.heap.size w w' := by
  by_cases h4 : l.length < 4
  · have HR : Hid (copen l = ([], 2)) := by show _ = _; unfold copen; rw [if_pos h4]
    go_enter Try.func23, Try.ntmps23
    go_wp2_with fail
    go_ret2
    exact ⟨by rw [HR.out]; rfl, Below.refl _ _⟩
  · obtain ⟨s, hs⟩ : ∃ s, s = l.take (l.length - 4) := ⟨_, rfl⟩
    obtain ⟨d, hd⟩ : ∃ d, d = l.drop (l.length - 4) := ⟨_, rfl⟩
    have hsl1 := fun w => run_slice_bytes_to (P := Try.prog) w 9 l (l.length - 4) ((l.length : Int) - 4) (by omega) Try.underlying9 (by omega)
    have hsl2 := fun w => run_slice_bytes_from (P := Try.prog) w 9 l (l.length - 4) ((l.length : Int) - 4) (by omega) Try.underlying9 (by omega)
    have hsl : s.length ≤ 4294967296 := by rw [hs]; simp; omega
    have hsm := csum_lt s
    have hop : copen l = if d = low4 (csum s) then (s, 0) else ([], 4) := by unfold copen; rw [if_neg h4, ← hs, ← hd]
    rw [← hs] at hsl1
    rw [← hd] at hsl2
    have HO := Lib.hid hop
    have HSL := Lib.hid hsl
    clear hop hsl hs hd
    by_cases he : d = low4 (csum s)
    · have t1 : (low4 (csum s) == d) = true := by rw [he]; simp
      have HR : Hid (copen l = (s, 0)) := by show _ = _; rw [HO.out, if_pos he]
      clear he
      go_enter Try.func23, Try.ntmps23
      go_wp2_with fail
      refine wp_region_quiet_below (by kernel_rfl) (by kernel_rfl) ?_
      repeat (go_big_quiet_step (first | exact rgB (sum_any s HSL.out) _ _ _ | exact rgB (low_any (csum s) hsm) _ _ _))
      refine wpQuiet_nil ?_
      intro _ hw'
      obtain ⟨⟨dq, osq⟩, hw''⟩ := hw'
      subst hw''
      go_wp2
      go_ret2
      exact ⟨by rw [HR.out]; rfl, below_regrown _ _ _⟩
    · have t1 : (low4 (csum s) == d) = false := by simpa using fun h => he h.symm
      have HR : Hid (copen l = ([], 4)) := by show _ = _; rw [HO.out, if_neg he]
      clear he
      go_enter Try.func23, Try.ntmps23
      go_wp2_with fail
      refine wp_region_quiet_below (by kernel_rfl) (by kernel_rfl) ?_
      repeat (go_big_quiet_step (first | exact rgB (sum_any s HSL.out) _ _ _ | exact rgB (low_any (csum s) hsm) _ _ _))
      refine wpQuiet_nil ?_
      intro _ hw'
      obtain ⟨⟨dq, osq⟩, hw''⟩ := hw'
      subst hw''
      go_wp2
      go_ret2
      exact ⟨by rw [HR.out]; rfl, below_regrown _ _ _⟩

set_option maxHeartbeats 400000 in
set_option maxRecDepth 100000 in
theorem ropen_any (l : List UInt8) (hl : l.length ≤ 4294967296) (w : World) :
    Calls Try.prog 25 #[.string ⟨l.toArray⟩] w fun e w' => e = .returned (pairS (copen l)) ∧ Below w.heap.size w w' := by
  by_cases h4 : l.length < 4
  · have HR : Hid (copen l = ([], 2)) := by show _ = _; unfold copen; rw [if_pos h4]
    go_enter Try.func25, Try.ntmps25
    go_wp2_with fail
    go_ret2
    exact ⟨by rw [HR.out]; rfl, Below.refl _ _⟩
  · obtain ⟨s, hs⟩ : ∃ s, s = l.take (l.length - 4) := ⟨_, rfl⟩
    have hsl1 := fun w => run_slice_bytes_to (P := Try.prog) w 9 l (l.length - 4) ((l.length : Int) - 4) (by omega) Try.underlying9 (by omega)
    have hsl : s.length ≤ 4294967296 := by rw [hs]; simp; omega
    have hop : copen l = if cseal s = l then (s, 0) else ([], 4) := by
      have e : (cseal s = l) ↔ (l.drop (l.length - 4) = low4 (csum s)) := by
        unfold cseal
        constructor
        · intro h
          rw [hs] at h ⊢
          conv at h => rhs; rw [← List.take_append_drop (l.length - 4) l]
          exact (List.append_cancel_left h).symm
        · intro h
          rw [← h, hs, List.take_append_drop]
      unfold copen
      rw [if_neg h4, ← hs]
      by_cases hh : cseal s = l
      · rw [if_pos hh, if_pos (e.1 hh)]
      · rw [if_neg hh, if_neg (fun x => hh (e.2 x))]
    rw [← hs] at hsl1
    have HO := Lib.hid hop
    have HSL := Lib.hid hsl
    clear hop hsl hs
    by_cases he : cseal s = l
    · have t1 : (cseal s == l) = true := by simpa using he
      have HR : Hid (copen l = (s, 0)) := by show _ = _; rw [HO.out, if_pos he]
      clear he
      go_enter Try.func25, Try.ntmps25
      go_wp2_with fail
      refine (rseal_any s HSL.out _).mono ?_
      rintro e w1 ⟨rfl, hb1⟩
      go_wp2_with fail
      go_ret2
      exact ⟨by rw [HR.out]; rfl, hb1⟩
    · have t1 : (cseal s == l) = false := by simpa using he
      have HR : Hid (copen l = ([], 4)) := by show _ = _; rw [HO.out, if_neg he]
      clear he
      go_enter Try.func25, Try.ntmps25
      go_wp2_with fail
      refine (rseal_any s HSL.out _).mono ?_
      rintro e w1 ⟨rfl, hb1⟩
      go_wp2_with fail
      go_ret2
      exact ⟨by rw [HR.out]; rfl, hb1⟩

end Go.Proofs.Ythfkfonfiejbmaa
