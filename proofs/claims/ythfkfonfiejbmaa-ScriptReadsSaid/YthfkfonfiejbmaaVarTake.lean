/-
  THE CONTRACTS OF varint.Take AND OF THE DOCUMENT'S ANSWER TO IT.
-/
import Derived.Test.YthfkfonfiejbmaaVarRget
namespace Go.Proofs.Ythfkfonfiejbmaa
open Go.RowKit

/-- Three results: text, place, error. -/
def tripleS (r : List UInt8 × Nat × Nat) : Value := .tuple #[.string ⟨r.1.toArray⟩, .int .i64 r.2.1, .int .i64 r.2.2]

theorem get_eq (l : List UInt8) (hl : l.length ≤ 4294967296) (p : Int) (w : World) {n f er : Nat} (h : Hid (vget l p = (n, f, er))) :
    Calls Try.prog 68 #[.string ⟨l.toArray⟩, .int .i64 p] w fun e w' => e = .returned (.tuple #[.int .u64 n, .int .i64 f, .int .i64 er]) ∧ w = w' := by
  have := get_any l hl p w
  rwa [h.out] at this

theorem rget_eq (l : List UInt8) (hl : l.length ≤ 4294967296) (p : Int) (w : World) {n f er : Nat} (h : Hid (vget l p = (n, f, er))) :
    Calls Try.prog 54 #[.string ⟨l.toArray⟩, .int .i64 p] w fun e w' => e = .returned (.tuple #[.int .u64 n, .int .i64 f, .int .i64 er]) ∧ w = w' := by
  have := rget_any l hl p w
  rwa [h.out] at this

set_option maxHeartbeats 400000 in
set_option maxRecDepth 1000000 in
theorem take_any (l : List UInt8) (hl : l.length ≤ 4294967296) (p most : Int) (hm : most ≤ 9223372036854775807) (w : World) :
    Calls Try.prog 53 #[.string ⟨l.toArray⟩, .int .i64 p, .int .i64 most] w fun e w' => e = .returned (tripleS (vtake l p most)) ∧ w = w' := by
  obtain ⟨n, f, er, hg⟩ : ∃ n f er, vget l p = (n, f, er) := ⟨_, _, _, rfl⟩
  obtain ⟨hn, hf, _⟩ := vget_facts hg
  have HG := Lib.hid hg
  by_cases he : er = 0
  · subst he
    by_cases h1 : most < 0
    · have HR : Hid (vtake l p most = ([], 0, 3)) := by show _ = _; unfold vtake; rw [hg]; simp [h1]
      clear hg
      go_enter Try.func53, Try.ntmps53
      go_wp2_with (go_at_call 68; go_must (refine (get_eq l hl p _ HG).mono ?_); rintro e w' ⟨rfl, rfl⟩)
      go_ret3
      exact ⟨by rw [HR.out]; rfl, rfl⟩
    · have h1' : 0 ≤ most := by omega
      by_cases h2 : most < (n : Int)
      · have HR : Hid (vtake l p most = ([], 0, 3)) := by show _ = _; unfold vtake; rw [hg]; simp [h2]
        clear hg h1
        go_enter Try.func53, Try.ntmps53
        go_wp2_with (go_at_call 68; go_must (refine (get_eq l hl p _ HG).mono ?_); rintro e w' ⟨rfl, rfl⟩)
        go_ret3
        exact ⟨by rw [HR.out]; rfl, rfl⟩
      · by_cases h3 : l.length - f < n
        · have HR : Hid (vtake l p most = ([], 0, 2)) := by show _ = _; unfold vtake; rw [hg]; simp [h1, h2, h3]
          have h3' : (l.length : Int) - f < n := by omega
          clear hg h1 h3
          go_enter Try.func53, Try.ntmps53
          go_wp2_with (go_at_call 68; go_must (refine (get_eq l hl p _ HG).mono ?_); rintro e w' ⟨rfl, rfl⟩)
          go_ret3
          exact ⟨by rw [HR.out]; rfl, rfl⟩
        · have HR : Hid (vtake l p most = ((l.drop f).take n, f + n, 0)) := by show _ = _; unfold vtake; rw [hg]; simp [h1, h2, h3]
          have h3' : ¬ (l.length : Int) - f < n := by omega
          have hsl := fun w => run_slice_bytes (P := Try.prog) w 9 l f (f + n) f (f + n) rfl (by omega) Try.underlying9 (by omega) (by omega)
          rw [show f + n - f = n by omega] at hsl
          clear hg h1 h3
          go_enter Try.func53, Try.ntmps53
          go_wp2_with (go_at_call 68; go_must (refine (get_eq l hl p _ HG).mono ?_); rintro e w' ⟨rfl, rfl⟩)
          go_ret3
          exact ⟨by rw [HR.out]; rfl, rfl⟩
  · have HR : Hid (vtake l p most = ([], 0, er)) := by show _ = _; unfold vtake; rw [hg]; simp [he]
    have t1 : ((er : Int) != 0) = true := by simp; omega
    clear hg he
    go_enter Try.func53, Try.ntmps53
    go_wp2_with (go_at_call 68; go_must (refine (get_eq l hl p _ HG).mono ?_); rintro e w' ⟨rfl, rfl⟩)
    go_ret3
    exact ⟨by rw [HR.out]; rfl, rfl⟩

set_option maxHeartbeats 400000 in
set_option maxRecDepth 1000000 in
theorem rtake_any (l : List UInt8) (hl : l.length ≤ 4294967296) (p most : Int) (hm : most ≤ 9223372036854775807) (w : World) :
    Calls Try.prog 30 #[.string ⟨l.toArray⟩, .int .i64 p, .int .i64 most] w fun e w' => e = .returned (tripleS (vtake l p most)) ∧ w = w' := by
  obtain ⟨n, f, er, hg⟩ : ∃ n f er, vget l p = (n, f, er) := ⟨_, _, _, rfl⟩
  obtain ⟨hn, hf, _⟩ := vget_facts hg
  have HG := Lib.hid hg
  by_cases he : er = 0
  · subst he
    by_cases h1 : most < 0
    · have HR : Hid (vtake l p most = ([], 0, 3)) := by show _ = _; unfold vtake; rw [hg]; simp [h1]
      clear hg
      go_enter Try.func30, Try.ntmps30
      go_wp2_with (go_at_call 54; go_must (refine (rget_eq l hl p _ HG).mono ?_); rintro e w' ⟨rfl, rfl⟩)
      go_ret3
      exact ⟨by rw [HR.out]; rfl, rfl⟩
    · have h1' : 0 ≤ most := by omega
      by_cases h2 : most < (n : Int)
      · have HR : Hid (vtake l p most = ([], 0, 3)) := by show _ = _; unfold vtake; rw [hg]; simp [h2]
        clear hg h1
        go_enter Try.func30, Try.ntmps30
        go_wp2_with (go_at_call 54; go_must (refine (rget_eq l hl p _ HG).mono ?_); rintro e w' ⟨rfl, rfl⟩)
        go_ret3
        exact ⟨by rw [HR.out]; rfl, rfl⟩
      · by_cases h3 : l.length - f < n
        · have HR : Hid (vtake l p most = ([], 0, 2)) := by show _ = _; unfold vtake; rw [hg]; simp [h1, h2, h3]
          have h3' : (l.length : Int) - f < n := by omega
          clear hg h1 h3
          go_enter Try.func30, Try.ntmps30
          go_wp2_with (go_at_call 54; go_must (refine (rget_eq l hl p _ HG).mono ?_); rintro e w' ⟨rfl, rfl⟩)
          go_ret3
          exact ⟨by rw [HR.out]; rfl, rfl⟩
        · have HR : Hid (vtake l p most = ((l.drop f).take n, f + n, 0)) := by show _ = _; unfold vtake; rw [hg]; simp [h1, h2, h3]
          have h3' : ¬ (l.length : Int) - f < n := by omega
          have hsl := fun w => run_slice_bytes (P := Try.prog) w 9 l f (f + n) f (f + n) rfl (by omega) Try.underlying9 (by omega) (by omega)
          rw [show f + n - f = n by omega] at hsl
          clear hg h1 h3
          go_enter Try.func30, Try.ntmps30
          go_wp2_with (go_at_call 54; go_must (refine (rget_eq l hl p _ HG).mono ?_); rintro e w' ⟨rfl, rfl⟩)
          go_ret3
          exact ⟨by rw [HR.out]; rfl, rfl⟩
  · have HR : Hid (vtake l p most = ([], 0, er)) := by show _ = _; unfold vtake; rw [hg]; simp [he]
    have t1 : ((er : Int) != 0) = true := by simp; omega
    clear hg he
    go_enter Try.func30, Try.ntmps30
    go_wp2_with (go_at_call 54; go_must (refine (rget_eq l hl p _ HG).mono ?_); rintro e w' ⟨rfl, rfl⟩)
    go_ret3
    exact ⟨by rw [HR.out]; rfl, rfl⟩

theorem rtake_eq (l : List UInt8) (hl : l.length ≤ 4294967296) (p most : Int) (hm : most ≤ 9223372036854775807) (w : World) {t : List UInt8} {f er : Nat} (h : Hid (vtake l p most = (t, f, er))) :
    Calls Try.prog 30 #[.string ⟨l.toArray⟩, .int .i64 p, .int .i64 most] w fun e w' => e = .returned (.tuple #[.string ⟨t.toArray⟩, .int .i64 f, .int .i64 er]) ∧ w = w' := by
  have := rtake_any l hl p most hm w
  rwa [h.out] at this

theorem take_eq (l : List UInt8) (hl : l.length ≤ 4294967296) (p most : Int) (hm : most ≤ 9223372036854775807) (w : World) {t : List UInt8} {f er : Nat} (h : Hid (vtake l p most = (t, f, er))) :
    Calls Try.prog 53 #[.string ⟨l.toArray⟩, .int .i64 p, .int .i64 most] w fun e w' => e = .returned (.tuple #[.string ⟨t.toArray⟩, .int .i64 f, .int .i64 er]) ∧ w = w' := by
  have := take_any l hl p most hm w
  rwa [h.out] at this

end Go.Proofs.Ythfkfonfiejbmaa
