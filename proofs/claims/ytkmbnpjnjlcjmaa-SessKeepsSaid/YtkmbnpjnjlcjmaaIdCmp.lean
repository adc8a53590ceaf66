/-
  THE CONTRACTS OF ident.compare, Less AND OF THE DOCUMENT'S ANSWER TO Less.
-/
import Derived.Test.YtkmbnpjnjlcjmaaVarTake
import Derived.Test.YtkmbnpjnjlcjmaaIdPure
import Derived.Test.YtkmbnpjnjlcjmaaShelf
namespace Go.Proofs.Ytkmbnpjnjlcjmaa
open Go.RowKit Go.Lib

theorem icmp (x y : Int) (w : World) : Calls Try.prog 112 #[.int .i64 x, .int .i64 y] w fun e w' => e = .returned (.int .i64 (compareInt x y)) ∧ w = w' :=
  (Try.cmp_Compare_int x y w).mono fun _ _ ⟨he, hw⟩ => ⟨he, hw.symm⟩

theorem scmp (a b : List UInt8) (w : World) : Calls Try.prog 113 #[.string ⟨a.toArray⟩, .string ⟨b.toArray⟩] w fun e w' => e = .returned (.int .i64 (compareBytes a b)) ∧ w = w' :=
  (Try.strings_Compare ⟨a.toArray⟩ ⟨b.toArray⟩ w).mono fun _ _ ⟨he, hw⟩ => ⟨by simpa using he, hw.symm⟩

/-- The first that is not nought. -/
def orI (x y : Int) : Int := if x = 0 then y else x

set_option maxHeartbeats 400000 in
set_option maxRecDepth 100000 in
theorem or_any (B : Nat) (x y : Int) (w : World) (k0 : w.cell? ⟨B, 0, none⟩ = some (.int .i64 x)) (k1 : w.cell? ⟨B, 1, none⟩ = some (.int .i64 y)) :
    Calls Try.prog 111 #[.slice (some ⟨B, 0, none⟩) 2 2] w fun e w' => e = .returned (.int .i64 (orI x y)) ∧ w = w' := by
  by_cases hx : x = 0
  · subst hx
    by_cases hy : y = 0
    · subst hy
      go_enter Try.func111, Try.ntmps111
      go_wp2_with fail
      refine wp_loop_rounds 3 ?_
      rw [rounds_succ]
      go_wp2_with fail
      rw [rounds_succ]
      go_wp2_with fail
      rw [rounds_succ]
      go_wp2_with fail
      go_ret
      exact ⟨rfl, rfl⟩
    · have t1 : (y != 0) = true := by simp [hy]
      clear hy
      go_enter Try.func111, Try.ntmps111
      go_wp2_with fail
      refine wp_loop_rounds 3 ?_
      rw [rounds_succ]
      go_wp2_with fail
      rw [rounds_succ]
      go_wp2_with fail
      go_ret
      exact ⟨rfl, rfl⟩
  · have t1 : (x != 0) = true := by simp [hx]
    have HX : Hid (orI x y = x) := if_neg hx
    clear hx
    go_enter Try.func111, Try.ntmps111
    go_wp2_with fail
    refine wp_loop_rounds 3 ?_
    rw [rounds_succ]
    go_wp2_with fail
    go_ret
    exact ⟨by rw [HX.out]; rfl, rfl⟩

theorem idCmp_or (a b : List UInt8) : idCmp a b = orI (compareInt a.length b.length) (compareBytes a b) := by
  unfold idCmp compareInt orI
  by_cases h1 : a.length < b.length
  · have : (a.length : Int) < b.length := by omega
    simp [h1, this]
  · by_cases h2 : b.length < a.length
    · have h1' : ¬ (a.length : Int) < b.length := by omega
      have h2' : (b.length : Int) < a.length := by omega
      simp [h1, h2, h1', h2']
    · have h1' : ¬ (a.length : Int) < b.length := by omega
      have h2' : ¬ (b.length : Int) < a.length := by omega
      simp [h1, h2, h1', h2']

set_option maxHeartbeats 400000 in
set_option maxRecDepth 100000 in
theorem compare_any (a b : List UInt8) (w : World) :
    Calls Try.prog 84 #[.string ⟨a.toArray⟩, .string ⟨b.toArray⟩] w fun e w' => e = .returned (.int .i64 (idCmp a b)) ∧ ∃ o, w' = w.alloc o := by
  have HI := Lib.hid (idCmp_or a b)
  have H1 := Lib.hid (icmp a.length b.length)
  have H2 := Lib.hid (scmp a b)
  obtain ⟨x, hx⟩ : ∃ x, compareInt a.length b.length = x := ⟨_, rfl⟩
  obtain ⟨y, hy⟩ : ∃ y, compareBytes a b = y := ⟨_, rfl⟩
  rw [hx] at H1 HI
  rw [hy] at H2 HI
  clear hx hy
  go_enter Try.func84, Try.ntmps84
  go_wp2_with fail
  refine (H1.out _).mono ?_
  rintro e w' ⟨rfl, rfl⟩
  go_wp2_with fail
  refine (H2.out _).mono ?_
  rintro e w' ⟨rfl, rfl⟩
  go_wp2_with fail
  refine (or_any _ x y _ (by simp) (by simp)).mono ?_
  rintro e w' ⟨rfl, rfl⟩
  go_wp2_with fail
  go_ret
  exact ⟨by rw [HI.out]; rfl, _, rfl⟩

theorem compare_eq (a b : List UInt8) {n : Int} (h : Hid (idCmp a b = n)) (w : World) :
    Calls Try.prog 84 #[.string ⟨a.toArray⟩, .string ⟨b.toArray⟩] w fun e w' => e = .returned (.int .i64 n) ∧ Below w.heap.size w w' := by
  have h1 := h.out
  subst h1
  exact (compare_any a b w).mono fun _ _ ⟨he, o, hw⟩ => ⟨he, by rw [hw]; exact (Below.refl _ _).alloc (Nat.le_refl _) _⟩

set_option maxHeartbeats 400000 in
set_option maxRecDepth 100000 in
theorem less_eq (a b : List UInt8) {r : Bool} (h : Hid (idLess a b = r)) (w : World) :
    Calls Try.prog 81 #[.string ⟨a.toArray⟩, .string ⟨b.toArray⟩] w fun e w' => e = .returned (.bool r) ∧ Below w.heap.size w w' := by
  obtain ⟨n, hn⟩ : ∃ n, Hid (idCmp a b = n) := ⟨_, rfl⟩
  have hr : Hid (decide (n < 0) = r) := by show _ = _; rw [← hn.out]; exact h.out
  go_enter Try.func81, Try.ntmps81
  go_wp2_with fail
  refine (compare_eq a b hn _).mono ?_
  rintro e w1 ⟨rfl, hb1⟩
  have B1 := Lib.hid hb1
  clear hb1
  go_wp2_with fail
  go_ret
  exact ⟨by rw [← hr.out]; rfl, B1.out⟩

set_option maxHeartbeats 400000 in
set_option maxRecDepth 100000 in
theorem rless_eq (a b : List UInt8) {r : Bool} (h : Hid (idLess a b = r)) (w : World) :
    Calls Try.prog 29 #[.string ⟨a.toArray⟩, .string ⟨b.toArray⟩] w fun e w' => e = .returned (.bool r) ∧ w = w' := by
  have hd := idLess_doc a b
  rw [h.out] at hd
  have HD := Lib.hid hd
  clear hd h
  by_cases h1 : a.length < b.length
  · have hr : Hid (r = true) := by show _ = _; rw [HD.out]; simp [h1]
    clear HD
    go_enter Try.func29, Try.ntmps29
    go_wp2_with fail
    go_ret
    exact ⟨by rw [hr.out]; rfl, rfl⟩
  · by_cases h2 : a.length = b.length
    · have hr : Hid (r = Op.bytesLess a b) := by show _ = _; rw [HD.out]; simp [h2]
      have t1 : ((a.length : Int) == (b.length : Int)) = true := by rw [h2]; simp
      have t2 : decide (a.length < b.length) = false := by simp; omega
      clear HD h1 h2
      go_enter Try.func29, Try.ntmps29
      go_wp2_with fail
      go_ret
      exact ⟨by rw [hr.out]; rfl, rfl⟩
    · have hr : Hid (r = false) := by show _ = _; rw [HD.out]; simp [h1, h2]
      have t1 : ((a.length : Int) == (b.length : Int)) = false := by simp; omega
      have t2 : decide (a.length < b.length) = false := by simp; omega
      clear HD h1 h2
      go_enter Try.func29, Try.ntmps29
      go_wp2_with fail
      go_ret
      exact ⟨by rw [hr.out]; rfl, rfl⟩

end Go.Proofs.Ytkmbnpjnjlcjmaa
