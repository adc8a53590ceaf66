/-
  LAYER 11: pairs of numbers as complex ones; which of two is above.
-/
import Derived.Test.YtkmbnpjnjlcjmaaProg
import Derived.Test.YtkmbnpjnjlcjmaaAid
import Derived.Test.YtkmbnpjnjlcjmaaFltPure
import Derived.Test.YtkmbnpjnjlcjmaaBesPure
import Derived.WalkLawsBesides
import Derived.BigRegion
import Derived.Deep.RegionHeld
import Derived.Deep.QuietTactic
import Derived.BigQuiet
namespace Go.Proofs.Ytkmbnpjnjlcjmaa
open Go.RowKit

set_option maxRecDepth 100000 in
theorem fnan_any {x : Nat} {v : Int} (h : Stands x v) (w : World) :
    Calls Try.prog 138 #[.float .f64 x] w fun e w' => e = .returned (.bool false) ∧ w = w' := by
  have t1 : (FloatKind.f64.format.order x x != some Ordering.eq) = false := by
    rw [show FloatKind.f64.format.order x x = some Ordering.eq from h.2]; rfl
  clear h
  go_enter Try.func138, Try.ntmps138
  go_wp2_with fail
  go_ret
  exact ⟨rfl, rfl⟩

theorem stands_zero : Stands 0 0 := by
  have := stands_number (b := 0) (s := false) (m := 0) (P := 0) read_zero
  simpa [sgn] using this

set_option maxRecDepth 100000 in
theorem fcmp_any {x : Nat} {v : Int} (h : Stands x v) (w : World) :
    Calls Try.prog 116 #[.float .f64 x, .float .f64 0] w fun e w' => e = .returned (.int .i64 (sgI v)) ∧ w = w' := by
  have HS := Lib.hid h
  have ho : FloatKind.f64.format.order x 0 = some (compare v 0) := h.1
  rcases Int.lt_trichotomy v 0 with hv | hv | hv
  · rw [Int.compare_eq_lt.2 hv] at ho
    have HG : Hid (sgI v = -1) := if_pos hv
    have t1 : (FloatKind.f64.format.order x 0 == some Ordering.lt) = true := by rw [ho]; rfl
    clear ho h hv
    go_enter Try.func116, Try.ntmps116
    go_wp2_with fail
    refine (fnan_any HS.out _).mono ?_
    rintro e w1 ⟨rfl, rfl⟩
    go_wp2_with fail
    refine (fnan_any stands_zero _).mono ?_
    rintro e w1 ⟨rfl, rfl⟩
    go_wp2_with fail
    go_ret
    exact ⟨by rw [HG.out]; rfl, rfl⟩
  · rw [Int.compare_eq_eq.2 hv] at ho
    have HG : Hid (sgI v = 0) := by show sgI v = 0; rw [hv]; rfl
    have t1 : (FloatKind.f64.format.order x 0 == some Ordering.lt) = false := by rw [ho]; rfl
    have t2 : (FloatKind.f64.format.order x 0 == some Ordering.gt) = false := by rw [ho]; rfl
    clear ho h hv
    go_enter Try.func116, Try.ntmps116
    go_wp2_with fail
    refine (fnan_any HS.out _).mono ?_
    rintro e w1 ⟨rfl, rfl⟩
    go_wp2_with fail
    refine (fnan_any stands_zero _).mono ?_
    rintro e w1 ⟨rfl, rfl⟩
    go_wp2_with fail
    go_ret
    exact ⟨by rw [HG.out]; rfl, rfl⟩
  · rw [Int.compare_eq_gt.2 hv] at ho
    have HG : Hid (sgI v = 1) := by show sgI v = 1; unfold sgI; rw [if_neg (by omega), if_pos hv]
    have t1 : (FloatKind.f64.format.order x 0 == some Ordering.lt) = false := by rw [ho]; rfl
    have t2 : (FloatKind.f64.format.order x 0 == some Ordering.gt) = true := by rw [ho]; rfl
    clear ho h hv
    go_enter Try.func116, Try.ntmps116
    go_wp2_with fail
    refine (fnan_any HS.out _).mono ?_
    rintro e w1 ⟨rfl, rfl⟩
    go_wp2_with fail
    refine (fnan_any stands_zero _).mono ?_
    rintro e w1 ⟨rfl, rfl⟩
    go_wp2_with fail
    go_ret
    exact ⟨by rw [HG.out]; rfl, rfl⟩

set_option maxRecDepth 100000 in
theorem borI (x y : Int) (w : World) (B : Nat) (c0 : w.cell? ⟨B, 0, none⟩ = some (.int .i64 x)) (c1 : w.cell? ⟨B, 1, none⟩ = some (.int .i64 y)) :
    Calls Try.prog 111 #[.slice (some ⟨B, 0, none⟩) 2 2] w fun e w' => e = .returned (.int .i64 (orB x y)) ∧ w = w' := by
  by_cases hx : x = 0
  · subst hx
    by_cases hy : y = 0
    · subst hy
      go_enter Try.func111, Try.ntmps111
      go_wp2_with fail
      refine wp_loop_rounds 3 ?_
      rw [rounds_succ]
      go_wp2_with fail
      rw [rounds_succ]
      go_wp2_with fail
      rw [rounds_succ]
      go_wp2_with fail
      go_ret
      exact ⟨rfl, rfl⟩
    · have t1 : (y != 0) = true := by simp [hy]
      clear hy
      go_enter Try.func111, Try.ntmps111
      go_wp2_with fail
      refine wp_loop_rounds 3 ?_
      rw [rounds_succ]
      go_wp2_with fail
      rw [rounds_succ]
      go_wp2_with fail
      go_ret
      exact ⟨rfl, rfl⟩
  · have t1 : (x != 0) = true := by simp [hx]
    have HX : Hid (orB x y = x) := if_neg hx
    clear hx
    go_enter Try.func111, Try.ntmps111
    go_wp2_with fail
    refine wp_loop_rounds 3 ?_
    rw [rounds_succ]
    go_wp2_with fail
    go_ret
    exact ⟨by rw [HX.out]; rfl, rfl⟩

theorem store_cplx (P : Program) (w : World) (a : Addr) (m : Mode) (k : FloatKind) (x y : Nat) : (store a (.complex k x y) m).run P w = stored P w a (.complex k x y) m := run_store P w a _ m rfl

attribute [local go_sem] store_cplx

/-- A pair of numbers, by value: their upper halves, and their lower ones. -/
def pairV (m n : Int) : Value := .agg #[.complex .f64 (floatOfInt .f64 (m / 4294967296)) (floatOfInt .f64 (n / 4294967296)), .complex .f64 (floatOfInt .f64 (m % 4294967296)) (floatOfInt .f64 (n % 4294967296))]

set_option maxHeartbeats 1600000 in
set_option maxRecDepth 100000 in
theorem pairOf_any (m n : Int) (_hm : (Lit.int .i64 m).wf = true) (_hn : (Lit.int .i64 n).wf = true) (w : World) :
    Calls Try.prog 91 #[.int .i64 m, .int .i64 n] w fun e w' => e = .returned (pairV m n) ∧ Below w.heap.size w w' := by
  have HB0 := Lib.hid (bl_newZ w (.cells #[.complex .f64 0 0, .complex .f64 0 0] 121))
  go_enter Try.func91, Try.ntmps91
  go_wp2_with fail
  refine bodyPost_ret (v := pairV m n) (by simp [results, Try.results91, go_sem, pairV]) rfl ⟨rfl, bl_newZ w _⟩

/-- The product by two to the 32nd, and the sum. -/
theorem lead_float (m n m' n' : Int) (hm : (Lit.int .i64 m).wf = true) (hn : (Lit.int .i64 n).wf = true) (hm' : (Lit.int .i64 m').wf = true) (hn' : (Lit.int .i64 n').wf = true) :
    ∃ a b c d e f g h, cSumBits .sub .f64 (floatOfInt .f64 (m / 4294967296)) (floatOfInt .f64 (n / 4294967296)) (floatOfInt .f64 (m' / 4294967296)) (floatOfInt .f64 (n' / 4294967296)) = some (a, b) ∧ cMulBits a b 4751297606875873280 0 = some (c, d) ∧
      cSumBits .sub .f64 (floatOfInt .f64 (m % 4294967296)) (floatOfInt .f64 (n % 4294967296)) (floatOfInt .f64 (m' % 4294967296)) (floatOfInt .f64 (n' % 4294967296)) = some (e, f) ∧ cSumBits .add .f64 c d e f = some (g, h) ∧ Stands g (m - m') ∧ Stands h (n - n') := by
  have wf : ∀ {z : Int}, (Lit.int .i64 z).wf = true → -9223372036854775808 ≤ z ∧ z ≤ 9223372036854775807 := by
    intro z hz
    have hz' : decide (IntKind.i64.min ≤ z) = true ∧ decide (z ≤ IntKind.i64.max) = true := by simpa only [Lit.wf, Bool.and_eq_true] using hz
    exact ⟨of_decide_eq_true hz'.1, of_decide_eq_true hz'.2⟩
  have Hm := wf hm
  have Hn := wf hn
  have Hm' := wf hm'
  have Hn' := wf hn'
  have up : ∀ z : Int, -9223372036854775808 ≤ z ∧ z ≤ 9223372036854775807 → IsF (floatOfInt .f64 (z / 4294967296)) (z / 4294967296) := fun z hz => ofInt_is (by omega) (by omega)
  have lo : ∀ z : Int, IsF (floatOfInt .f64 (z % 4294967296)) (z % 4294967296) := fun z => ofInt_is (by omega) (by omega)
  obtain ⟨a, ha, A⟩ := sub_whole (up m Hm) (up m' Hm') (int_whole (by omega) (by omega))
  obtain ⟨b, hb, B⟩ := sub_whole (up n Hn) (up n' Hn') (int_whole (by omega) (by omega))
  obtain ⟨e, he, E⟩ := sub_whole (lo m) (lo m') (int_whole (by omega) (by omega))
  obtain ⟨f, hf, F⟩ := sub_whole (lo n) (lo n') (int_whole (by omega) (by omega))
  obtain ⟨ac, hac, AC⟩ := mul_up A (by omega) (by omega)
  obtain ⟨bd, hbd, BD⟩ := mul_nil B
  obtain ⟨ad, had, AD⟩ := mul_nil A
  obtain ⟨bc, hbc, BC⟩ := mul_up B (by omega) (by omega)
  have wh : ∀ z : Int, -9007199254740992 < z → z < 9007199254740992 → Whole (z * 4294967296) := fun z h1 h2 => ⟨z.natAbs, 32, by omega, by decide, by rw [Int.natAbs_mul]; rfl⟩
  obtain ⟨c, hc, C⟩ := sub_whole AC BD (by rw [Int.sub_zero]; exact wh _ (by omega) (by omega))
  obtain ⟨d, hd, D⟩ := add_whole AD BC (by rw [Int.zero_add]; exact wh _ (by omega) (by omega))
  obtain ⟨g, hg, G⟩ := add_stands C E
  obtain ⟨h, hh, H⟩ := add_stands D F
  refine ⟨a, b, c, d, e, f, g, h, ?_, ?_, ?_, ?_, ?_, ?_⟩
  · simp only [cSumBits, floatBits, FloatKind.format, ha, hb, Option.bind_some]
  · simp only [cMulBits, floatBits, FloatKind.format, hac, hbd, had, hbc, hc, hd, Option.bind_some]
  · simp only [cSumBits, floatBits, FloatKind.format, he, hf, Option.bind_some]
  · simp only [cSumBits, floatBits, FloatKind.format, hg, hh, Option.bind_some]
  · rwa [show (m / 4294967296 - m' / 4294967296) * 4294967296 - 0 + (m % 4294967296 - m' % 4294967296) = m - m' by omega] at G
  · rwa [show 0 + (n / 4294967296 - n' / 4294967296) * 4294967296 + (n % 4294967296 - n' % 4294967296) = n - n' by omega] at H

set_option maxHeartbeats 1600000 in
set_option maxRecDepth 100000 in
theorem lead_any (m n m' n' : Int) (hm : (Lit.int .i64 m).wf = true) (hn : (Lit.int .i64 n).wf = true) (hm' : (Lit.int .i64 m').wf = true) (hn' : (Lit.int .i64 n').wf = true) (w : World) :
    Calls Try.prog 90 #[pairV m n, pairV m' n'] w fun e w' => e = .returned (.int .i64 (lead2 m n m' n')) ∧ Below w.heap.size w w' := by
  obtain ⟨a, b, c, d, e, f, g, h, h1, h2, h3, h4, h5, h6⟩ := lead_float m n m' n' hm hn hm' hn'
  have G1 := Lib.hid h5
  have G2 := Lib.hid h6
  have r1 := fun w => run_complex_sum (P := Try.prog) w .sub (.inr rfl) 119 .f64 _ _ _ _ _ _ h1
  have r2 := fun w => run_complex_mul (P := Try.prog) w 119 _ _ _ _ _ _ h2
  have r3 := fun w => run_complex_sum (P := Try.prog) w .sub (.inr rfl) 119 .f64 _ _ _ _ _ _ h3
  have r4 := fun w => run_complex_sum (P := Try.prog) w .add (.inl rfl) 119 .f64 _ _ _ _ _ _ h4
  unfold pairV
  generalize floatOfInt .f64 (m / 4294967296) = x1 at *
  generalize floatOfInt .f64 (n / 4294967296) = x2 at *
  generalize floatOfInt .f64 (m' / 4294967296) = x3 at *
  generalize floatOfInt .f64 (n' / 4294967296) = x4 at *
  generalize floatOfInt .f64 (m % 4294967296) = x5 at *
  generalize floatOfInt .f64 (n % 4294967296) = x6 at *
  generalize floatOfInt .f64 (m' % 4294967296) = x7 at *
  generalize floatOfInt .f64 (n' % 4294967296) = x8 at *
  clear h1 h2 h3 h4 h5 h6 hm hn hm' hn'
  go_enter Try.func90, Try.ntmps90
  go_wp2_with fail
  refine (fcmp_any G1.out _).mono ?_
  rintro e1 w1 ⟨rfl, rfl⟩
  go_wp2_with fail
  refine (fcmp_any G2.out _).mono ?_
  rintro e1 w1 ⟨rfl, rfl⟩
  go_wp2_with fail
  refine (borI (sgI (m - m')) (sgI (n - n')) _ (w.heap.size + 1 + 1) ((cellsAt_made (vs := [.int .i64 _, .int .i64 _]) rfl _ (B := w.heap.size + 1 + 1) (by simp)) 0 _ rfl) ((cellsAt_made (vs := [.int .i64 _, .int .i64 _]) rfl _ (B := w.heap.size + 1 + 1) (by simp)) 1 _ rfl)).mono ?_
  rintro e1 w1 ⟨rfl, rfl⟩
  go_wp2_with fail
  go_ret
  exact ⟨rfl, (((Below.refl _ _).alloc (Nat.le_refl _) _).alloc (by simp) _).alloc (by simp; omega) _⟩

end Go.Proofs.Ytkmbnpjnjlcjmaa
