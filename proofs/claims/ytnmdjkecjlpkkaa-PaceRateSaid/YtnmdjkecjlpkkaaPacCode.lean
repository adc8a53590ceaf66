/-
  LAYER 16, THE CODE: what may be; tokens and ticks as one complex number.
-/
import Derived.Test.YtnmdjkecjlpkkaaProg
import Derived.Test.YtnmdjkecjlpkkaaAid
import Derived.Test.YtnmdjkecjlpkkaaPacPure
import Derived.Test.YtnmdjkecjlpkkaaFltMore
import Derived.Laws.ComplexArith
import Derived.Lib.MinMax
import Derived.Lib.Hide
import Derived.WalkLawsBesides
namespace Go.Proofs.Ytnmdjkecjlpkkaa
open Go.RowKit

theorem cells4P {w : World} {B : Nat} {a b c d : Value} (h : CellsAt w B 0 [a, b, c, d]) : w.cell? ⟨B, 0, none⟩ = some a ∧ w.cell? ⟨B, 1, none⟩ = some b ∧ w.cell? ⟨B, 2, none⟩ = some c ∧ w.cell? ⟨B, 3, none⟩ = some d :=
  ⟨h 0 a rfl, h 1 b rfl, h 2 c rfl, h 3 d rfl⟩

theorem cells2P {w : World} {B : Nat} {a b : Value} (h : CellsAt w B 0 [a, b]) : w.cell? ⟨B, 0, none⟩ = some a ∧ w.cell? ⟨B, 1, none⟩ = some b :=
  ⟨h 0 a rfl, h 1 b rfl⟩

theorem free_later {w w' : World} {B : Nat} (hB : B < w.heap.size) (h : ∀ i, w.frozen? ⟨B, i, none⟩ = false) (hb : Below w.heap.size w w') : ∀ i, w'.frozen? ⟨B, i, none⟩ = false := fun i =>
  (hb.frozen (p := ⟨B, i, none⟩) hB).trans (h i)

set_option maxHeartbeats 800000 in
set_option maxRecDepth 100000 in
theorem pwithin_any (n f t : Int) (w : World) :
    Calls Try.prog 78 #[.int .i64 n, .int .i64 f, .int .i64 t] w fun e w' => e = .returned (.bool (decide (f ≤ n) && decide (n ≤ t))) ∧ w = w' := by
  cases h1 : decide (f ≤ n)
  · go_enter Try.func78, Try.ntmps78
    go_wp2_with fail
    go_ret
    exact ⟨rfl, rfl⟩
  · go_enter Try.func78, Try.ntmps78
    go_wp2_with fail
    go_ret
    exact ⟨rfl, rfl⟩

set_option maxHeartbeats 800000 in
set_option maxRecDepth 100000 in
theorem ptick_any (n : Int) (w : World) :
    Calls Try.prog 73 #[.int .i64 n] w fun e w' => e = .returned (.bool (pcTime n)) ∧ w = w' := by
  have H := Lib.hid (pwithin_any n 0 1099511627776)
  obtain ⟨r, hr⟩ : ∃ r, pcTime n = r := ⟨_, rfl⟩
  rw [hr]
  rw [show (decide (0 ≤ n) && decide (n ≤ 1099511627776)) = pcTime n from rfl, hr] at H
  clear hr
  go_enter Try.func73, Try.ntmps73
  go_wp2_with fail
  refine (H.out _).mono ?_
  rintro e w1 ⟨rfl, rfl⟩
  go_wp2_with fail
  go_ret
  exact ⟨rfl, rfl⟩

theorem pcMay_split (a b d e : Int) : pcMay ⟨a, b, d, e⟩ = ((decide (1 ≤ a) && decide (a ≤ 16)) && ((decide (1 ≤ b) && decide (b ≤ 64)) && ((decide (1 ≤ d) && decide (d ≤ 16)) && (decide (1 ≤ e) && decide (e ≤ 1000))))) := by
  unfold pcMay
  simp only [Bool.and_assoc]

set_option maxHeartbeats 1600000 in
set_option maxRecDepth 100000 in
theorem pmay_any (a b d e : Int) {r : Bool} (h : Hid (pcMay ⟨a, b, d, e⟩ = r)) (w : World) :
    Calls Try.prog 39 #[.agg #[.int .i64 a, .int .i64 b, .int .i64 d, .int .i64 e]] w fun e w' => e = .returned (.bool r) ∧ Below w.heap.size w w' := by
  have B0 := Lib.hid (bl_newZ w (.cells #[.int .i64 a, .int .i64 b, .int .i64 d, .int .i64 e] 52))
  have HR := h.out
  rw [pcMay_split] at HR
  have H1 := Lib.hid (pwithin_any a 1 16)
  have H2 := Lib.hid (pwithin_any b 1 64)
  have H3 := Lib.hid (pwithin_any d 1 16)
  have H4 := Lib.hid (pwithin_any e 1 1000)
  obtain ⟨q1, h1⟩ : ∃ q, (decide (1 ≤ a) && decide (a ≤ 16)) = q := ⟨_, rfl⟩
  obtain ⟨q2, h2⟩ : ∃ q, (decide (1 ≤ b) && decide (b ≤ 64)) = q := ⟨_, rfl⟩
  obtain ⟨q3, h3⟩ : ∃ q, (decide (1 ≤ d) && decide (d ≤ 16)) = q := ⟨_, rfl⟩
  obtain ⟨q4, h4⟩ : ∃ q, (decide (1 ≤ e) && decide (e ≤ 1000)) = q := ⟨_, rfl⟩
  rw [h1] at H1 HR
  rw [h2] at H2 HR
  rw [h3] at H3 HR
  rw [h4] at H4 HR
  subst HR
  clear h h1 h2 h3 h4
  cases q1
  · go_enter Try.func39, Try.ntmps39
    go_wp2_with fail
    refine (H1.out _).mono ?_
    rintro e w1 ⟨rfl, rfl⟩
    go_wp2_with fail
    go_ret
    exact ⟨rfl, B0.out⟩
  · cases q2
    · go_enter Try.func39, Try.ntmps39
      go_wp2_with fail
      refine (H1.out _).mono ?_
      rintro e w1 ⟨rfl, rfl⟩
      go_wp2_with fail
      refine (H2.out _).mono ?_
      rintro e w1 ⟨rfl, rfl⟩
      go_wp2_with fail
      go_ret
      exact ⟨rfl, B0.out⟩
    · cases q3
      · go_enter Try.func39, Try.ntmps39
        go_wp2_with fail
        refine (H1.out _).mono ?_
        rintro e w1 ⟨rfl, rfl⟩
        go_wp2_with fail
        refine (H2.out _).mono ?_
        rintro e w1 ⟨rfl, rfl⟩
        go_wp2_with fail
        refine (H3.out _).mono ?_
        rintro e w1 ⟨rfl, rfl⟩
        go_wp2_with fail
        go_ret
        exact ⟨rfl, B0.out⟩
      · go_enter Try.func39, Try.ntmps39
        go_wp2_with fail
        refine (H1.out _).mono ?_
        rintro e w1 ⟨rfl, rfl⟩
        go_wp2_with fail
        refine (H2.out _).mono ?_
        rintro e w1 ⟨rfl, rfl⟩
        go_wp2_with fail
        refine (H3.out _).mono ?_
        rintro e w1 ⟨rfl, rfl⟩
        go_wp2_with fail
        refine (H4.out _).mono ?_
        rintro e w1 ⟨rfl, rfl⟩
        go_wp2_with fail
        go_ret
        exact ⟨rfl, B0.out⟩

theorem pcOK_split (a b d e tok at' now : Int) : (pcOne ⟨a, b, d, e⟩ ⟨tok, at'⟩ && pcTime now) = (pcMay ⟨a, b, d, e⟩ && ((decide (0 ≤ tok) && decide (tok ≤ b)) && (pcTime at' && pcTime now))) := by
  unfold pcOne
  simp only [Bool.and_assoc]

/-- The config and the bucket that came in, as blocks. -/
def boxes (w : World) (a b d e tok at' : Int) : World := (w.alloc (.cells #[.int .i64 a, .int .i64 b, .int .i64 d, .int .i64 e] 52)).alloc (.cells #[.int .i64 tok, .int .i64 at'] 54)

theorem boxes_below (w : World) (a b d e tok at' : Int) : Below w.heap.size w (boxes w a b d e tok at') := ((Below.refl _ _).alloc (Nat.le_refl _) _).alloc (by simp) _

theorem boxes_cfg (w : World) (a b d e tok at' : Int) : CellsAt (boxes w a b d e tok at') w.heap.size 0 [.int .i64 a, .int .i64 b, .int .i64 d, .int .i64 e] :=
  (cellsAt_made rfl 52 rfl).later (bl_newZ _ _)

theorem boxes_bkt (w : World) (a b d e tok at' : Int) : CellsAt (boxes w a b d e tok at') (w.heap.size + 1) 0 [.int .i64 tok, .int .i64 at'] :=
  cellsAt_made rfl 54 (by simp)

set_option maxHeartbeats 1600000 in
set_option maxRecDepth 100000 in
theorem pmayBe_any (a b d e tok at' now : Int) {r : Bool} (h : Hid ((pcOne ⟨a, b, d, e⟩ ⟨tok, at'⟩ && pcTime now) = r)) (w : World) :
    Calls Try.prog 74 #[.agg #[.int .i64 a, .int .i64 b, .int .i64 d, .int .i64 e], .agg #[.int .i64 tok, .int .i64 at'], .int .i64 now] w fun e w' => e = .returned (.bool r) ∧ Below w.heap.size w w' := by
  have B0 := Lib.hid (boxes_below w a b d e tok at')
  have K0 := Lib.hid (boxes_cfg w a b d e tok at')
  have K1 := Lib.hid (boxes_bkt w a b d e tok at')
  have HR := h.out
  rw [pcOK_split] at HR
  have H2 := Lib.hid (pwithin_any tok 0 b)
  have H3 := Lib.hid (ptick_any at')
  have H4 := Lib.hid (ptick_any now)
  obtain ⟨q1, h1⟩ : ∃ q, pcMay ⟨a, b, d, e⟩ = q := ⟨_, rfl⟩
  have H1 := Lib.hid (pmay_any a b d e (Lib.hid h1))
  obtain ⟨q2, h2⟩ : ∃ q, (decide (0 ≤ tok) && decide (tok ≤ b)) = q := ⟨_, rfl⟩
  obtain ⟨q3, h3⟩ : ∃ q, pcTime at' = q := ⟨_, rfl⟩
  obtain ⟨q4, h4⟩ : ∃ q, pcTime now = q := ⟨_, rfl⟩
  rw [h1] at HR
  rw [h2] at H2 HR
  rw [h3] at H3 HR
  rw [h4] at H4 HR
  subst HR
  clear h h1 h2 h3 h4
  cases q1
  · go_enter Try.func74, Try.ntmps74
    go_wp2_with fail
    refine (H1.out _).mono ?_
    rintro e w1 ⟨rfl, b1⟩
    have B1 := Lib.hid (below2Z B0.out b1)
    clear b1
    go_wp2_with fail
    go_ret
    exact ⟨rfl, B1.out⟩
  · cases q2
    · go_enter Try.func74, Try.ntmps74
      go_wp2_with fail
      refine (H1.out _).mono ?_
      rintro e w1 ⟨rfl, b1⟩
      have B1 := Lib.hid (below2Z B0.out b1)
      obtain ⟨c0, c1, c2, c3⟩ := cells4P (K0.out.later b1)
      obtain ⟨d0, d1⟩ := cells2P (K1.out.later b1)
      clear b1
      go_wp2_with fail
      refine (H2.out _).mono ?_
      rintro e w2 ⟨rfl, rfl⟩
      go_wp2_with fail
      go_ret
      exact ⟨rfl, B1.out⟩
    · cases q3
      · go_enter Try.func74, Try.ntmps74
        go_wp2_with fail
        refine (H1.out _).mono ?_
        rintro e w1 ⟨rfl, b1⟩
        have B1 := Lib.hid (below2Z B0.out b1)
        obtain ⟨c0, c1, c2, c3⟩ := cells4P (K0.out.later b1)
        obtain ⟨d0, d1⟩ := cells2P (K1.out.later b1)
        clear b1
        go_wp2_with fail
        refine (H2.out _).mono ?_
        rintro e w2 ⟨rfl, rfl⟩
        go_wp2_with fail
        refine (H3.out _).mono ?_
        rintro e w2 ⟨rfl, rfl⟩
        go_wp2_with fail
        go_ret
        exact ⟨rfl, B1.out⟩
      · go_enter Try.func74, Try.ntmps74
        go_wp2_with fail
        refine (H1.out _).mono ?_
        rintro e w1 ⟨rfl, b1⟩
        have B1 := Lib.hid (below2Z B0.out b1)
        obtain ⟨c0, c1, c2, c3⟩ := cells4P (K0.out.later b1)
        obtain ⟨d0, d1⟩ := cells2P (K1.out.later b1)
        clear b1
        go_wp2_with fail
        refine (H2.out _).mono ?_
        rintro e w2 ⟨rfl, rfl⟩
        go_wp2_with fail
        refine (H3.out _).mono ?_
        rintro e w2 ⟨rfl, rfl⟩
        go_wp2_with fail
        refine (H4.out _).mono ?_
        rintro e w2 ⟨rfl, rfl⟩
        go_wp2_with fail
        go_ret
        exact ⟨rfl, B1.out⟩

theorem isF_one : IsF 4607182418800017408 1 := by
  have h := ofInt_is (i := 1) (by decide) (by decide)
  rwa [show floatOfInt .f64 1 = 4607182418800017408 by rfl] at h

theorem isF_zero : IsF 0 0 := by
  have h := ofInt_is (i := 0) (by decide) (by decide)
  rwa [show floatOfInt .f64 0 = 0 by rfl] at h

/-- What is added, and the sum. -/
theorem ward_float {tok at' rate ticks : Int} (h1 : 0 ≤ tok) (h2 : tok ≤ 64) (h3 : 0 ≤ at') (h4 : at' ≤ 1099511627776) (h5 : 1 ≤ rate) (h6 : rate ≤ 16) (h7 : 0 ≤ ticks) (h8 : ticks ≤ 1099511627776) :
    ∃ p q r s, cMulBits (floatOfInt .f64 rate) 4607182418800017408 (floatOfInt .f64 ticks) 0 = some (p, q) ∧ cSumBits .add .f64 (floatOfInt .f64 tok) (floatOfInt .f64 at') p q = some (r, s) ∧ IsF r (tok + ticks * rate) ∧ IsF s (at' + ticks) := by
  have hm : 0 ≤ rate * ticks ∧ rate * ticks ≤ 16 * 1099511627776 := ⟨Int.mul_nonneg (by omega) h7, Int.mul_le_mul h6 h8 h7 (by omega)⟩
  have F1 := ofInt_is (i := rate) (by omega) (by omega)
  have F2 := ofInt_is (i := ticks) (by omega) (by omega)
  have F3 := ofInt_is (i := tok) (by omega) (by omega)
  have F4 := ofInt_is (i := at') (by omega) (by omega)
  obtain ⟨ac, hac, AC⟩ := mul_whole F1 F2 (int_whole (by omega) (by omega))
  obtain ⟨bd, hbd, BD⟩ := mul_whole isF_one isF_zero (int_whole (by omega) (by omega))
  obtain ⟨ad, had, AD⟩ := mul_whole F1 isF_zero (int_whole (by omega) (by omega))
  obtain ⟨bc, hbc, BC⟩ := mul_whole isF_one F2 (int_whole (by omega) (by omega))
  obtain ⟨p, hp, P⟩ := sub_whole AC BD (int_whole (by omega) (by omega))
  obtain ⟨q, hq, Q⟩ := add_whole AD BC (int_whole (by omega) (by omega))
  obtain ⟨r, hr, R⟩ := add_whole F3 P (int_whole (by omega) (by omega))
  obtain ⟨s, hs, S⟩ := add_whole F4 Q (int_whole (by omega) (by omega))
  refine ⟨p, q, r, s, ?_, ?_, ?_, ?_⟩
  · simp only [cMulBits, floatBits, FloatKind.format, hac, hbd, had, hbc, hp, hq, Option.bind_some]
  · simp only [cSumBits, floatBits, FloatKind.format, hr, hs, Option.bind_some]
  · rwa [show tok + (rate * ticks - 1 * 0) = tok + ticks * rate by rw [Int.mul_comm ticks]; omega] at R
  · rwa [show at' + (rate * 0 + 1 * ticks) = at' + ticks by omega] at S

/-- A complex number that tells tokens and a tick. -/
def pairP (re im : Nat) : Value := .complex .f64 re im

set_option maxHeartbeats 1600000 in
set_option maxRecDepth 100000 in
theorem ponward_any (a b d e tok at' now : Int) (h : Hid (pcOne ⟨a, b, d, e⟩ ⟨tok, at'⟩ = true)) (ht : Hid (pcTime now = true)) : ∃ re im, IsF re (pcLev ⟨a, b, d, e⟩ ⟨tok, at'⟩ now) ∧ IsF im (max now at') ∧ ∀ w : World,
    Calls Try.prog 75 #[.agg #[.int .i64 a, .int .i64 b, .int .i64 d, .int .i64 e], .agg #[.int .i64 tok, .int .i64 at'], .int .i64 now] w fun e w' => e = .returned (.complex .f64 re im) ∧ Below w.heap.size w w' := by
  obtain ⟨hm, h1, h2, h3, h4⟩ := pcOne_iff.1 h.out
  obtain ⟨_, _, m1, m2, m3, m4, _, _⟩ := pcMay_iff.1 hm
  obtain ⟨t1, t2⟩ := pcTime_iff.1 ht.out
  simp only at h1 h2 h3 h4 m1 m2 m3 m4
  obtain ⟨p, q, r, s, e1, e2, R, S⟩ := ward_float (tok := tok) (at' := at') (rate := d) (ticks := max (now - at') 0) h1 (by omega) h3 h4 m3 m4 (by omega) (by omega)
  obtain ⟨m, M, hmin⟩ := run_min_whole (P := Try.prog) R (ofInt_is (i := b) (by omega) (by omega))
  refine ⟨m, s, ?_, ?_, fun w => ?_⟩
  · have : min (tok + max (now - at') 0 * d) b = pcLev ⟨a, b, d, e⟩ ⟨tok, at'⟩ now := by
      unfold pcLev
      simp only
      by_cases hn : now ≤ at'
      · rw [if_pos hn, show max (now - at') 0 = 0 by omega, Int.zero_mul]
        omega
      · rw [if_neg hn, show max (now - at') 0 = now - at' by omega]
        omega
    rwa [this] at M
  · rwa [show at' + max (now - at') 0 = max now at' by omega] at S
  · have B0 := Lib.hid (boxes_below w a b d e tok at')
    have r1 := fun w => run_complex_mul (P := Try.prog) w 94 _ _ _ _ _ _ e1
    have r2 := fun w => run_complex_sum (P := Try.prog) w .add (.inl rfl) 94 .f64 _ _ _ _ _ _ e2
    have hw : IntKind.i64.wrap (now - at') = now - at' := IntWalk.i64_in _ (by omega)
    clear e1 e2 R S M h ht h1 h2 h3 h4 m1 m2 m3 m4 t1 t2 hm
    go_enter Try.func75, Try.ntmps75
    go_wp2_with fail
    go_ret
    exact ⟨rfl, B0.out⟩

set_option maxHeartbeats 800000 in
set_option maxRecDepth 100000 in
theorem ptokens_any {re im : Nat} {x : Int} (hx : IsF re x) (h1 : -9007199254740992 < x) (h2 : x < 9007199254740992) (w : World) :
    Calls Try.prog 76 #[.complex .f64 re im] w fun e w' => e = .returned (.int .i64 x) ∧ w = w' := by
  have hc := fun w => run_convert_float_int (P := Try.prog) w 107 3 .f64 .i64 re x (by kernel_rfl) (by kernel_rfl) (toInt_whole hx h1 h2)
  clear hx h1 h2
  go_enter Try.func76, Try.ntmps76
  go_wp2_with fail
  go_ret
  exact ⟨rfl, rfl⟩

set_option maxHeartbeats 800000 in
set_option maxRecDepth 100000 in
theorem pbucketOf_any {re im : Nat} {x y : Int} (hx : IsF re x) (h1 : -9007199254740992 < x) (h2 : x < 9007199254740992) (hy : IsF im y) (h3 : -9007199254740992 < y) (h4 : y < 9007199254740992) (w : World) :
    Calls Try.prog 77 #[.complex .f64 re im] w fun e w' => e = .returned (.agg #[.int .i64 x, .int .i64 y]) ∧ Below w.heap.size w w' := by
  have hc := fun w => run_convert_float_int (P := Try.prog) w 107 3 .f64 .i64 im y (by kernel_rfl) (by kernel_rfl) (toInt_whole hy h3 h4)
  have HT := Lib.hid (ptokens_any (im := im) hx h1 h2)
  clear hx hy h1 h2 h3 h4
  go_enter Try.func77, Try.ntmps77
  go_wp2_with fail
  refine (HT.out _).mono ?_
  rintro e w2 ⟨rfl, rfl⟩
  go_wp2_with fail
  refine bodyPost_ret (v := .agg #[.int .i64 x, .int .i64 y]) (by simp [results, Try.results77, go_sem]) rfl ⟨rfl, ?_⟩
  repeat (first | exact Below.refl _ _ | refine Below.setCell ?_ (by first | (simp; done) | (simp; omega)) _ | refine Below.alloc ?_ (by first | (simp; done) | (simp; omega)) _)

end Go.Proofs.Ytnmdjkecjlpkkaa
