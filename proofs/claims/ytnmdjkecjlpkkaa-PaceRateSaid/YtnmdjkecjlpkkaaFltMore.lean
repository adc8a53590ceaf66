/-
  FLOATS OF 64 BITS, further: products of whole numbers, how two stand, the whole number back, and the lesser of two.
-/
import Derived.Test.YtnmdjkecjlpkkaaFltPure
import Derived.Laws.FloatArith
namespace Go.Proofs.Ytnmdjkecjlpkkaa
open Ieee

theorem isF_nil {s : Bool} {m P : Nat} {a : Int} (h : a * 2 ^ 1074 = sgn s (m * 2 ^ P)) (hm : m = 0) : a = 0 := by
  subst hm
  have hp : (0 : Int) < 2 ^ 1074 := Int.pow_pos (by decide)
  unfold sgn at h
  simp only [Nat.zero_mul, Int.ofNat_zero, Int.neg_zero, ite_self] at h
  rcases Int.mul_eq_zero.1 h with h | h
  · exact h
  · omega

theorem isF_high {s : Bool} {m P : Nat} {a : Int} (h : a * 2 ^ 1074 = sgn s (m * 2 ^ P)) (h3 : m < 9007199254740992) (ha : a.natAbs ≠ 0) : 1021 < P := by
  have hab := congrArg Int.natAbs h
  rw [natAbs_sgn, Int.natAbs_mul, natAbs_two] at hab
  have q1 : 2 ^ 1074 ≤ m * 2 ^ P := by
    rw [← hab]
    have hp : ∀ V : Nat, V ≤ a.natAbs * V := fun V => Nat.le_mul_of_pos_left V (Nat.pos_of_ne_zero ha)
    exact hp _
  have q2 : m * 2 ^ P < 2 ^ 53 * 2 ^ P := Nat.mul_lt_mul_of_pos_right (by simpa using h3) (Nat.two_pow_pos _)
  rw [← Nat.pow_add] at q2
  have := (Nat.pow_lt_pow_iff_right (by decide)).1 (Nat.lt_of_le_of_lt q1 q2)
  omega

theorem sgn_xor (s t : Bool) (m n : Nat) : sgn (s ^^ t) (m * n) = sgn s m * sgn t n := by
  unfold sgn
  cases s <;> cases t <;> simp [Int.neg_mul, Int.mul_neg]

theorem mul_scale {s t : Bool} {m n P R Q : Nat} {a b E : Int} (hE : E = ((2 ^ Q : Nat) : Int)) (h5 : a * E = sgn s (m * 2 ^ P)) (g5 : b * E = sgn t (n * 2 ^ R)) (hq : Q ≤ P + R) : sgn (s ^^ t) (m * n * 2 ^ (P + R - Q)) * E = a * b * E * E := by
  rw [hE, ← sgn_mul, Nat.mul_assoc, ← Nat.pow_add, show P + R - Q + Q = P + R by omega, Nat.pow_add,
    show m * n * (2 ^ P * 2 ^ R) = (m * 2 ^ P) * (n * 2 ^ R) by ac_rfl, sgn_xor, ← h5, ← g5, ← hE]
  ac_rfl

theorem mul_whole {x y : Nat} {a b : Int} (hx : IsF x a) (hy : IsF y b) (hw : Whole (a * b)) : ∃ r, double.mul x y = some r ∧ IsF r (a * b) := by
  obtain ⟨s, m, P, e1, h3, -, h5⟩ := hx
  obtain ⟨t, n, R, e2, g3, -, g5⟩ := hy
  unfold Format.mul
  rw [e1, e2]
  simp only [Datum.product, Option.map_some, Format.write]
  refine ⟨_, rfl, ?_⟩
  by_cases hz : m * n = 0
  · have hab : a * b = 0 := by
      rcases Nat.mul_eq_zero.1 hz with h | h
      · rw [isF_nil h5 h, Int.zero_mul]
      · rw [isF_nil g5 h, Int.mul_zero]
    rw [hz, hab]
    have := nearest_has (s ^^ t) 0 0 0 0 (by decide) (by decide) rfl
    have e : double.nearest (s ^^ t) 0 ((P : Int) - 1074 + ((R : Int) - 1074)) = double.nearest (s ^^ t) 0 (((0 : Nat) : Int) - 1074) := by
      unfold Format.nearest
      rw [if_pos rfl, if_pos rfl]
    rw [e]
    unfold IsF
    have e0 : sgn (s ^^ t) (0 * 2 ^ 0) = 0 * 2 ^ 1074 := by rw [Int.zero_mul, Nat.zero_mul, sgn_nil]
    rwa [e0] at this
  · have hm : m ≠ 0 := fun h => hz (by rw [h, Nat.zero_mul])
    have hn : n ≠ 0 := fun h => hz (by rw [h, Nat.mul_zero])
    have ha : a.natAbs ≠ 0 := by
      intro h0
      have : a = 0 := by omega
      subst this
      have := congrArg Int.natAbs h5
      rw [natAbs_sgn, Int.zero_mul] at this
      have h9 := Nat.mul_pos (Nat.pos_of_ne_zero hm) (Nat.two_pow_pos P)
      have h8 : m * 2 ^ P = 0 := this.symm
      omega
    have hb : b.natAbs ≠ 0 := by
      intro h0
      have : b = 0 := by omega
      subst this
      have := congrArg Int.natAbs g5
      rw [natAbs_sgn, Int.zero_mul] at this
      have h9 := Nat.mul_pos (Nat.pos_of_ne_zero hn) (Nat.two_pow_pos R)
      have h8 : n * 2 ^ R = 0 := this.symm
      omega
    have hP := isF_high h5 h3 ha
    have hR := isF_high g5 g3 hb
    rw [show (P : Int) - 1074 + ((R : Int) - 1074) = ((P + R - 1074 : Nat) : Int) - 1074 by omega]
    refine has_round ?_ hw
    have hc := mul_scale (Q := 1074) (cast_two 1074).symm h5 g5 (by omega)
    exact Int.eq_of_mul_eq_mul_right (Int.pow_ne_zero (by decide)) hc

theorem order_whole {x y : Nat} {a b : Int} (hx : IsF x a) (hy : IsF y b) : double.order x y = some (compare a b) := by
  obtain ⟨s, m, P, e1, -, -, h5⟩ := hx
  obtain ⟨t, n, R, e2, -, -, g5⟩ := hy
  unfold Format.order
  rw [e1, e2]
  unfold Datum.order
  simp only
  have e3 : min ((P : Int) - 1074) ((R : Int) - 1074) = ((min P R : Nat) : Int) - 1074 := by omega
  rw [e3, signed_sgn, signed_sgn]
  have e4 : ((P : Int) - 1074 - (((min P R : Nat) : Int) - 1074)).toNat = P - min P R := by omega
  have e5 : ((R : Int) - 1074 - (((min P R : Nat) : Int) - 1074)).toNat = R - min P R := by omega
  rw [e4, e5]
  congr 1
  have hp : (0 : Int) < 2 ^ 1074 := Int.pow_pos (by decide)
  have hq : (0 : Int) < ((2 ^ min P R : Nat) : Int) := by have := Nat.two_pow_pos (min P R); omega
  have k1 : sgn s (m * 2 ^ (P - min P R)) * ((2 ^ min P R : Nat) : Int) = a * 2 ^ 1074 := by
    rw [h5, ← sgn_mul, Nat.mul_assoc, ← Nat.pow_add, show P - min P R + min P R = P by omega]
  have k2 : sgn t (n * 2 ^ (R - min P R)) * ((2 ^ min P R : Nat) : Int) = b * 2 ^ 1074 := by
    rw [g5, ← sgn_mul, Nat.mul_assoc, ← Nat.pow_add, show R - min P R + min P R = R by omega]
  generalize sgn s (m * 2 ^ (P - min P R)) = U at *
  generalize sgn t (n * 2 ^ (R - min P R)) = V at *
  generalize ((2 ^ min P R : Nat) : Int) = D at *
  generalize (2 : Int) ^ 1074 = E at *
  rcases Int.lt_trichotomy a b with h | h | h
  · rw [Int.compare_eq_lt.2 h, Int.compare_eq_lt]
    refine Int.lt_of_mul_lt_mul_right (a := D) ?_ (Int.le_of_lt hq)
    rw [k1, k2]
    exact Int.mul_lt_mul_of_pos_right h hp
  · rw [Int.compare_eq_eq.2 h, Int.compare_eq_eq]
    refine Int.eq_of_mul_eq_mul_right (a := D) (by omega) ?_
    rw [k1, k2, h]
  · rw [Int.compare_eq_gt.2 h, Int.compare_eq_gt]
    refine Int.lt_of_mul_lt_mul_right (a := D) ?_ (Int.le_of_lt hq)
    rw [k1, k2]
    exact Int.mul_lt_mul_of_pos_right h hp

theorem sgn_cast (s : Bool) (n : Nat) : (sgn s n).natAbs = n := natAbs_sgn s n

theorem cancel_pow {a b Q : Nat} (h : a * 2 ^ Q = b * 2 ^ Q) : a = b := Nat.eq_of_mul_eq_mul_right (Nat.two_pow_pos Q) h

theorem split_pow (m P Q : Nat) (h : Q ≤ P) : m * 2 ^ (P - Q) * 2 ^ Q = m * 2 ^ P := by rw [Nat.mul_assoc, ← Nat.pow_add, show P - Q + Q = P by omega]

/-- Back to a whole number. -/
theorem toInt_whole {x : Nat} {a : Int} (hx : IsF x a) (h1 : -9007199254740992 < a) (h2 : a < 9007199254740992) : floatToIntVal .f64 x .i64 = some a := by
  obtain ⟨s, m, P, e1, h3, -, h5⟩ := hx
  unfold floatToIntVal
  have hd : FloatKind.f64.decode x = .number s m ((P : Int) - 1074) := e1
  have ht : (FloatKind.f64.decode x).toInt .zero = some a := by
    rw [hd]
    unfold Datum.toInt Datum.integral
    simp only
    rw [signed_sgn, Nat.pow_zero, Nat.mul_one]
    congr 1
    have hsa : ∀ k : Nat, a.natAbs = k → (a.natAbs ≠ 0 → sgn s k = a) := by
      intro k hk hne
      subst hk
      have hp : (0 : Int) < 2 ^ 1074 := Int.pow_pos (by decide)
      unfold sgn at h5 ⊢
      generalize (2 : Int) ^ 1074 = E at *
      cases s
      · simp only [Bool.false_eq_true, if_false] at h5 ⊢
        have : 0 ≤ a * E := by rw [h5]; exact Int.natCast_nonneg _
        have := Int.nonneg_of_mul_nonneg_left this hp
        omega
      · simp only [if_true] at h5 ⊢
        have : 0 ≤ (-a) * E := by rw [Int.neg_mul, h5, Int.neg_neg]; exact Int.natCast_nonneg _
        have := Int.nonneg_of_mul_nonneg_left this hp
        omega
    by_cases ha : a.natAbs = 0
    · have ha0 : a = 0 := by omega
      subst ha0
      have hm : m = 0 := by
        have := congrArg Int.natAbs h5
        rw [natAbs_sgn, Int.zero_mul] at this
        have h8 : m * 2 ^ P = 0 := this.symm
        have := Nat.two_pow_pos P
        rcases Nat.mul_eq_zero.1 h8 with h | h
        · exact h
        · omega
      subst hm
      have : Toward.zero.cut s (0 <<< ((P : Int) - 1074).toNat) (-((P : Int) - 1074)).toNat = 0 := by
        unfold Toward.cut
        simp
      rw [this, sgn_nil]
    · have hab := congrArg Int.natAbs h5
      rw [natAbs_sgn, Int.natAbs_mul, natAbs_two] at hab
      refine hsa _ ?_ ha
      by_cases hP : 1074 ≤ P
      · rw [show (-((P : Int) - 1074)).toNat = 0 by omega, show ((P : Int) - 1074).toNat = P - 1074 by omega, Nat.shiftLeft_eq]
        have : Toward.zero.cut s (m * 2 ^ (P - 1074)) 0 = m * 2 ^ (P - 1074) := by
          unfold Toward.cut
          simp
        rw [this]
        refine cancel_pow (Q := 1074) ?_
        exact hab.trans (split_pow m P 1074 hP).symm
      · obtain ⟨d, hd'⟩ : ∃ d, d = 1074 - P := ⟨_, rfl⟩
        rw [show (-((P : Int) - 1074)).toNat = d by omega, show ((P : Int) - 1074).toNat = 0 by omega, Nat.shiftLeft_zero]
        have hm : m = a.natAbs * 2 ^ d := by
          refine Nat.eq_of_mul_eq_mul_right (Nat.two_pow_pos P) ?_
          rw [← hab, Nat.mul_assoc, ← Nat.pow_add, show d + P = 1074 by omega]
        have hlog : d ≤ m.log2 + 2 := by
          have hm0 : m ≠ 0 := by rw [hm]; exact Nat.ne_of_gt (Nat.mul_pos (Nat.pos_of_ne_zero ha) (Nat.two_pow_pos _))
          have : 2 ^ d ≤ m := by rw [hm]; exact Nat.le_mul_of_pos_left _ (Nat.pos_of_ne_zero ha)
          have := (Nat.le_log2 hm0).2 this
          omega
        unfold Toward.cut
        rw [Nat.min_eq_left hlog, Nat.one_shiftLeft]
        simp only [Bool.toNat_false, Nat.add_zero]
        rw [hm, Nat.mul_div_cancel _ (Nat.two_pow_pos _)]
  rw [ht]
  have e1' : IntKind.i64.min = -9223372036854775808 := by decide
  have e2' : IntKind.i64.max = 9223372036854775807 := by decide
  simp only
  rw [e1', e2', if_pos (by omega)]

/-- The lesser of two whole numbers, as floats. -/
theorem run_min_whole {P : Program} {x y : Nat} {a b : Int} (hx : IsF x a) (hy : IsF y b) : ∃ r, IsF r (min a b) ∧ ∀ (w : World) (ts : Array TypeId) (t : TypeId), (Builtin.min_ ts t #[.float .f64 x, .float .f64 y]).run P w = .ok (.float .f64 r) w := by
  have ho : FloatKind.f64.format.order x y = some (compare a b) := order_whole hx hy
  rcases Int.lt_trichotomy a b with h | h | h
  · refine ⟨x, by rwa [Int.min_eq_left (Int.le_of_lt h)], fun w ts t => ?_⟩
    rw [Int.compare_eq_lt.2 h] at ho
    simp [Builtin.min_, Builtin.min2, ho]
  · subst h
    rw [Int.compare_eq_eq.2 rfl] at ho
    refine ⟨if (FloatKind.f64.decode x).neg = true then x else y, ?_, fun w ts t => ?_⟩
    · rw [Int.min_self]; split <;> assumption
    · simp [Builtin.min_, Builtin.min2, ho]
  · refine ⟨y, by rwa [Int.min_eq_right (Int.le_of_lt h)], fun w ts t => ?_⟩
    rw [Int.compare_eq_gt.2 h] at ho
    simp [Builtin.min_, Builtin.min2, ho]

end Go.Proofs.Ytnmdjkecjlpkkaa
