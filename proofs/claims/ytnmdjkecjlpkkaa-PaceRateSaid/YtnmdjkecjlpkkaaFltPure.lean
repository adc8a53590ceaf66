/-
  FLOATS OF 64 BITS: whole numbers among them; what '+', '-' and '*' make of them; how they stand to 0.
-/
import Derived.Laws.ComplexArith
namespace Go.Proofs.Ytnmdjkecjlpkkaa
open Ieee

theorem cut_zero (neg : Bool) (n : Nat) : Toward.even.cut neg n 0 = n := by
  simp [Toward.cut, Nat.mod_one]

theorem cut_exact (neg : Bool) (n drop : Nat) (h : drop ≤ n.log2 + 2) (hd : 2 ^ drop ∣ n) : Toward.even.cut neg n drop = n / 2 ^ drop := by
  have h0 : 0 < 2 ^ drop := Nat.two_pow_pos _
  unfold Toward.cut
  rw [Nat.min_eq_left h, Nat.one_shiftLeft]
  simp only [Nat.mod_eq_zero_of_dvd hd, Nat.mul_zero]
  have h1 : ¬ 2 ^ drop < 0 := by omega
  have h2 : (2 ^ drop == 0) = false := by simp
  simp [h2]

theorem cut_pos (neg : Bool) (n drop : Nat) (h : 2 ^ drop ≤ n) : 1 ≤ Toward.even.cut neg n drop := by
  have h0 : 0 < 2 ^ drop := Nat.two_pow_pos _
  have hl : drop ≤ n.log2 + 2 := by
    have h1 : n ≠ 0 := by omega
    have h2 := (Nat.le_log2 h1).2 h
    omega
  unfold Toward.cut
  rw [Nat.min_eq_left hl, Nat.one_shiftLeft]
  have h3 : 1 ≤ n / 2 ^ drop := (Nat.le_div_iff_mul_le h0).2 (by omega)
  simp only
  exact Nat.le_trans h3 (Nat.le_add_right _ _)

theorem read_word (neg : Bool) (r : Nat) (h : r ≤ 9218868437227405312) : double.read (double.word neg r) =
    if r < 4503599627370496 then .number neg r (-1074) else if r < 9218868437227405312 then .number neg (4503599627370496 + r % 4503599627370496) (-1074 + (r / 4503599627370496 - 1 : Nat)) else .infinity neg := by
  have e1 : double.signWeight = 9223372036854775808 := by rfl
  have e2 : double.binade = 4503599627370496 := by rfl
  have e3 : double.infRung = 9218868437227405312 := by rfl
  have e4 : double.leastPlace = -1074 := by rfl
  unfold Format.read Format.word
  rw [e1, e2, e3, e4]
  have q1 : ((if neg = true then 9223372036854775808 + r else r) / 9223372036854775808 % 2 == 1) = neg := by
    cases neg
    · have : r / 9223372036854775808 = 0 := by omega
      simp [this]
    · have : (9223372036854775808 + r) / 9223372036854775808 = 1 := by omega
      simp [this]
  have q2 : (if neg = true then 9223372036854775808 + r else r) % 9223372036854775808 = r := by
    cases neg <;> simp <;> omega
  simp only [q1, q2]
  by_cases h1 : r < 4503599627370496
  · rw [if_pos h1, if_pos h1]
  · rw [if_neg h1, if_neg h1]
    by_cases h2 : r < 9218868437227405312
    · rw [if_pos h2, if_pos h2]
    · rw [if_neg h2, if_neg h2, if_pos (by omega)]

def sgn (neg : Bool) (n : Nat) : Int := if neg then -(n : Int) else (n : Int)

theorem signed_sgn (neg : Bool) (m up : Nat) : signed neg m up = sgn neg (m * 2 ^ up) := by
  unfold signed sgn
  rw [Nat.shiftLeft_eq]

/-- The word b stands for v, in units of 2 to the -1074th. -/
def Has (b : Nat) (v : Int) : Prop := ∃ (s : Bool) (m P : Nat), double.read b = .number s m ((P : Int) - 1074) ∧ m < 9007199254740992 ∧ P ≤ 2046 ∧ v = sgn s (m * 2 ^ P)

theorem nearest_rung (neg : Bool) (m P : Nat) (hm : m ≠ 0) :
    ∃ kept, double.nearest neg m ((P : Int) - 1074) = double.word neg (min ((P + m.log2 - 52) * 4503599627370496 + kept) 9218868437227405312) ∧ 1 ≤ kept ∧ (2 ^ (P + m.log2 - 52) ∣ m * 2 ^ P → kept * 2 ^ (P + m.log2 - 52) = m * 2 ^ P) := by
  have e2 : double.binade = 4503599627370496 := by rfl
  have e3 : double.infRung = 9218868437227405312 := by rfl
  have e4 : double.leastPlace = -1074 := by rfl
  have e5 : (double.fractionBits : Int) = 52 := by rfl
  have hE : max ((P : Int) - 1074 + (m.log2 : Int) - 52) (-1074) = ((P + m.log2 - 52 : Nat) : Int) - 1074 := by omega
  obtain ⟨d, hd⟩ : ∃ d, d = m.log2 := ⟨_, rfl⟩
  obtain ⟨E, hEe⟩ : ∃ E, E = P + d - 52 := ⟨_, rfl⟩
  have h2d : 2 ^ d ≤ m := by rw [hd]; exact Nat.log2_self_le hm
  unfold Format.nearest
  rw [if_neg hm]
  simp only
  rw [e4, e5, e2, e3, hE, ← hd, ← hEe]
  have p1 : ((P : Int) - 1074 - ((E : Int) - 1074)).toNat = P - E := by omega
  have p2 : ((E : Int) - 1074 - ((P : Int) - 1074)).toNat = E - P := by omega
  have p3 : ((E : Int) - 1074 - (-1074)).toNat = E := by omega
  rw [p1, p2, p3]
  refine ⟨_, rfl, ?_, ?_⟩
  · by_cases h : E ≤ P
    · rw [show E - P = 0 by omega, cut_zero, Nat.shiftLeft_eq]
      exact Nat.mul_pos (by omega) (Nat.two_pow_pos _)
    · refine cut_pos _ _ _ ?_
      rw [show P - E = 0 by omega, Nat.shiftLeft_zero]
      exact Nat.le_trans (Nat.pow_le_pow_right (by decide) (by omega)) h2d
  · intro hv
    by_cases h : E ≤ P
    · rw [show E - P = 0 by omega, cut_zero, Nat.shiftLeft_eq, Nat.mul_assoc, ← Nat.pow_add, show P - E + E = P by omega]
    · rw [show P - E = 0 by omega, Nat.shiftLeft_zero]
      have hs : 2 ^ E = 2 ^ (E - P) * 2 ^ P := by rw [← Nat.pow_add, show E - P + P = E by omega]
      have hdv : 2 ^ (E - P) ∣ m := by
        rw [hs] at hv
        exact Nat.dvd_of_mul_dvd_mul_right (Nat.two_pow_pos P) hv
      rw [cut_exact _ _ _ (by rw [← hd]; omega) hdv, hs, ← Nat.mul_assoc, Nat.div_mul_cancel hdv]

theorem nearest_has (neg : Bool) (m P n q : Nat) (hn : n < 9007199254740992) (hq : q ≤ 1800) (h : m * 2 ^ P = n * 2 ^ q) : Has (double.nearest neg m ((P : Int) - 1074)) (sgn neg (m * 2 ^ P)) := by
  by_cases hm : m = 0
  · subst hm
    refine ⟨neg, 0, 0, ?_, by decide, by decide, by simp⟩
    have : double.nearest neg 0 ((P : Int) - 1074) = double.word neg 0 := by unfold Format.nearest; rw [if_pos rfl]
    rw [this, read_word _ _ (by decide)]
    rfl
  · obtain ⟨kept, e, h1, h2⟩ := nearest_rung neg m P hm
    obtain ⟨d, hd⟩ : ∃ d, d = m.log2 := ⟨_, rfl⟩
    obtain ⟨E, hEe⟩ : ∃ E, E = P + d - 52 := ⟨_, rfl⟩
    rw [← hd, ← hEe] at e h2
    have g1 : 2 ^ d ≤ m := by rw [hd]; exact Nat.log2_self_le hm
    have g2 : m < 2 ^ (d + 1) := by rw [hd]; exact Nat.lt_log2_self
    have g3 : 2 ^ (d + P) ≤ m * 2 ^ P := by rw [Nat.pow_add]; exact Nat.mul_le_mul_right _ g1
    have g4 : m * 2 ^ P < 2 ^ (d + 1 + P) := by rw [Nat.pow_add]; exact Nat.mul_lt_mul_of_pos_right g2 (Nat.two_pow_pos _)
    have g5 : m * 2 ^ P < 2 ^ (53 + q) := by rw [h, Nat.pow_add]; exact Nat.mul_lt_mul_of_pos_right (by simpa using hn) (Nat.two_pow_pos _)
    have g6 : d + P < 53 + q := (Nat.pow_lt_pow_iff_right (by decide)).1 (Nat.lt_of_le_of_lt g3 g5)
    have g7 : 2 ^ E ∣ m * 2 ^ P := by
      rw [h, show q = (q - E) + E by omega, Nat.pow_add, ← Nat.mul_assoc]
      exact Nat.dvd_mul_left _ _
    have hk := h2 g7
    have k1 : kept < 9007199254740992 := by
      have : kept * 2 ^ E < 2 ^ 53 * 2 ^ E := by
        rw [hk, ← Nat.pow_add]
        exact Nat.lt_of_lt_of_le g4 (Nat.pow_le_pow_right (by decide) (by omega))
      simpa using Nat.lt_of_mul_lt_mul_right this
    have k2 : 0 < E → 4503599627370496 ≤ kept := by
      intro hE
      have : 2 ^ 52 * 2 ^ E ≤ kept * 2 ^ E := by
        rw [hk, ← Nat.pow_add]
        exact Nat.le_trans (Nat.pow_le_pow_right (by decide) (by omega)) g3
      simpa using Nat.le_of_mul_le_mul_right this (Nat.two_pow_pos E)
    have k3 : E * 4503599627370496 + kept < 9218868437227405312 := by omega
    rw [Nat.min_eq_left (Nat.le_of_lt k3)] at e
    refine ⟨neg, kept, E, ?_, k1, by omega, by rw [hk]⟩
    rw [e, read_word _ _ (Nat.le_of_lt k3)]
    by_cases c : E * 4503599627370496 + kept < 4503599627370496
    · have hE0 : E = 0 := by omega
      rw [if_pos c]
      subst hE0
      simp
    · rw [if_neg c, if_pos k3]
      have c1 : (E * 4503599627370496 + kept) / 4503599627370496 - 1 = E := by
        by_cases hE : 0 < E
        · have := k2 hE; omega
        · omega
      have c2 : 4503599627370496 + (E * 4503599627370496 + kept) % 4503599627370496 = kept := by
        by_cases hE : 0 < E
        · have := k2 hE; omega
        · omega
      rw [c1, c2]
      congr 1

/-- How a word stands to 0, and to itself. -/
def Stands (b : Nat) (v : Int) : Prop := double.order b 0 = some (compare v 0) ∧ double.order b b = some .eq

theorem compare_sgn (neg : Bool) (n : Nat) (h : 0 < n) : compare (sgn neg n) 0 = if neg then .lt else .gt := by
  unfold sgn
  cases neg
  · simp only [Bool.false_eq_true, if_false]
    rw [Int.compare_eq_gt]
    omega
  · simp only [if_true]
    rw [Int.compare_eq_lt]
    omega

theorem read_zero : double.read 0 = .number false 0 (-1074) := by rfl

theorem stands_number {b : Nat} {s : Bool} {m P : Nat} (h : double.read b = .number s m ((P : Int) - 1074)) : Stands b (sgn s (m * 2 ^ P)) := by
  unfold Stands Format.order
  rw [h, read_zero]
  unfold Datum.order
  simp only
  rw [signed_sgn, signed_sgn, signed_sgn]
  have e1 : ((P : Int) - 1074 - min ((P : Int) - 1074) (-1074)).toNat = P := by omega
  refine ⟨?_, ?_⟩
  · rw [e1]
    congr 2
    unfold sgn
    simp
  · congr 1
    exact Int.compare_eq_eq.2 rfl

theorem nearest_stands (neg : Bool) (m P : Nat) : Stands (double.nearest neg m ((P : Int) - 1074)) (sgn neg (m * 2 ^ P)) := by
  by_cases hm : m = 0
  · subst hm
    have : double.nearest neg 0 ((P : Int) - 1074) = double.word neg 0 := by unfold Format.nearest; rw [if_pos rfl]
    rw [this]
    have hr := read_word neg 0 (by decide)
    rw [if_pos (by decide)] at hr
    have := stands_number (P := 0) hr
    simpa using this
  · obtain ⟨kept, e, h1, -⟩ := nearest_rung neg m P hm
    rw [e]
    have hpos : 0 < m * 2 ^ P := Nat.mul_pos (by omega) (Nat.two_pow_pos _)
    generalize hr : min ((P + m.log2 - 52) * 4503599627370496 + kept) 9218868437227405312 = r
    have r1 : 0 < r := by omega
    have r2 : r ≤ 9218868437227405312 := by omega
    have hw := read_word neg r r2
    have hs : ∀ {n : Nat}, 0 < n → compare (sgn neg n) 0 = compare (sgn neg (m * 2 ^ P)) 0 := by
      intro n hn
      rw [compare_sgn _ _ hn, compare_sgn _ _ hpos]
    by_cases c : r < 4503599627370496
    · rw [if_pos c] at hw
      have := stands_number (P := 0) hw
      unfold Stands at this ⊢
      rw [← hs (n := r * 2 ^ 0) (by simpa using r1)]
      exact this
    · rw [if_neg c] at hw
      by_cases c2 : r < 9218868437227405312
      · rw [if_pos c2, show (-1074 + ((r / 4503599627370496 - 1 : Nat) : Int)) = ((r / 4503599627370496 - 1 : Nat) : Int) - 1074 by omega] at hw
        have := stands_number hw
        unfold Stands at this ⊢
        rw [← hs (n := (4503599627370496 + r % 4503599627370496) * 2 ^ (r / 4503599627370496 - 1)) (Nat.mul_pos (by omega) (Nat.two_pow_pos _))]
        exact this
      · rw [if_neg c2] at hw
        unfold Stands Format.order
        rw [hw, read_zero, compare_sgn _ _ hpos]
        unfold Datum.order
        simp only
        refine ⟨by cases neg <;> first | rfl | trivial, by cases neg <;> first | rfl | trivial⟩

theorem sgn_natAbs (s : Bool) (t : Int) : sgn (if t = 0 then s else decide (t < 0)) t.natAbs = t := by
  unfold sgn
  by_cases h : t = 0
  · subst h
    simp
  · rw [if_neg h]
    by_cases h2 : t < 0
    · simp only [h2, decide_true, if_true]; omega
    · simp only [h2, decide_false, Bool.false_eq_true, if_false]; omega

theorem sgn_mul (s : Bool) (n k : Nat) : sgn s (n * k) = sgn s n * k := by
  unfold sgn
  cases s
  · simp
  · simp [Int.neg_mul]

/-- A sum, ahead of the rounding. -/
theorem sum_raw {x y : Nat} {a b : Int} (hx : Has x a) (hy : Has y b) : ∃ s m P, double.add x y = some (double.nearest s m ((P : Nat) - 1074 : Int)) ∧ sgn s (m * 2 ^ P) = a + b := by
  obtain ⟨s, m, P, e1, -, -, rfl⟩ := hx
  obtain ⟨t, n, R, e2, -, -, rfl⟩ := hy
  unfold Format.add
  rw [e1, e2]
  simp only [Datum.sum, Option.map_some, Format.write]
  have e3 : min ((P : Int) - 1074) ((R : Int) - 1074) = ((min P R : Nat) : Int) - 1074 := by omega
  rw [e3, signed_sgn, signed_sgn]
  have e4 : ((P : Int) - 1074 - (((min P R : Nat) : Int) - 1074)).toNat = P - min P R := by omega
  have e5 : ((R : Int) - 1074 - (((min P R : Nat) : Int) - 1074)).toNat = R - min P R := by omega
  rw [e4, e5]
  refine ⟨_, _, _, rfl, ?_⟩
  rw [sgn_mul, sgn_natAbs, Int.add_mul, ← sgn_mul, ← sgn_mul, Nat.mul_assoc, Nat.mul_assoc, ← Nat.pow_add, ← Nat.pow_add, show P - min P R + min P R = P by omega, show R - min P R + min P R = R by omega]

theorem has_opposite {y : Nat} {b : Int} (h : Has y b) : ∃ (s : Bool) (m P : Nat), (double.read y).opposite = .number s m ((P : Int) - 1074) ∧ m < 9007199254740992 ∧ P ≤ 2046 ∧ -b = sgn s (m * 2 ^ P) := by
  obtain ⟨s, m, P, e, h1, h2, rfl⟩ := h
  refine ⟨!s, m, P, by rw [e]; rfl, h1, h2, ?_⟩
  unfold sgn
  cases s <;> simp

theorem sub_raw {x y : Nat} {a b : Int} (hx : Has x a) (hy : Has y b) : ∃ s m P, double.sub x y = some (double.nearest s m ((P : Nat) - 1074 : Int)) ∧ sgn s (m * 2 ^ P) = a - b := by
  obtain ⟨s, m, P, e1, -, -, rfl⟩ := hx
  obtain ⟨t, n, R, e2, -, -, hb⟩ := has_opposite hy
  unfold Format.sub
  rw [e1, e2]
  simp only [Datum.sum, Option.map_some, Format.write]
  have e3 : min ((P : Int) - 1074) ((R : Int) - 1074) = ((min P R : Nat) : Int) - 1074 := by omega
  rw [e3, signed_sgn, signed_sgn]
  have e4 : ((P : Int) - 1074 - (((min P R : Nat) : Int) - 1074)).toNat = P - min P R := by omega
  have e5 : ((R : Int) - 1074 - (((min P R : Nat) : Int) - 1074)).toNat = R - min P R := by omega
  rw [e4, e5]
  refine ⟨_, _, _, rfl, ?_⟩
  rw [sgn_mul, sgn_natAbs, Int.add_mul, ← sgn_mul, ← sgn_mul, Nat.mul_assoc, Nat.mul_assoc, ← Nat.pow_add, ← Nat.pow_add, show P - min P R + min P R = P by omega, show R - min P R + min P R = R by omega, ← hb]
  rfl

theorem natAbs_two (k : Nat) : ((2 : Int) ^ k).natAbs = 2 ^ k := by
  rw [Int.natAbs_pow]
  rfl

theorem cast_two (k : Nat) : ((2 ^ k : Nat) : Int) = (2 : Int) ^ k := Int.natCast_pow 2 k

theorem sgn_nil (s : Bool) : sgn s 0 = 0 := by cases s <;> rfl

theorem natAbs_sgn (s : Bool) (n : Nat) : (sgn s n).natAbs = n := by
  unfold sgn
  cases s <;> simp

/-- Whole numbers that a float holds as they are: fewer than 2 to the 53rd, times a power of 2. -/
def Whole (i : Int) : Prop := ∃ n k : Nat, n < 9007199254740992 ∧ k ≤ 700 ∧ i.natAbs = n * 2 ^ k

/-- The word b stands for the whole number i. -/
def IsF (b : Nat) (i : Int) : Prop := Has b (i * 2 ^ 1074)

theorem has_round {s : Bool} {m P : Nat} {i : Int} (h : sgn s (m * 2 ^ P) = i * 2 ^ 1074) (hw : Whole i) : IsF (double.nearest s m ((P : Nat) - 1074 : Int)) i := by
  obtain ⟨n, k, h1, h2, h3⟩ := hw
  have := nearest_has s m P n (k + 1074) h1 (by omega) (by
    have e := congrArg Int.natAbs h
    rw [natAbs_sgn, Int.natAbs_mul, h3] at e
    rw [e, natAbs_two, Nat.pow_add, ← Nat.mul_assoc])
  rw [h] at this
  exact this

theorem add_whole {x y : Nat} {a b : Int} (hx : IsF x a) (hy : IsF y b) (hw : Whole (a + b)) : ∃ r, double.add x y = some r ∧ IsF r (a + b) := by
  obtain ⟨s, m, P, e, h⟩ := sum_raw hx hy
  exact ⟨_, e, has_round (by rw [h, Int.add_mul]) hw⟩

theorem sub_whole {x y : Nat} {a b : Int} (hx : IsF x a) (hy : IsF y b) (hw : Whole (a - b)) : ∃ r, double.sub x y = some r ∧ IsF r (a - b) := by
  obtain ⟨s, m, P, e, h⟩ := sub_raw hx hy
  exact ⟨_, e, has_round (by rw [h, Int.sub_mul]) hw⟩

theorem compare_scale (i : Int) : compare (i * 2 ^ 1074) 0 = compare i 0 := by
  have hp : (0 : Int) < 2 ^ 1074 := Int.pow_pos (by decide)
  rcases Int.lt_trichotomy i 0 with h | h | h
  · rw [Int.compare_eq_lt.2 h, Int.compare_eq_lt.2 (Int.mul_neg_of_neg_of_pos h hp)]
  · subst h; rw [Int.zero_mul]
  · rw [Int.compare_eq_gt.2 h, Int.compare_eq_gt.2 (Int.mul_pos h hp)]

/-- A sum, rounded, stands to 0 as it does ahead of the rounding. -/
theorem add_stands {x y : Nat} {a b : Int} (hx : IsF x a) (hy : IsF y b) : ∃ r, double.add x y = some r ∧ Stands r (a + b) := by
  obtain ⟨s, m, P, e, h⟩ := sum_raw hx hy
  refine ⟨_, e, ?_⟩
  have := nearest_stands s m P
  rw [h, ← Int.add_mul] at this
  unfold Stands at this ⊢
  rwa [compare_scale] at this

theorem int_whole {i : Int} (h1 : -9007199254740992 < i) (h2 : i < 9007199254740992) : Whole i := ⟨i.natAbs, 0, by omega, by decide, by simp⟩

theorem ofInt_is {i : Int} (h1 : -9007199254740992 < i) (h2 : i < 9007199254740992) : IsF (floatOfInt .f64 i) i := by
  show IsF (double.nearest (decide (i < 0)) i.natAbs 0) i
  have := has_round (s := decide (i < 0)) (m := i.natAbs) (P := 1074) (i := i) (by
    refine (sgn_mul _ _ _).trans ?_
    refine (congrArg (sgn (decide (i < 0)) i.natAbs * ·) (cast_two 1074)).trans ?_
    refine congrArg (· * (2 : Int) ^ 1074) ?_
    unfold sgn
    by_cases h : i < 0
    · simp only [h, decide_true, if_true]; omega
    · simp only [h, decide_false, Bool.false_eq_true, if_false]; omega) (int_whole h1 h2)
  exact this

/-- 'x * 4294967296', as its word. -/
theorem mul_up {x : Nat} {a : Int} (hx : IsF x a) (h1 : -9007199254740992 < a) (h2 : a < 9007199254740992) : ∃ r, double.mul x 4751297606875873280 = some r ∧ IsF r (a * 4294967296) := by
  obtain ⟨s, m, P, e1, h3, h4, h5⟩ := hx
  have e2 : double.read 4751297606875873280 = .number false 4503599627370496 (-20) := by rfl
  have hw : Whole (a * 4294967296) := ⟨a.natAbs, 32, by omega, by decide, by rw [Int.natAbs_mul]; rfl⟩
  unfold Format.mul
  rw [e1, e2]
  simp only [Datum.product, Option.map_some, Format.write, Bool.xor_false]
  refine ⟨_, rfl, ?_⟩
  by_cases hm : m = 0
  · subst hm
    have ha : a = 0 := by
      have hp : (0 : Int) < 2 ^ 1074 := Int.pow_pos (by decide)
      unfold sgn at h5
      simp only [Nat.zero_mul, Int.ofNat_zero, Int.neg_zero, ite_self] at h5
      rcases Int.mul_eq_zero.1 h5 with h | h
      · exact h
      · omega
    subst ha
    rw [Nat.zero_mul]
    have := nearest_has s 0 0 0 0 (by decide) (by decide) rfl
    have e : double.nearest s 0 ((P : Int) - 1074 + -20) = double.nearest s 0 (((0 : Nat) : Int) - 1074) := by
      unfold Format.nearest
      rw [if_pos rfl, if_pos rfl]
    rw [e]
    unfold IsF
    have e0 : sgn s (0 * 2 ^ 0) = 0 * 4294967296 * 2 ^ 1074 := by rw [Int.zero_mul, Int.zero_mul, Nat.zero_mul, sgn_nil]
    rwa [e0] at this
  · have hP : 20 ≤ P := by
      have hab := congrArg Int.natAbs h5
      rw [natAbs_sgn, Int.natAbs_mul, natAbs_two] at hab
      have ha : a.natAbs ≠ 0 := by
        intro h0
        have hz : ∀ V : Nat, a.natAbs * V = m * 2 ^ P → False := by
          intro V e
          rw [h0, Nat.zero_mul] at e
          have h9 := Nat.mul_pos (Nat.pos_of_ne_zero hm) (Nat.two_pow_pos P)
          omega
        exact hz _ hab
      have q1 : 2 ^ 1074 ≤ m * 2 ^ P := by
        rw [← hab]
        have hp : ∀ V : Nat, V ≤ a.natAbs * V := fun V => Nat.le_mul_of_pos_left V (Nat.pos_of_ne_zero ha)
        exact hp _
      have q2 : m * 2 ^ P < 2 ^ 53 * 2 ^ P := Nat.mul_lt_mul_of_pos_right (by simpa using h3) (Nat.two_pow_pos _)
      rw [← Nat.pow_add] at q2
      have := (Nat.pow_lt_pow_iff_right (by decide)).1 (Nat.lt_of_le_of_lt q1 q2)
      omega
    rw [show (P : Int) - 1074 + -20 = ((P - 20 : Nat) : Int) - 1074 by omega]
    refine has_round ?_ hw
    rw [Nat.mul_assoc, show 4503599627370496 = 2 ^ 52 from rfl, ← Nat.pow_add, show 52 + (P - 20) = P + 32 by omega, Nat.pow_add, ← Nat.mul_assoc, sgn_mul, ← h5, Int.mul_assoc, Int.mul_assoc, Int.mul_comm (2 ^ 1074)]
    rfl

/-- 'x * 0', as its word. -/
theorem mul_nil {x : Nat} {a : Int} (hx : IsF x a) : ∃ r, double.mul x 0 = some r ∧ IsF r 0 := by
  obtain ⟨s, m, P, e1, -, -, -⟩ := hx
  unfold Format.mul
  rw [e1, read_zero]
  simp only [Datum.product, Option.map_some, Format.write, Nat.mul_zero, Bool.xor_false]
  refine ⟨_, rfl, ?_⟩
  have := nearest_has s 0 0 0 0 (by decide) (by decide) rfl
  have e : double.nearest s 0 ((P : Int) - 1074 + -1074) = double.nearest s 0 (((0 : Nat) : Int) - 1074) := by
    unfold Format.nearest
    rw [if_pos rfl, if_pos rfl]
  rw [e]
  unfold IsF
  have e0 : sgn s (0 * 2 ^ 0) = 0 * 2 ^ 1074 := by rw [Int.zero_mul, Nat.zero_mul, sgn_nil]
  rwa [e0] at this

end Go.Proofs.Ytnmdjkecjlpkkaa
