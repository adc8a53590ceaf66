/-
  PLAIN MATHEMATICS OF LAYER 2 (crc): a sum of 32 bits, how it goes by XOR, and that four bytes changed are told. No program in sight.
-/
import Derived.Test.YthfkfonfiejbmaaVarPure
namespace Go.Proofs.Ythfkfonfiejbmaa

/-- One bit. -/
def c1 (x : Nat) : Nat := if x % 2 = 1 then x / 2 ^^^ 3988292384 else x / 2

/-- k bits. -/
def cN : Nat → Nat → Nat
  | 0, x => x
  | k + 1, x => cN k (c1 x)

def cstep (c b : Nat) : Nat := cN 8 (c ^^^ b)

def cfold (c : Nat) (l : List UInt8) : Nat := l.foldl (fun c b => cstep c b.toNat) c

def csum (l : List UInt8) : Nat := cfold 4294967295 l ^^^ 4294967295

def low4 (n : Nat) : List UInt8 := [u8of (n % 256), u8of (n / 256 % 256), u8of (n / 65536 % 256), u8of (n / 16777216 % 256)]

def cseal (l : List UInt8) : List UInt8 := l ++ low4 (csum l)

def copen (t : List UInt8) : List UInt8 × Nat :=
  if t.length < 4 then ([], 2) else if t.drop (t.length - 4) = low4 (csum (t.take (t.length - 4))) then (t.take (t.length - 4), 0) else ([], 4)

theorem xor_cancel (x y : Nat) : x ^^^ y ^^^ y = x := by rw [Nat.xor_assoc, Nat.xor_self, Nat.xor_zero]

theorem xor_zero_eq {x y : Nat} (h : x ^^^ y = 0) : x = y := by
  have := xor_cancel x y
  rw [h, Nat.zero_xor] at this
  exact this.symm

theorem c1_zero : c1 0 = 0 := by simp [c1]

theorem c1_xor (x y : Nat) : c1 (x ^^^ y) = c1 x ^^^ c1 y := by
  unfold c1
  have h := @Nat.xor_mod_two_eq_one x y
  rw [Nat.xor_div_two]
  by_cases hx : x % 2 = 1
  · by_cases hy : y % 2 = 1
    · rw [if_neg (by rw [h]; simp [hx, hy]), if_pos hx, if_pos hy]
      rw [Nat.xor_assoc (x / 2), ← Nat.xor_assoc 3988292384, Nat.xor_comm 3988292384 (y / 2), xor_cancel]
    · rw [if_pos (by rw [h]; simp [hx, hy]), if_pos hx, if_neg hy]
      rw [Nat.xor_assoc, Nat.xor_assoc, Nat.xor_comm (y / 2)]
  · by_cases hy : y % 2 = 1
    · rw [if_pos (by rw [h]; simp [hx, hy]), if_neg hx, if_pos hy, Nat.xor_assoc]
    · rw [if_neg (by rw [h]; simp [hx, hy]), if_neg hx, if_neg hy]

theorem c1_lt {x : Nat} (h : x < 4294967296) : c1 x < 4294967296 := by
  unfold c1
  split
  · exact Nat.xor_lt_two_pow (n := 32) (by omega) (by omega)
  · omega

theorem c1_zero_of {x : Nat} (h : x < 4294967296) (h0 : c1 x = 0) : x = 0 := by
  unfold c1 at h0
  split at h0
  · have := xor_zero_eq h0
    omega
  · omega

theorem c1_double (x : Nat) : c1 (2 * x) = x := by
  unfold c1
  rw [if_neg (by omega)]
  omega

theorem cN_zero : ∀ k, cN k 0 = 0
  | 0 => rfl
  | k + 1 => by rw [cN, c1_zero]; exact cN_zero k

theorem cN_xor : ∀ (k x y : Nat), cN k (x ^^^ y) = cN k x ^^^ cN k y
  | 0, _, _ => rfl
  | k + 1, x, y => by simp only [cN]; rw [c1_xor]; exact cN_xor k _ _

theorem cN_lt : ∀ (k : Nat) {x : Nat}, x < 4294967296 → cN k x < 4294967296
  | 0, _, h => h
  | k + 1, _, h => cN_lt k (c1_lt h)

theorem cN_zero_of : ∀ (k : Nat) {x : Nat}, x < 4294967296 → cN k x = 0 → x = 0
  | 0, _, _, h0 => h0
  | k + 1, _, h, h0 => c1_zero_of h (cN_zero_of k (c1_lt h) h0)

theorem cN_inj (k : Nat) {x y : Nat} (hx : x < 4294967296) (hy : y < 4294967296) (h : cN k x = cN k y) : x = y := by
  refine xor_zero_eq (cN_zero_of k (Nat.xor_lt_two_pow (n := 32) hx hy) ?_)
  rw [cN_xor, h, Nat.xor_self]

theorem cN_add : ∀ (j k x : Nat), cN (j + k) x = cN k (cN j x)
  | 0, k, x => by rw [Nat.zero_add]; rfl
  | j + 1, k, x => by rw [show j + 1 + k = (j + k) + 1 by omega]; simp only [cN]; exact cN_add j k _

theorem cN_shift : ∀ (k x : Nat), cN k (x * 2 ^ k) = x
  | 0, x => by simp [cN]
  | k + 1, x => by
    simp only [cN]
    rw [Nat.pow_succ, Nat.mul_comm (2 ^ k) 2, ← Nat.mul_assoc, Nat.mul_comm x 2, Nat.mul_assoc, c1_double]
    exact cN_shift k x

theorem cstep_lt {c b : Nat} (hc : c < 4294967296) (hb : b < 4294967296) : cstep c b < 4294967296 := cN_lt 8 (Nat.xor_lt_two_pow (n := 32) hc hb)

theorem cfold_lt : ∀ (l : List UInt8) {c : Nat}, c < 4294967296 → cfold c l < 4294967296
  | [], _, h => h
  | b :: l, _, h => cfold_lt l (cstep_lt h (by have := b.toNat_lt; omega))

theorem cfold_nil (c : Nat) : cfold c [] = c := rfl
theorem cfold_cons (c : Nat) (b : UInt8) (l : List UInt8) : cfold c (b :: l) = cfold (cstep c b.toNat) l := rfl
theorem cfold_append (c : Nat) (a b : List UInt8) : cfold c (a ++ b) = cfold (cfold c a) b := by unfold cfold; exact List.foldl_append

theorem csum_lt (l : List UInt8) : csum l < 4294967296 := Nat.xor_lt_two_pow (n := 32) (cfold_lt l (by decide)) (by decide)

/-- The register goes by XOR. -/
theorem cfold_xor_reg : ∀ (l : List UInt8) (c d : Nat), cfold (c ^^^ d) l = cfold c l ^^^ cN (8 * l.length) d
  | [], c, d => by simp [cfold, cN]
  | b :: l, c, d => by
    rw [cfold_cons, cfold_cons]
    have e : cstep (c ^^^ d) b.toNat = cstep c b.toNat ^^^ cN 8 d := by
      unfold cstep
      rw [← cN_xor, Nat.xor_assoc, Nat.xor_comm d, ← Nat.xor_assoc]
    rw [e, cfold_xor_reg l, List.length_cons, show 8 * (l.length + 1) = 8 + 8 * l.length by omega, cN_add]

/-- One byte that is changed. -/
theorem cfold_set : ∀ (l : List UInt8) (c j : Nat) (m : UInt8) (h : j < l.length), cfold c (l.set j (l[j] ^^^ m)) = cfold c l ^^^ cN (8 * (l.length - j)) m.toNat
  | [], _, _, _, h => by simp at h
  | b :: l, c, 0, m, _ => by
    simp only [List.set_cons_zero, List.getElem_cons_zero, List.length_cons, Nat.sub_zero]
    rw [cfold_cons, cfold_cons, UInt8.toNat_xor]
    have e : cstep c (b.toNat ^^^ m.toNat) = cstep c b.toNat ^^^ cN 8 m.toNat := by
      unfold cstep
      rw [← Nat.xor_assoc, cN_xor]
    rw [e, cfold_xor_reg, show 8 * (l.length + 1) = 8 + 8 * l.length by omega, cN_add]
  | b :: l, c, j + 1, m, h => by
    simp only [List.length_cons] at h
    simp only [List.set_cons_succ, List.getElem_cons_succ, List.length_cons]
    rw [cfold_cons, cfold_cons, cfold_set l _ j m (by omega), show l.length + 1 - (j + 1) = l.length - j by omega]

/-- The sums of two texts of one length. -/
theorem cfold_zip : ∀ (a b : List UInt8) (c d : Nat), a.length = b.length → cfold c a ^^^ cfold d b = cfold (c ^^^ d) (List.zipWith (· ^^^ ·) a b)
  | [], [], c, d, _ => rfl
  | x :: a, y :: b, c, d, h => by
    simp only [List.length_cons, Nat.add_right_cancel_iff] at h
    simp only [List.zipWith_cons_cons]
    rw [cfold_cons, cfold_cons, cfold_cons, cfold_zip a b _ _ h, UInt8.toNat_xor]
    have e : cstep c x.toNat ^^^ cstep d y.toNat = cstep (c ^^^ d) (x.toNat ^^^ y.toNat) := by
      unfold cstep
      rw [← cN_xor]
      congr 1
      rw [Nat.xor_assoc, ← Nat.xor_assoc x.toNat, Nat.xor_comm x.toNat d, Nat.xor_assoc d, ← Nat.xor_assoc c]
    rw [e]
  | [], _ :: _, _, _, h => by simp at h
  | _ :: _, [], _, _, h => by simp at h

theorem split8 (v : Nat) : v = v % 256 ^^^ v / 256 * 256 := by
  have h1 : v % 256 < 2 ^ 8 := by omega
  have h2 := Nat.two_pow_add_eq_or_of_lt h1 (v / 256)
  apply Nat.eq_of_testBit_eq
  intro i
  rw [Nat.testBit_xor, show (256 : Nat) = 2 ^ 8 from rfl, Nat.testBit_mod_two_pow, Nat.testBit_mul_two_pow, Nat.testBit_div_two_pow]
  by_cases h : i < 8
  · simp [h, show ¬ 8 ≤ i by omega]
  · simp [h, show 8 ≤ i by omega]

/-- Eight bits of a register into which a word is put. -/
theorem cN8_word (c v : Nat) : cN 8 (c ^^^ v) = cstep c (v % 256) ^^^ v / 256 := by
  conv => lhs; rw [split8 v, ← Nat.xor_assoc, cN_xor]
  rw [show (256 : Nat) = 2 ^ 8 from rfl, cN_shift]
  rfl

theorem low4_fold (c v : Nat) (hv : v < 4294967296) : cfold c (low4 v) = cN 32 (c ^^^ v) := by
  rw [show (32 : Nat) = 8 + (8 + (8 + 8)) from rfl, cN_add, cN8_word, cN_add, cN8_word, cN_add, cN8_word, cN8_word]
  simp only [low4, cfold_cons, cfold_nil]
  rw [u8of_toNat (by omega), u8of_toNat (by omega), u8of_toNat (by omega), u8of_toNat (by omega)]
  rw [show v / 256 / 256 = v / 65536 by omega, show v / 65536 / 256 = v / 16777216 by omega, show v / 16777216 / 256 = 0 by omega, Nat.xor_zero]

/-- Any four bytes are those of a word. -/
theorem low4_of (l : List UInt8) (h : l.length = 4) : ∃ v, v < 4294967296 ∧ l = low4 v := by
  match l, h with
  | [a, b, c, d], _ =>
    have ha := a.toNat_lt
    have hb := b.toNat_lt
    have hc := c.toNat_lt
    have hd := d.toNat_lt
    refine ⟨a.toNat + 256 * (b.toNat + 256 * (c.toNat + 256 * d.toNat)), by omega, ?_⟩
    simp only [low4]
    rw [show (a.toNat + 256 * (b.toNat + 256 * (c.toNat + 256 * d.toNat))) % 256 = a.toNat by omega,
      show (a.toNat + 256 * (b.toNat + 256 * (c.toNat + 256 * d.toNat))) / 256 % 256 = b.toNat by omega,
      show (a.toNat + 256 * (b.toNat + 256 * (c.toNat + 256 * d.toNat))) / 65536 % 256 = c.toNat by omega,
      show (a.toNat + 256 * (b.toNat + 256 * (c.toNat + 256 * d.toNat))) / 16777216 % 256 = d.toNat by omega]
    simp only [u8of_of_toNat]

/-- What a sealed text's register comes to. -/
def cK : Nat := cN 32 4294967295

theorem cseal_fold (s : List UInt8) : cfold 4294967295 (cseal s) = cK := by
  unfold cseal cK
  rw [cfold_append, low4_fold _ _ (csum_lt s)]
  congr 1
  unfold csum
  rw [← Nat.xor_assoc, Nat.xor_self, Nat.zero_xor]

theorem copen_of (t : List UInt8) (h : 4 ≤ t.length) (hk : cfold 4294967295 t = cK) : t.drop (t.length - 4) = low4 (csum (t.take (t.length - 4))) := by
  obtain ⟨v, hv, hd⟩ := low4_of (t.drop (t.length - 4)) (by simp; omega)
  rw [hd]
  have hk2 : cN 32 (cfold 4294967295 (t.take (t.length - 4)) ^^^ v) = cN 32 4294967295 := by
    rw [← low4_fold _ _ hv, ← hd, ← cfold_append, List.take_append_drop]
    exact hk
  have hc := cfold_lt (t.take (t.length - 4)) (show 4294967295 < 4294967296 by decide)
  have h1 := cN_inj 32 (Nat.xor_lt_two_pow (n := 32) hc hv) (show 4294967295 < 4294967296 by decide) hk2
  have h2 : v = csum (t.take (t.length - 4)) := by
    unfold csum
    conv => rhs; rhs; rw [← h1]
    rw [← Nat.xor_assoc, Nat.xor_self, Nat.zero_xor]
  rw [← h2]

theorem copen_seal (s : List UInt8) : copen (cseal s) = (s, 0) := by
  have hl : (cseal s).length = s.length + 4 := by simp [cseal, low4]
  unfold copen
  rw [if_neg (by omega), hl, Nat.add_sub_cancel]
  have e1 : (cseal s).take s.length = s := by simp [cseal]
  have e2 : (cseal s).drop s.length = low4 (csum s) := by simp [cseal]
  rw [e1, e2, if_pos rfl]

theorem copen_ok {t s : List UInt8} (h : copen t = (s, 0)) : cseal s = t := by
  unfold copen at h
  split at h
  · simp at h
  · split at h
    · rename_i h4 hd
      simp only [Prod.mk.injEq, and_true] at h
      subst h
      unfold cseal
      rw [← hd, List.take_append_drop]
    · simp at h

theorem copen_bad {t : List UInt8} (h : (copen t).2 ≠ 0) : (copen t).1 = [] := by
  unfold copen at h ⊢
  split
  · rfl
  · split
    · rename_i h1 h2
      rw [if_neg h1, if_pos h2] at h
      exact absurd rfl h
    · rfl

theorem copen_spoilt {t : List UInt8} (h : 4 ≤ t.length) (hk : cfold 4294967295 t ≠ cK) : copen t = ([], 4) := by
  unfold copen
  rw [if_neg (by omega)]
  split
  · rename_i hd
    exfalso
    apply hk
    conv => lhs; rw [← List.take_append_drop (t.length - 4) t, hd]
    exact cseal_fold _
  · rfl

end Go.Proofs.Ythfkfonfiejbmaa
