/-
  TEXTS OF THE PROOF, one behind the other: VarPure, Kit, VarPut, VarGet, VarRget, VarTake, IdPure, ValPure.
-/
import Derived.WalkKit
import Derived.BigQuiet
import Derived.Lib.QuietBelow
import Derived.Test.YtekkofldhhdpgaaRows
import Derived.Deep.DeepMust
import Derived.Lib.Hide
import Derived.Lib.Bytealg
import Derived.Sort.Statements
import Derived.Shelf.SlSortCmp.Insertion
import Derived.Lib.SlicesCompact

section

/-
  PLAIN MATHEMATICS OF LAYER 1 (varint): numbers in sevens of bits, and how they are read. No program in sight.
-/
namespace Go.Proofs.Ytekkofldhhdpgaa

/-- A number's byte: a name that no rule of the walk takes apart. -/
def u8of (n : Nat) : UInt8 := UInt8.ofNat n

/-- The bytes of n, with fuel k. -/
def vputF : Nat → Nat → List UInt8
  | 0, n => [u8of n]
  | k + 1, n => if n < 128 then [u8of n] else u8of (n % 128 + 128) :: vputF k (n / 128)

/-- The bytes of n (below 2^64). -/
def vput (n : Nat) : List UInt8 := vputF 9 n

theorem vputF_lt {k n : Nat} (h : n < 128) : vputF k n = [u8of n] := by
  cases k <;> simp [vputF, h]

theorem vputF_succ : ∀ (k n : Nat), n < 128 ^ (k + 1) → vputF (k + 1) n = vputF k n
  | 0, n, h => by
    have h' : n < 128 := by simpa using h
    rw [vputF_lt h', vputF_lt h']
  | k + 1, n, h => by
    by_cases h1 : n < 128
    · rw [vputF_lt h1, vputF_lt h1]
    · rw [vputF, if_neg h1, vputF_succ k (n / 128) (by rw [Nat.pow_succ] at h; omega)]
      conv => rhs; rw [vputF, if_neg h1]

theorem vput_lt {n : Nat} (h : n < 128) : vput n = [u8of n] := vputF_lt h

theorem vput_ge {n : Nat} (h : 128 ≤ n) (hn : n < 18446744073709551616) : vput n = u8of (n % 128 + 128) :: vput (n / 128) := by
  unfold vput
  rw [vputF, if_neg (by omega), vputF_succ 8 (n / 128) (by simp; omega)]

theorem vputF_len_le : ∀ (k n : Nat), (vputF k n).length ≤ k + 1
  | 0, n => by simp [vputF]
  | k + 1, n => by
    unfold vputF
    split
    · simp
    · have := vputF_len_le k (n / 128)
      simp; omega

theorem vput_len_le (n : Nat) : (vput n).length ≤ 10 := vputF_len_le 9 n

theorem vputF_len_pos (k n : Nat) : 1 ≤ (vputF k n).length := by
  cases k with
  | zero => simp [vputF]
  | succ k => unfold vputF; split <;> simp

theorem vput_len_pos (n : Nat) : 1 ≤ (vput n).length := vputF_len_pos 9 n

/-- What stands at a list's head, as the byte of index i of a number: the number, how many bytes it takes, and the error (0, 2, 3). -/
def vgetF (i : Nat) : List UInt8 → Nat × Nat × Nat
  | [] => (0, 0, 2)
  | b :: r =>
    if i = 9 ∧ 1 < b.toNat then (0, 0, 3)
    else if b.toNat < 128 then (if b.toNat = 0 ∧ 0 < i then (0, 0, 3) else (b.toNat, 1, 0))
    else
      if (vgetF (i + 1) r).2.2 = 0 then (b.toNat % 128 + 128 * (vgetF (i + 1) r).1, (vgetF (i + 1) r).2.1 + 1, 0)
      else (0, 0, (vgetF (i + 1) r).2.2)

/-- The number at a place of bytes: number, place behind it, error. -/
def vget (s : List UInt8) (at' : Int) : Nat × Nat × Nat :=
  if at' < 0 ∨ (s.length : Int) < at' then (0, 0, 1)
  else
    if (vgetF 0 (s.drop at'.toNat)).2.2 = 0 then ((vgetF 0 (s.drop at'.toNat)).1, at'.toNat + (vgetF 0 (s.drop at'.toNat)).2.1, 0)
    else (0, 0, (vgetF 0 (s.drop at'.toNat)).2.2)

theorem vgetF_err (i : Nat) : ∀ l : List UInt8, (vgetF i l).2.2 = 0 ∨ vgetF i l = (0, 0, 2) ∨ vgetF i l = (0, 0, 3) := by
  intro l
  induction l generalizing i with
  | nil => simp [vgetF]
  | cons b r ih =>
    unfold vgetF
    split
    · simp
    · split
      · split <;> simp
      · rcases ih (i + 1) with h | h | h
        · rw [if_pos h]; simp
        · rw [h]; simp
        · rw [h]; simp

theorem vgetF_used (i : Nat) : ∀ l : List UInt8, (vgetF i l).2.2 = 0 → 1 ≤ (vgetF i l).2.1 ∧ (vgetF i l).2.1 ≤ l.length := by
  intro l
  induction l generalizing i with
  | nil => simp [vgetF]
  | cons b r ih =>
    unfold vgetF
    split
    · simp
    · split
      · split <;> simp
      · by_cases h : (vgetF (i + 1) r).2.2 = 0
        · have := ih (i + 1) h
          rw [if_pos h]; simp; omega
        · rw [if_neg h]; simp [h]

/-- The number that is read at index i is below 2^(64 - 7 i). -/
theorem vgetF_bound (i : Nat) (hi : i ≤ 9) : ∀ l : List UInt8, (vgetF i l).1 * 128 ^ i < 18446744073709551616 := by
  intro l
  induction l generalizing i with
  | nil => simp [vgetF]
  | cons b r ih =>
    have hb := b.toNat_lt
    unfold vgetF
    split
    · simp
    · rename_i h9
      split
      · rename_i hlt
        split
        · simp
        · simp only
          by_cases hi9 : i = 9
          · subst hi9
            have : b.toNat ≤ 1 := by omega
            have := Nat.mul_le_mul_right (128 ^ 9) this
            refine Nat.lt_of_le_of_lt this (by decide)
          · have h8 : i ≤ 8 := by omega
            have h1 : b.toNat ≤ 127 := by omega
            calc b.toNat * 128 ^ i ≤ 127 * 128 ^ 8 := Nat.mul_le_mul h1 (Nat.pow_le_pow_right (by decide) h8)
              _ < 18446744073709551616 := by decide
      · rename_i hge
        by_cases hi9 : i = 9
        · exact absurd ⟨hi9, by omega⟩ h9
        · have ih' := ih (i + 1) (by omega)
          split
          · simp only
            have hb2 : b.toNat % 128 ≤ 127 := by omega
            rw [Nat.pow_succ] at ih'
            obtain ⟨c, hc⟩ : ∃ c, 18446744073709551616 = c * (128 ^ i * 128) := by
              have hi8 : i = 0 ∨ i = 1 ∨ i = 2 ∨ i = 3 ∨ i = 4 ∨ i = 5 ∨ i = 6 ∨ i = 7 ∨ i = 8 := by omega
              rcases hi8 with rfl | rfl | rfl | rfl | rfl | rfl | rfl | rfl | rfl
              · exact ⟨2 ^ 57, by decide⟩
              · exact ⟨2 ^ 50, by decide⟩
              · exact ⟨2 ^ 43, by decide⟩
              · exact ⟨2 ^ 36, by decide⟩
              · exact ⟨2 ^ 29, by decide⟩
              · exact ⟨2 ^ 22, by decide⟩
              · exact ⟨2 ^ 15, by decide⟩
              · exact ⟨2 ^ 8, by decide⟩
              · exact ⟨2, by decide⟩
            rw [hc] at ih' ⊢
            have hlt := Nat.lt_of_mul_lt_mul_right ih'
            rw [Nat.mul_comm (128 ^ i) 128, ← Nat.mul_assoc]
            exact Nat.mul_lt_mul_of_pos_right (by omega) (Nat.pow_pos (by decide))
          · simp

theorem u8of_toNat {n : Nat} (h : n < 256) : (u8of n).toNat = n := by
  simp [u8of, UInt8.toNat_ofNat']; omega

theorem u8of_of_toNat (b : UInt8) : u8of b.toNat = b := by
  simp [u8of]

/-- What is put is got, whatever stands behind it. -/
theorem vgetF_vputF : ∀ (k n i : Nat) (r : List UInt8), i + k = 9 → n * 128 ^ i < 18446744073709551616 → (0 < i → 0 < n) →
    vgetF i (vputF k n ++ r) = (n, (vputF k n).length, 0)
  | 0, n, i, r, hk, hn, hp => by
    have hi : i = 9 := by omega
    subst hi
    have h1 : n ≤ 1 := by simp at hn; omega
    have ht : (u8of n).toNat = n := u8of_toNat (by omega)
    simp only [vputF, List.cons_append, List.nil_append, vgetF, ht]
    rw [if_neg (by omega), if_pos (by omega), if_neg (by omega)]
    simp
  | k + 1, n, i, r, hk, hn, hp => by
    by_cases h : n < 128
    · have ht : (u8of n).toNat = n := u8of_toNat (by omega)
      rw [vputF_lt h]
      simp only [List.cons_append, List.nil_append, vgetF, ht]
      rw [if_neg (by omega), if_pos (by omega), if_neg (by omega)]
      simp
    · have ht : (u8of (n % 128 + 128)).toNat = n % 128 + 128 := u8of_toNat (by omega)
      have ih := vgetF_vputF k (n / 128) (i + 1) r (by omega) (by
        refine Nat.lt_of_le_of_lt ?_ hn
        rw [Nat.pow_succ, Nat.mul_comm (128 ^ i) 128, ← Nat.mul_assoc]
        exact Nat.mul_le_mul_right _ (Nat.div_mul_le_self n 128)) (fun _ => by omega)
      rw [vputF, if_neg h]
      simp only [List.cons_append, vgetF, ht, ih]
      rw [if_neg (by omega), if_neg (by omega), if_pos trivial]
      simp
      omega

theorem vget_vput (n : Nat) (hn : n < 18446744073709551616) (a r : List UInt8) :
    vget (a ++ (vput n ++ r)) (a.length : Int) = (n, a.length + (vput n).length, 0) := by
  unfold vget vput
  rw [if_neg (by simp; omega)]
  have e : List.drop ((a.length : Int)).toNat (a ++ (vputF 9 n ++ r)) = vputF 9 n ++ r := by simp
  rw [e, vgetF_vputF 9 n 0 r rfl (by simpa using hn) (by simp)]
  simp

/-- What is got is what was put, byte by byte. -/
theorem vputF_vgetF : ∀ (l : List UInt8) (k i : Nat), i + k = 9 → (vgetF i l).2.2 = 0 → vputF k (vgetF i l).1 = l.take (vgetF i l).2.1 ∧ (0 < i → 0 < (vgetF i l).1)
  | [], k, i, hk, h => by simp [vgetF] at h
  | b :: r, k, i, hk, h => by
    have hb := b.toNat_lt
    unfold vgetF at h ⊢
    by_cases h9 : i = 9 ∧ 1 < b.toNat
    · rw [if_pos h9] at h; simp at h
    · rw [if_neg h9] at h ⊢
      by_cases hlt : b.toNat < 128
      · rw [if_pos hlt] at h ⊢
        by_cases h0 : b.toNat = 0 ∧ 0 < i
        · rw [if_pos h0] at h; simp at h
        · rw [if_neg h0]
          simp only
          rw [vputF_lt hlt, u8of_of_toNat]
          exact ⟨by simp, fun _ => by omega⟩
      · rw [if_neg hlt] at h ⊢
        by_cases he : (vgetF (i + 1) r).2.2 = 0
        · rw [if_pos he]
          cases k with
          | zero => exact absurd ⟨by omega, by omega⟩ h9
          | succ k =>
            have ih := vputF_vgetF r k (i + 1) (by omega) he
            have hp := ih.2 (by omega)
            simp only
            have hge : ¬ b.toNat % 128 + 128 * (vgetF (i + 1) r).1 < 128 := by omega
            rw [vputF, if_neg hge]
            have e1 : (b.toNat % 128 + 128 * (vgetF (i + 1) r).1) % 128 + 128 = b.toNat := by omega
            have e2 : (b.toNat % 128 + 128 * (vgetF (i + 1) r).1) / 128 = (vgetF (i + 1) r).1 := by omega
            rw [e1, e2, ih.1, u8of_of_toNat]
            exact ⟨by simp, fun _ => by omega⟩
        · rw [if_neg he] at h; exact absurd h he

/-- What is read so far, and what is still to be read, put together. -/
def comb (i acc : Nat) (r : Nat × Nat × Nat) : Nat × Nat × Nat := if r.2.2 = 0 then (acc + 128 ^ i * r.1, i + r.2.1, 0) else (0, 0, r.2.2)

/-- Where a reading of the number at q stands: byte i, at p; so far: acc. -/
def GetAt (l : List UInt8) (q i acc p sh : Nat) : Prop := acc < 128 ^ i ∧ p = q + i ∧ sh = 7 * i ∧ comb i acc (vgetF i (l.drop p)) = vgetF 0 (l.drop q)

theorem getAt_start (l : List UInt8) (q : Nat) : GetAt l q 0 0 q 0 := by
  refine ⟨by simp, rfl, rfl, ?_⟩
  unfold comb
  rcases vgetF_err 0 (l.drop q) with h | h | h
  · rw [if_pos h]
    exact Prod.ext (by simp) (Prod.ext (by simp) h.symm)
  · rw [h]; simp
  · rw [h]; simp

theorem vget_in {l : List UInt8} {q : Nat} (hq : q ≤ l.length) {r : Nat × Nat × Nat} (h : vgetF 0 (l.drop q) = r) :
    vget l q = if r.2.2 = 0 then (r.1, q + r.2.1, 0) else (0, 0, r.2.2) := by
  unfold vget
  rw [if_neg (by omega)]
  simp only [Int.toNat_natCast, h]

theorem getAt_end {l : List UInt8} {q i acc p sh : Nat} (h : GetAt l q i acc p sh) (hq : q ≤ l.length) (hp : p = l.length) : vget l q = (0, 0, 2) := by
  have e : vgetF 0 (l.drop q) = (0, 0, 2) := by
    rw [← h.2.2.2, hp]
    simp [vgetF, comb]
  rw [vget_in hq e]
  simp

theorem drop_at {l : List UInt8} {p : Nat} {b : UInt8} (hb : l[p]? = some b) : l.drop p = b :: l.drop (p + 1) := by
  obtain ⟨h, hb'⟩ := List.getElem?_eq_some_iff.1 hb
  rw [List.drop_eq_getElem_cons h, hb']

theorem getAt_form {l : List UInt8} {q i acc p sh : Nat} {b : UInt8} (h : GetAt l q i acc p sh) (hq : q ≤ l.length) (hb : l[p]? = some b)
    (hc : (i = 9 ∧ 1 < b.toNat) ∨ (b.toNat < 128 ∧ b.toNat = 0 ∧ 0 < i)) : vget l q = (0, 0, 3) := by
  have e : vgetF 0 (l.drop q) = (0, 0, 3) := by
    rw [← h.2.2.2, drop_at hb]
    unfold vgetF
    rcases hc with h1 | ⟨h1, h2⟩
    · rw [if_pos h1]; simp [comb]
    · by_cases h3 : i = 9 ∧ 1 < b.toNat
      · rw [if_pos h3]; simp [comb]
      · rw [if_neg h3, if_pos h1, if_pos h2]; simp [comb]
  rw [vget_in hq e]
  simp

theorem getAt_last {l : List UInt8} {q i acc p sh : Nat} {b : UInt8} (h : GetAt l q i acc p sh) (hq : q ≤ l.length) (hb : l[p]? = some b)
    (h1 : ¬ (i = 9 ∧ 1 < b.toNat)) (h2 : b.toNat < 128) (h3 : ¬ (b.toNat = 0 ∧ 0 < i)) : vget l q = (acc + b.toNat % 128 * 128 ^ i, p + 1, 0) := by
  have e : vgetF 0 (l.drop q) = (acc + b.toNat % 128 * 128 ^ i, i + 1, 0) := by
    rw [← h.2.2.2, drop_at hb]
    unfold vgetF
    rw [if_neg h1, if_pos h2, if_neg h3]
    simp only [comb, if_pos]
    rw [Nat.mod_eq_of_lt h2, Nat.mul_comm]
  rw [vget_in hq e]
  have := h.2.1
  simp
  omega

theorem getAt_next {l : List UInt8} {q i acc p sh : Nat} {b : UInt8} (h : GetAt l q i acc p sh) (hb : l[p]? = some b)
    (h1 : ¬ (i = 9 ∧ 1 < b.toNat)) (h2 : ¬ b.toNat < 128) : GetAt l q (i + 1) (acc + b.toNat % 128 * 128 ^ i) (p + 1) (sh + 7) := by
  obtain ⟨ha, hp, hs, hc⟩ := h
  refine ⟨?_, by omega, by omega, ?_⟩
  · have : b.toNat % 128 * 128 ^ i ≤ 127 * 128 ^ i := Nat.mul_le_mul_right _ (by omega)
    rw [Nat.pow_succ]
    omega
  · rw [← hc, drop_at hb]
    conv => rhs; unfold vgetF
    rw [if_neg h1, if_neg h2]
    unfold comb
    by_cases he : (vgetF (i + 1) (l.drop (p + 1))).2.2 = 0
    · simp only [if_pos he]
      simp only [if_true]
      refine Prod.ext ?_ (Prod.ext ?_ rfl)
      · show acc + b.toNat % 128 * 128 ^ i + 128 ^ (i + 1) * _ = acc + 128 ^ i * (b.toNat % 128 + 128 * _)
        rw [Nat.pow_succ, Nat.mul_add, Nat.mul_comm (128 ^ i) (b.toNat % 128), Nat.mul_assoc, Nat.add_assoc]
      · show i + 1 + _ = i + (_ + 1)
        omega
    · simp only [if_neg he]

/-- The text behind its length, at a place of bytes: text, place behind it, error. -/
def vtake (l : List UInt8) (p most : Int) : List UInt8 × Nat × Nat :=
  if (vget l p).2.2 ≠ 0 then ([], 0, (vget l p).2.2)
  else if most < 0 ∨ most < ((vget l p).1 : Int) then ([], 0, 3)
  else if l.length - (vget l p).2.1 < (vget l p).1 then ([], 0, 2)
  else ((l.drop (vget l p).2.1).take (vget l p).1, (vget l p).2.1 + (vget l p).1, 0)

theorem vget_facts {l : List UInt8} {p : Int} {n f er : Nat} (h : vget l p = (n, f, er)) :
    n < 18446744073709551616 ∧ f ≤ l.length ∧ (er = 0 → 0 ≤ p ∧ p.toNat < f) := by
  unfold vget at h
  by_cases h1 : p < 0 ∨ (l.length : Int) < p
  · rw [if_pos h1] at h
    simp only [Prod.mk.injEq] at h
    omega
  · rw [if_neg h1] at h
    have hb := vgetF_bound 0 (by omega) (l.drop p.toNat)
    by_cases h2 : (vgetF 0 (l.drop p.toNat)).2.2 = 0
    · rw [if_pos h2] at h
      have hu := vgetF_used 0 (l.drop p.toNat) h2
      simp only [Prod.mk.injEq] at h
      simp only [List.length_drop] at hu
      simp only [Nat.pow_zero, Nat.mul_one] at hb
      omega
    · rw [if_neg h2] at h
      simp only [Prod.mk.injEq] at h
      omega

/-- Numbers, one behind the other. -/
def vflat (l : List Nat) : List UInt8 := (l.map vput).flatten

/-- A text behind its length, as it stands within others, is taken. -/
theorem vtake_text (a t r : List UInt8) (most : Int) (ht : t.length < 18446744073709551616) (hm : (t.length : Int) ≤ most) :
    vtake (a ++ (vput t.length ++ t ++ r)) (a.length : Int) most = (t, a.length + (vput t.length).length + t.length, 0) := by
  unfold vtake
  rw [List.append_assoc, vget_vput _ ht]
  simp only [ne_eq, not_true_eq_false, if_false]
  rw [if_neg (by omega), if_neg (by simp; omega)]
  have e : List.drop (a.length + (vput t.length).length) (a ++ (vput t.length ++ (t ++ r))) = t ++ r := by
    rw [← List.append_assoc a]
    rw [List.drop_append_of_le_length (by simp)]
    rw [List.drop_of_length_le (by simp)]
    simp
  rw [e]
  simp

/-- Texts behind their lengths, one behind the other. -/
def tflat (l : List (List UInt8)) : List UInt8 := (l.map fun t => vput t.length ++ t).flatten

end Go.Proofs.Ytekkofldhhdpgaa

end

section

/-
  SMALL LAWS OVER ANY PROGRAM, for the walks of this seat: bytes as cells' values, and a text made of a row of bytes that the call owns.
-/
namespace Go.Proofs.Ytekkofldhhdpgaa
open Go.RowKit

/-- Bytes as the values of cells. -/
def bvals (l : List UInt8) : List Value := l.map fun b => .int .u8 b.toNat

theorem ret_int {k : IntKind} {a b : Int} (h : a = b) : Ending.returned (.int k a) = .returned (.int k b) := by rw [h]

theorem bvals_append (a b : List UInt8) : bvals (a ++ b) = bvals a ++ bvals b := by simp [bvals]
theorem strOfNums_bytes (xs : List UInt8) : strOfNums (xs.map fun b => (b.toNat : Int)) = ⟨xs.toArray⟩ := by
  have h : xs.map ((fun n : Int => UInt8.ofNat n.toNat) ∘ fun b : UInt8 => (b.toNat : Int)) = xs.map id := List.map_congr_left fun b _ => by simp
  simp only [strOfNums, List.map_map]
  rw [h, List.map_id]

/-- string(b), b a row of bytes of the call's own, or nil. -/
theorem run_convert_owned {P : Program} {w : World} (src e dst : TypeId) (hs : P.underlying src = some (.slice e)) (he : P.underlying e = some (.int .u8)) (hd : P.underlying dst = some .string)
    {base n : Nat} {v : Value} {xs : List UInt8} (h : w.ownsRow base e 1 v n (bvals xs)) :
    (convert src dst v).run P w = .ok (.string ⟨xs.toArray⟩) w := by
  rcases h with ⟨hl, ⟨rfl, rfl⟩ | ⟨g, cap, cur, rfl, hb, hg, hn, hc, hsz, htk⟩⟩
  · have hx : xs = [] := by simpa [bvals] using hl
    subst hx
    rw [run_convert_bytes_nil w src e hs he 0 0 dst hd]
    rfl
  · have hlen : xs.length = n := by simpa [bvals] using hl
    rw [← strOfNums_bytes]
    refine run_convert_bytes_arg w src e hs he g 0 n cap (xs.map fun b => (b.toNat : Int)) (by simpa using hlen) (fun i hi => ?_) dst hd
    rw [Nat.zero_add, cell_of_row w g i cur e (0, 0) hg]
    have h1 : cur.toList[i]? = (bvals xs)[i]? := by
      rw [← htk, List.getElem?_take, if_pos (by omega)]
    have h2 : (bvals xs)[i]? = some (.int .u8 ((xs.map fun b => (b.toNat : Int)).getD i 0)) := by
      have : i < xs.length := by omega
      simp [bvals, List.getD, List.getElem?_eq_getElem this]
    rw [← h2, ← h1]
    simp

theorem cells_one (w : World) (u : Value) (e : TypeId) : ∀ j x, [u][j]? = some x → (w.alloc (.cells #[u] e)).cell? ((⟨w.heap.size, 0, none⟩ : Addr).add j) = some x := by
  intro j x hj
  match j, hj with
  | 0, hj =>
    simp at hj
    subst hj
    simp [Addr.add]

/-- 'out = append(out, u)', out nil or a row of the call's own, u of one cell: what is owned is longer by u, and below 'base' nothing has turned. -/
theorem wpList_append_one {P : Program} {w : World} {ops : Array Oper} {rest : List Oper} {o : Oper} {a : Act} {Q : Exit → Act → World → Prop} (u : Value)
    (hgd : o.guard = none) (s x : Operand) (t : TypeId) (ho : o.op = .call { callee := .builtin .append, args := #[s, x], argTypes := #[t, t] })
    (base : Nat) (e : TypeId) (i : TypeInfo) (z : Value) (bytes : Nat) (ht : P.underlying t = some (.slice e)) (hi : P.info? e = some i) (hz : i.zero = some z)
    (hsize : i.size = 1) (hby : i.bytes = bytes) (hzs : z.cells.size = 1)
    (v : Value) (n : Nat) (xs : List Value) (hs : a.eval s = v) (hown : w.ownsRow base e 1 v n xs)
    (hx : a.eval x = .slice (some ⟨w.heap.size, 0, none⟩) 1 1) (h1 : u.oneCell' = true)
    (hbytes : n < 4294967296) (hb : bytes ≤ 4096) (hbase : base ≤ w.heap.size)
    (h : ∀ v' w', w'.ownsRow base e 1 v' (n + 1) (xs ++ [u]) → Below base w w' → wpList P ops Q rest (a.put o.dst v') w') :
    wpList P ops Q (o :: rest) a (w.alloc (.cells #[u] e)) := by
  refine wpList_append_own _ hgd s x t ho base e i z 1 bytes ht hi hz hsize hby hzs (by decide) v n xs hs (hown.alloc _) ⟨w.heap.size, 0, none⟩ 1 1 [u] hx rfl (cells_one w u e) (by simpa using h1)
    (by unfold maxLen; omega) (Nat.le_trans (Nat.mul_le_mul (show n + 1 ≤ 4294967296 by omega) hb) (by decide)) (by simp; omega) ?_
  intro v' w' hown' hgrow _
  refine h v' w' hown' (((Below.refl base w).alloc hbase _).grown hgrow (by simp; omega) (fun k hk => (hown.lt k hk).1))

/-- The same for a byte, whatever the walk calls the number. -/
theorem wpList_append_u8 {P : Program} {w : World} {ops : Array Oper} {rest : List Oper} {o : Oper} {a : Act} {Q : Exit → Act → World → Prop} (Y : Int) (y : Nat) (hY : Y = (y : Int)) (hy : y < 256)
    (hgd : o.guard = none) (s x : Operand) (t : TypeId) (ho : o.op = .call { callee := .builtin .append, args := #[s, x], argTypes := #[t, t] })
    (base : Nat) (e : TypeId) (i : TypeInfo) (ht : P.underlying t = some (.slice e)) (hi : P.info? e = some i) (hz : i.zero = some (.int .u8 0))
    (hsize : i.size = 1) (hby : i.bytes = 1)
    (v : Value) (xs : List UInt8) (hs : a.eval s = v) (hown : w.ownsRow base e 1 v xs.length (bvals xs))
    (hx : a.eval x = .slice (some ⟨w.heap.size, 0, none⟩) 1 1) (hlen : xs.length < 4294967296) (hbase : base ≤ w.heap.size)
    (h : ∀ v' w', w'.ownsRow base e 1 v' (xs ++ [u8of y]).length (bvals (xs ++ [u8of y])) → Below base w w' → wpList P ops Q rest (a.put o.dst v') w') :
    wpList P ops Q (o :: rest) a (w.alloc (.cells #[.int .u8 Y] e)) := by
  subst hY
  have e1 : bvals (xs ++ [u8of y]) = bvals xs ++ [.int .u8 (y : Int)] := by
    rw [bvals_append]
    have : (u8of y).toNat = y := u8of_toNat hy
    simp [bvals, this]
  refine wpList_append_one (.int .u8 (y : Int)) hgd s x t ho base e i (.int .u8 0) 1 ht hi hz hsize hby rfl v xs.length (bvals xs) hs hown hx rfl hlen (by decide) hbase ?_
  intro v' w' hown' hb
  refine h v' w' ?_ hb
  rw [e1]
  simpa using hown'

theorem or128 (x : Nat) : bits .or .u8 ((x : Int) % 256) 128 = ((x % 128 + 128 : Nat) : Int) := by
  have h1 : (x : Int) % 256 = ((x % 256 : Nat) : Int) := by omega
  rw [h1, show (128 : Int) = ((128 : Nat) : Int) from rfl, u8_or_nat _ _ (by omega) (by omega)]
  congr 1
  rw [Nat.or_comm]
  have e : x % 256 = 128 * (x / 128 % 2) + x % 128 := by omega
  have h2 : x / 128 % 2 = 0 ∨ x / 128 % 2 = 1 := by omega
  have h3 : x % 128 < 2 ^ 7 := by omega
  have h4 : 128 + x % 128 = 128 ||| x % 128 := Nat.two_pow_add_eq_or_of_lt (i := 7) h3 1
  rcases h2 with h | h
  · rw [e, h, Nat.mul_zero, Nat.zero_add, ← h4]
    omega
  · rw [e, h, Nat.mul_one, h4, ← Nat.or_assoc, Nat.or_self, ← h4]
    omega

theorem andNot128 (b : Nat) (h : b < 256) : bits .andNot .u8 (b : Int) 128 = ((b % 128 : Nat) : Int) := by
  rw [show (128 : Int) = ((128 : Nat) : Int) from rfl, u8_andNot_nat _ _ h (by omega)]
  congr 1
  exact Nat.and_two_pow_sub_one_eq_mod b 7

theorem and128 (b : Nat) (h : b < 256) : bits .and .u8 (b : Int) 128 = ((b / 128 % 2 * 128 : Nat) : Int) := by
  rw [show (128 : Int) = ((128 : Nat) : Int) from rfl, u8_and_nat _ _ h (by omega)]
  congr 1
  exact nat_bit 7 b

theorem and128_yes {b : Nat} (h : b < 256) (h' : ¬ b < 128) : (bits .and .u8 (b : Int) 128 != 0) = true := by
  rw [and128 b h, show b / 128 % 2 = 1 by omega]; rfl

theorem and128_no {b : Nat} (h : b < 256) (h' : b < 128) : (bits .and .u8 (b : Int) 128 != 0) = false := by
  rw [and128 b h, show b / 128 % 2 = 0 by omega]; rfl

theorem pow7 (i : Nat) : 2 ^ (7 * i) = 128 ^ i := by rw [Nat.pow_mul]

theorem pow_split (i : Nat) (h : i ≤ 8) : ∃ c, 18446744073709551616 = c * (128 ^ i * 128) := by
  have hi8 : i = 0 ∨ i = 1 ∨ i = 2 ∨ i = 3 ∨ i = 4 ∨ i = 5 ∨ i = 6 ∨ i = 7 ∨ i = 8 := by omega
  rcases hi8 with rfl | rfl | rfl | rfl | rfl | rfl | rfl | rfl | rfl
  · exact ⟨2 ^ 57, by decide⟩
  · exact ⟨2 ^ 50, by decide⟩
  · exact ⟨2 ^ 43, by decide⟩
  · exact ⟨2 ^ 36, by decide⟩
  · exact ⟨2 ^ 29, by decide⟩
  · exact ⟨2 ^ 22, by decide⟩
  · exact ⟨2 ^ 15, by decide⟩
  · exact ⟨2 ^ 8, by decide⟩
  · exact ⟨2, by decide⟩

theorem sum_lt (acc x i : Nat) (ha : acc < 128 ^ i) (hx : x < 128) (hi : i ≤ 9) (h9 : i = 9 → x ≤ 1) : acc + x * 128 ^ i < 18446744073709551616 := by
  by_cases h : i = 9
  · subst h
    have := h9 rfl
    have h2 : x * 128 ^ 9 ≤ 1 * 128 ^ 9 := Nat.mul_le_mul_right _ this
    have h3 : 1 * 128 ^ 9 = 9223372036854775808 := by decide
    have h4 : 128 ^ 9 = 9223372036854775808 := by decide
    omega
  · obtain ⟨c, hc⟩ := pow_split i (by omega)
    rw [hc]
    have hc0 : 0 < c := by
      rcases Nat.eq_zero_or_pos c with h0 | h0
      · subst h0; simp at hc
      · exact h0
    have h1 : (x + 1) * 128 ^ i ≤ 128 ^ i * 128 := by rw [Nat.mul_comm (128 ^ i) 128]; exact Nat.mul_le_mul_right _ (by omega)
    have h2 : 128 ^ i * 128 ≤ c * (128 ^ i * 128) := Nat.le_mul_of_pos_left _ hc0
    rw [Nat.add_mul] at h1
    omega

theorem orShift (acc x i sh : Nat) (hs : sh = 7 * i) (ha : acc < 128 ^ i) (hx : x < 128) (hi : i ≤ 9) (h9 : i = 9 → x ≤ 1) :
    bits .or .u64 (acc : Int) (IntKind.u64.wrap (IntKind.u64.wrap (x : Int) * 2 ^ min sh 64)) = ((acc + x * 128 ^ i : Nat) : Int) := by
  have hlt := sum_lt acc x i ha hx hi h9
  subst hs
  have e0 : min (7 * i) 64 = 7 * i := by omega
  have e1 : IntKind.u64.wrap (x : Int) = (x : Int) := by rw [IntKind.wrap_u64]; omega
  have e2 : (2 : Int) ^ (7 * i) = ((128 ^ i : Nat) : Int) := by rw [← pow7]; exact (Int.natCast_pow 2 (7 * i)).symm
  rw [e0, e1, e2, ← Int.natCast_mul]
  have e3 : IntKind.u64.wrap ((x * 128 ^ i : Nat) : Int) = ((x * 128 ^ i : Nat) : Int) := by rw [IntKind.wrap_u64]; omega
  rw [e3, u64_or_nat _ _ (by omega) (by omega), Nat.or_comm, nat_join (7 * i) _ _ (by rw [pow7]; exact Nat.mul_mod_left _ _) (by rw [pow7]; exact ha), Nat.add_comm]

theorem orShift' (acc x i sh : Nat) (hs : sh = 7 * i) (ha : acc < 128 ^ i) (hx : x < 128) (hi : i ≤ 9) (h9 : i = 9 → x ≤ 1) :
    bits .or .u64 (acc : Int) (IntKind.u64.wrap (IntKind.u64.wrap (x : Int) * 2 ^ sh)) = ((acc + x * 128 ^ i : Nat) : Int) := by
  have := orShift acc x i sh hs ha hx hi h9
  rwa [show min sh 64 = sh by omega] at this

theorem or0 (x : Nat) (hx : x < 128) : bits .or .u64 0 (x : Int) = (x : Int) := by
  rw [show (0 : Int) = ((0 : Nat) : Int) from rfl, u64_or_nat _ _ (by omega) (by omega), Nat.zero_or]

theorem bytes_at (l : List UInt8) (p : Nat) (h : p < (⟨l.toArray⟩ : ByteArray).size) : l[p]? = some ((⟨l.toArray⟩ : ByteArray)[p]'h) := by
  have h' : p < l.length := by
    have : (⟨l.toArray⟩ : ByteArray).size = l.length := by show l.toArray.size = _; simp
    omega
  rw [List.getElem?_eq_getElem h']
  rfl

theorem size_bytes (l : List UInt8) : (⟨l.toArray⟩ : ByteArray).size = l.length := by show l.toArray.size = _; simp

/-- s[i:j], s a text as a list of bytes, i and j whatever the walk calls them. -/
theorem run_slice_bytes {P : Program} (w : World) (t : TypeId) (l : List UInt8) (i j : Nat) (I J : Int) (hI : I = (i : Int)) (hJ : J = (j : Int)) (h : P.underlying t = some .string)
    (h1 : i ≤ j) (h2 : j ≤ l.length) :
    (Instr.slice t (.string ⟨l.toArray⟩) (some (.int .i64 I)) (some (.int .i64 J)) none).run P w = .ok (.string ⟨((l.drop i).take (j - i)).toArray⟩) w := by
  subst hI
  subst hJ
  rw [run_slice_string w t _ .i64 .i64 i j h (by omega) (by omega) (by rw [size_bytes]; omega), ByteArray.extract_mk]
  simp

/-- s[:j]. -/
theorem run_slice_bytes_to {P : Program} (w : World) (t : TypeId) (l : List UInt8) (j : Nat) (J : Int) (hJ : J = (j : Int)) (h : P.underlying t = some .string) (h2 : j ≤ l.length) :
    (Instr.slice t (.string ⟨l.toArray⟩) none (some (.int .i64 J)) none).run P w = .ok (.string ⟨(l.take j).toArray⟩) w := by
  subst hJ
  rw [run_slice_string_to_if w t _ .i64 j h, if_pos (by rw [size_bytes]; omega), ByteArray.extract_mk]
  simp

/-- s[i:]. -/
theorem run_slice_bytes_from {P : Program} (w : World) (t : TypeId) (l : List UInt8) (i : Nat) (I : Int) (hI : I = (i : Int)) (h : P.underlying t = some .string) (h2 : i ≤ l.length) :
    (Instr.slice t (.string ⟨l.toArray⟩) (some (.int .i64 I)) none none).run P w = .ok (.string ⟨(l.drop i).toArray⟩) w := by
  subst hI
  rw [run_slice_string_from_if w t _ .i64 i h, if_pos (by rw [size_bytes]; omega), ByteArray.extract_mk, size_bytes]
  simp only [Int.toNat_natCast]
  rw [List.take_of_length_le (by simp)]

theorem below3 {w a b c : World} (h1 : Below w.heap.size w a) (h2 : Below a.heap.size a b) (h3 : Below b.heap.size b c) : Below w.heap.size w c :=
  h1.trans ((h2.mono h1.size).trans (h3.mono (Nat.le_trans h1.size h2.size)))

theorem below2' {w a b : World} (h1 : Below w.heap.size w a) (h2 : Below a.heap.size a b) : Below w.heap.size w b := h1.trans (h2.mono h1.size)

/-- A contract that ends in 'Below', met inside a region that draws its order. -/
theorem rgB {P : Program} {f : FuncId} {args : Array Value} {v : Value} (h : ∀ w, Calls P f args w fun e w' => e = .returned v ∧ Below w.heap.size w w') (w : World) (d : Nat) (os : Array Obj) :
    Calls P f args (Sort.grow (redrawn w d) os) fun e w'' => e = .returned v ∧ ∃ p : Regrown, w'' = Sort.grow (redrawn w p.d) p.os := Calls.regrown_of (h _)

/-- .. one that leaves the world alone. -/
theorem rgS {P : Program} {f : FuncId} {args : Array Value} {v : Value} (h : ∀ w, Calls P f args w fun e w' => e = .returned v ∧ w = w') (w : World) (d : Nat) (os : Array Obj) :
    Calls P f args (Sort.grow (redrawn w d) os) fun e w'' => e = .returned v ∧ ∃ p : Regrown, w'' = Sort.grow (redrawn w p.d) p.os :=
  Calls.regrown_of ((h _).mono fun _ _ ⟨he, hw⟩ => ⟨he, hw ▸ Below.refl _ _⟩)

/-- A slice of integers that came in: nil, or a row of 'cap' cells, the numbers 'zs' (the first 'len' are its elements). -/
def IsRow (k : IntKind) (w : World) (a : Option Addr) (len cap : Nat) (zs : List Int) : Prop :=
  (a = none ∧ len = 0 ∧ cap = 0 ∧ zs = []) ∨
  ∃ x, a = some x ∧ len ≤ cap ∧ cap ≤ maxLen ∧ zs.length = cap ∧ (∀ i, i < zs.length → w.cell? (x.add i) = some (.int k (zs.getD i 0))) ∧ ∀ n ∈ zs, (Lit.int k n).wf = true

/-- A slice of texts that came in. -/
def IsStrs (w : World) (a : Option Addr) (len cap : Nat) (ss : List ByteArray) : Prop :=
  (a = none ∧ len = 0 ∧ cap = 0 ∧ ss = []) ∨
  ∃ x, a = some x ∧ len ≤ cap ∧ cap ≤ maxLen ∧ ss.length = cap ∧ (∀ i, i < ss.length → w.cell? (x.add i) = some (.string (ss.getD i ByteArray.empty))) ∧ ∀ s ∈ ss, s.size ≤ maxLen

/-- string(b), b a new block of bytes, all of it. -/
theorem run_convert_new {P : Program} (w : World) (src e dst : TypeId) (hs : P.underlying src = some (.slice e)) (he : P.underlying e = some (.int .u8)) (hd : P.underlying dst = some .string)
    (cs : Array Value) (xs : List UInt8) (h : cs = (bvals xs).toArray) (n : Nat) (hn : n = xs.length) (hm : n ≤ maxLen) :
    (convert src dst (.slice (some ⟨w.heap.size, 0, none⟩) n n)).run P (w.alloc (.cells cs e)) = .ok (.string ⟨xs.toArray⟩) (w.alloc (.cells cs e)) := by
  subst h
  subst hn
  refine run_convert_owned src e dst hs he hd (base := 0) (n := xs.length) (xs := xs) ⟨by simp [bvals], .inr ⟨w.heap.size, xs.length, (bvals xs).toArray, rfl, Nat.zero_le _, heap_alloc_new w _, Nat.le_refl _, hm, by simp [bvals], ?_⟩⟩
  simp only [Nat.mul_one]
  exact List.take_of_length_le (by simp [bvals])

end Go.Proofs.Ytekkofldhhdpgaa

end

section

/-
  THE CONTRACTS OF varint.Put, Size, Text AND OF THE DOCUMENT'S ANSWERS TO THEM: each returns what the plain mathematics says, and writes nothing that was there.
-/
namespace Go.Proofs.Ytekkofldhhdpgaa
open Go.RowKit

theorem Try.info5 : (Try.prog.info? 5).map (fun i => (i.zero, i.size, i.bytes)) = some (some (.int .u8 0), 1, 1) := by kernel_rfl

set_option maxHeartbeats 400000 in
set_option maxRecDepth 100000 in
theorem put_any (n : Nat) (hn : n < 18446744073709551616) (w : World) :
    Calls Try.prog 49 #[.int .u64 n] w fun e w' => e = .returned (.string ⟨(vput n).toArray⟩) ∧ Below w.heap.size w w' := by
  obtain ⟨i0, hi, hz0, hz1, hz2⟩ := info_parts Try.info5
  go_enter Try.func49, Try.ntmps49
  go_wp2
  go_loopw [0, 3] (fun i v wr => ∃ (m : Nat) (xs : List UInt8), m < 18446744073709551616 ∧ xs ++ vput m = vput n ∧ i = .int .u64 m ∧ wr.ownsRow w.heap.size 5 1 v xs.length (bvals xs) ∧ Below w.heap.size w wr)
    (fun i _ _ => (intOf i).toNat)
  case atStart => exact ⟨n, [], hn, rfl, rfl, World.ownsRow_nil _ _ _ _, Below.refl _ _⟩
  case round =>
    obtain ⟨m, xs, hm, hx, rfl, hown, hnx⟩ := hrel
    have hlen : xs.length ≤ 10 := by
      have h1 := congrArg List.length hx
      have h2 := vput_len_le n
      simp at h1; omega
    have hsz := hnx.size
    by_cases hlt : m < 128
    · have hv := vput_lt hlt
      go_wp2_with (at_builtin; go_must (refine wpList_append_u8 _ m rfl (by omega) rfl _ _ 54 rfl w.heap.size 5 i0 Try.underlying54 hi hz0 hz1 hz2 _ xs rfl (by exact hown) rfl (by omega) hsz ?_))
      intro v' w1 hown' hb
      have hc := run_convert_owned (P := Try.prog) 54 5 9 Try.underlying54 Try.underlying5 Try.underlying9 hown'
      go_wp2
      go_ret
      exact ⟨by rw [← hx, hv]; rfl, hnx.trans hb⟩
    · have hv := vput_ge (by omega) hm
      go_wp2_with (at_builtin; go_must (refine wpList_append_u8 _ (m % 128 + 128) (or128 m) (by omega) rfl _ _ 54 rfl w.heap.size 5 i0 Try.underlying54 hi hz0 hz1 hz2 _ xs rfl (by exact hown) rfl (by omega) hsz ?_))
      intro v' w1 hown' hb
      go_wp2
      go_roundw
      case rel => exact ⟨m / 128, xs ++ [u8of (m % 128 + 128)], by omega, by rw [← hx, hv]; simp, by go_num, by simpa using hown', hnx.trans hb⟩
      case measure => simp [intOf]; omega

set_option maxHeartbeats 400000 in
set_option maxRecDepth 100000 in
theorem text_any (l : List UInt8) (hl : l.length ≤ 4294967296) (w : World) :
    Calls Try.prog 78 #[.string ⟨l.toArray⟩] w fun e w' => e = .returned (.string ⟨(vput l.length ++ l).toArray⟩) ∧ Below w.heap.size w w' := by
  go_enter Try.func78, Try.ntmps78
  have hlen := vput_len_le l.length
  go_wp2_with (go_at_call 49; go_must (refine (put_any l.length (by omega) _).mono ?_); rintro e w' ⟨rfl, hb⟩)
  go_ret
  exact ⟨rfl, hb⟩

end Go.Proofs.Ytekkofldhhdpgaa

end

section

/-
  THE CONTRACTS OF varint.Get, Take AND OF THE DOCUMENT'S ANSWERS TO THEM.
-/
namespace Go.Proofs.Ytekkofldhhdpgaa
open Go.RowKit

/-- Three results: number, place, error. -/
def triple (r : Nat × Nat × Nat) : Value := .tuple #[.int .u64 r.1, .int .i64 r.2.1, .int .i64 r.2.2]

/-- What holds at each jump back. -/
def GetJ (l : List UInt8) (q : Nat) (w : World) (a' : Act) (w' : World) : Prop := w' = w ∧ ∃ (i acc p sh : Nat) (u10 u11 u12 u13 u14 u15 u16 u17 u18 u19 u20 u21 u22 u23 u24 u25 u26 u27 u28 u29 u30 u31 u32 u33 u34 u35 u36 u37 u38 u39 u40 u41 u42 u43 u44 u45 u46 u47 u48 u49 u50 u51 u52 u53 u54 u55 u56 : Value), i ≤ 9 ∧ 1 ≤ i ∧ p ≤ l.length ∧ Hid (GetAt l q i acc p sh) ∧
      a' = { tmps := #[.string ⟨l.toArray⟩, .int .i64 q, undef, undef, .int .u64 0, .int .i64 0, .int .i64 0, .int .u64 acc, .int .u64 sh, .int .i64 p, u10, u11, u12, u13, u14, u15, u16, u17, u18, u19, u20, u21, u22, u23, u24, u25, u26, u27, u28, u29, u30, u31, u32, u33, u34, u35, u36, u37, u38, u39, u40, u41, u42, u43, u44, u45, u46, u47, u48, u49, u50, u51, u52, u53, u54, u55, u56], defers := [] }

def GetM (l : List UInt8) (a' : Act) (_ : World) : Nat := l.length - (intOf (a'.tmps.getD 9 undef)).toNat

set_option maxHeartbeats 400000 in
set_option maxRecDepth 1000000 in
theorem get_in (l : List UInt8) (hl : l.length ≤ 4294967296) (q : Nat) (hq : q ≤ l.length) (w : World) :
    Calls Try.prog 60 #[.string ⟨l.toArray⟩, .int .i64 q] w fun e w' => e = .returned (triple (vget l q)) ∧ w = w' := by
  go_enter Try.func60, Try.ntmps60
  go_wp2
  refine wp_scope_jumps 0 (GetJ l q w) (GetM l) rfl ?_ ?_
  · have Hall := Lib.hid (getAt_start l q)
    by_cases hend : q = l.length
    · have t1 : ((q : Int) == (l.length : Int)) = true := by rw [hend]; simp
      have HR := Lib.hid (getAt_end Hall.out hq hend)
      clear hend
      go_wp2
      go_step3
      go_wp2
      simp only [Exit.jump]
      go_ret3
      exact ⟨by rw [HR.out]; rfl, rfl⟩
    · have t1 : ((q : Int) == (l.length : Int)) = false := by simp; omega
      have hlt : q < l.length := by omega
      have hlt' : q < (⟨l.toArray⟩ : ByteArray).size := by show _ < l.toArray.size; simpa using hlt
      obtain ⟨b, hb⟩ : ∃ b : UInt8, (⟨l.toArray⟩ : ByteArray)[q]'hlt' = b := ⟨_, rfl⟩
      have HB : Hid (l[q]? = some b) := by rw [← hb]; exact bytes_at l q hlt'
      have h256 := b.toNat_lt
      have t5 := andNot128 b.toNat (by omega)
      have t6 := or0 (b.toNat % 128) (by omega)
      obtain ⟨x, hx⟩ : ∃ x, x = b.toNat % 128 := ⟨_, rfl⟩
      have hxl : x < 128 := by omega
      rw [← hx] at t5 t6
      have HX := Lib.hid hx
      clear hx hend
      by_cases h0 : b.toNat < 128
      · have t4 := and128_no (by omega) h0
        have HR := Lib.hid (getAt_last Hall.out hq HB.out (by omega) h0 (by omega))
        have Hf : Hid (0 + b.toNat % 128 * 128 ^ 0 = x) := by show _ = _; rw [← HX.out]; simp
        clear h0
        by_cases hz : b.toNat = 0
        · have t7 : ((b.toNat : Int) == 0) = true := by simp; omega
          clear hz
          go_wp2
          go_step3
          go_wp2
          simp only [Exit.jump]
          go_ret3
          exact ⟨by rw [HR.out, Hf.out]; rfl, rfl⟩
        · have t7 : ((b.toNat : Int) == 0) = false := by simp; omega
          clear hz
          go_wp2
          go_step3
          go_wp2
          simp only [Exit.jump]
          go_ret3
          exact ⟨by rw [HR.out, Hf.out]; rfl, rfl⟩
      · have t4 := and128_yes (by omega) h0
        have HN := Lib.hid (getAt_next Hall.out HB.out (by omega) h0)
        have Hf : Hid (0 + b.toNat % 128 * 128 ^ 0 = x) := by show _ = _; rw [← HX.out]; simp
        clear h0
        go_wp2
        go_step3
        go_wp2
        go_step3
        exact ⟨rfl, rfl, 1, x, q + 1, 7, _, _, _, _, _, _, _, _, _, _, _, _, _, _, _, _, _, _, _, _, _, _, _, _, _, _, _, _, _, _, _, _, _, _, _, _, _, _, _, _, _, _, _, _, _, _, _, by omega, by omega, by omega, by rw [← Hf.out]; exact HN.out, rfl⟩
  · rintro a' w' ⟨rfl, i, acc, p, sh, u10, u11, u12, u13, u14, u15, u16, u17, u18, u19, u20, u21, u22, u23, u24, u25, u26, u27, u28, u29, u30, u31, u32, u33, u34, u35, u36, u37, u38, u39, u40, u41, u42, u43, u44, u45, u46, u47, u48, u49, u50, u51, u52, u53, u54, u55, u56, hi9, hi1, hpl, Hall, rfl⟩
    by_cases hend : p = l.length
    · have t1 : ((p : Int) == (l.length : Int)) = true := by rw [hend]; simp
      have R := getAt_end Hall.out hq hend
      have HR := Lib.hid R
      clear hend R
      go_wp2
      simp only [Exit.jump]
      go_ret3
      exact ⟨by rw [HR.out]; rfl, rfl⟩
    · have t1 : ((p : Int) == (l.length : Int)) = false := by simp; omega
      have hlt : p < l.length := by omega
      have hlt' : p < (⟨l.toArray⟩ : ByteArray).size := by show _ < l.toArray.size; simpa using hlt
      obtain ⟨b, hb⟩ : ∃ b : UInt8, (⟨l.toArray⟩ : ByteArray)[p]'hlt' = b := ⟨_, rfl⟩
      have HB : Hid (l[p]? = some b) := by rw [← hb]; exact bytes_at l p hlt'
      have h256 := b.toNat_lt
      clear hend
      by_cases h91 : i = 9 ∧ 1 < b.toNat
      · have t2 : ((sh : Int) == 63) = true := by have := Hall.out.2.2.1; simp; omega
        have t3 : (1 : Int) < b.toNat := by omega
        have HR := Lib.hid (getAt_form Hall.out hq HB.out (.inl h91))
        clear h91
        go_wp2
        simp only [Exit.jump]
        go_ret3
        exact ⟨by rw [HR.out]; rfl, rfl⟩
      · have H91 := Lib.hid h91
        clear h91
        have t5 := andNot128 b.toNat (by omega)
        have t6 := orShift' acc (b.toNat % 128) i sh Hall.out.2.2.1 Hall.out.1 (by omega) hi9 (fun h => by have := H91.out; omega)
        have hs := sum_lt acc (b.toNat % 128) i Hall.out.1 (by omega) hi9 (fun h => by have := H91.out; omega)
        obtain ⟨acc', Hacc'⟩ : ∃ acc', Hid (acc' = acc + b.toNat % 128 * 128 ^ i) := ⟨_, rfl⟩
        rw [← Hacc'.out] at t6 hs
        obtain ⟨x, hx⟩ : ∃ x, x = b.toNat % 128 := ⟨_, rfl⟩
        rw [← hx] at t5 t6
        have HX := Lib.hid hx
        clear hx
        have hsh : sh ≤ 63 := by have := Hall.out.2.2.1; omega
        by_cases h0 : b.toNat < 128
        · have t4 := and128_no (by omega) h0
          by_cases hz : b.toNat = 0
          · have t7 : ((b.toNat : Int) == 0) = true := by simp; omega
            have t8 : ((p : Int) + 1 != (q : Int) + 1) = true := by have := Hall.out.2.1; simp; omega
            have HR := Lib.hid (getAt_form Hall.out hq HB.out (.inr ⟨h0, hz, by omega⟩))
            clear hz h0
            by_cases h9 : i = 9
            · have t2 : ((sh : Int) == 63) = true := by have := Hall.out.2.2.1; simp; omega
              have t3 : ¬ (1 : Int) < b.toNat := by have := H91.out; omega
              clear h9
              go_wp2
              simp only [Exit.jump]
              go_ret3
              exact ⟨by rw [HR.out]; rfl, rfl⟩
            · have t2 : ((sh : Int) == 63) = false := by have := Hall.out.2.2.1; simp; omega
              clear h9
              go_wp2
              simp only [Exit.jump]
              go_ret3
              exact ⟨by rw [HR.out]; rfl, rfl⟩
          · have t7 : ((b.toNat : Int) == 0) = false := by simp; omega
            have HR := Lib.hid (getAt_last Hall.out hq HB.out H91.out h0 (by omega))
            clear hz h0
            by_cases h9 : i = 9
            · have t2 : ((sh : Int) == 63) = true := by have := Hall.out.2.2.1; simp; omega
              have t3 : ¬ (1 : Int) < b.toNat := by have := H91.out; omega
              clear h9
              go_wp2
              simp only [Exit.jump]
              go_ret3
              exact ⟨by rw [HR.out, ← Hacc'.out]; rfl, rfl⟩
            · have t2 : ((sh : Int) == 63) = false := by have := Hall.out.2.2.1; simp; omega
              clear h9
              go_wp2
              simp only [Exit.jump]
              go_ret3
              exact ⟨by rw [HR.out, ← Hacc'.out]; rfl, rfl⟩
        · have t4 := and128_yes (by omega) h0
          have hi8 : i ≤ 8 := by have := H91.out; omega
          have t2 : ((sh : Int) == 63) = false := by have := Hall.out.2.2.1; simp; omega
          have HN := Lib.hid (getAt_next Hall.out HB.out H91.out h0)
          clear h0
          go_wp2
          go_step3
          refine ⟨rfl, ⟨rfl, i + 1, acc', p + 1, sh + 7, _, _, _, _, _, _, _, _, _, _, _, _, _, _, _, _, _, _, _, _, _, _, _, _, _, _, _, _, _, _, _, _, _, _, _, _, _, _, _, _, _, _, _, _, _, _, _, by omega, by omega, by omega, by rw [Hacc'.out]; exact HN.out, rfl⟩, ?_⟩
          simp [GetM, intOf]
          omega

theorem vget_out {l : List UInt8} {p : Int} (h : p < 0 ∨ (l.length : Int) < p) : vget l p = (0, 0, 1) := by
  unfold vget
  rw [if_pos h]

set_option maxHeartbeats 400000 in
set_option maxRecDepth 1000000 in
theorem get_any (l : List UInt8) (hl : l.length ≤ 4294967296) (p : Int) (w : World) :
    Calls Try.prog 60 #[.string ⟨l.toArray⟩, .int .i64 p] w fun e w' => e = .returned (triple (vget l p)) ∧ w = w' := by
  by_cases h : p < 0 ∨ (l.length : Int) < p
  · rw [vget_out h]
    by_cases h1 : p < 0
    · clear h
      go_enter Try.func60, Try.ntmps60
      go_wp2
      go_step3
      go_wp2
      rw [Exit.noGoto_ret]
      go_ret3
      exact ⟨rfl, rfl⟩
    · have h2 : (l.length : Int) < p := by omega
      clear h
      go_enter Try.func60, Try.ntmps60
      go_wp2
      go_step3
      go_wp2
      rw [Exit.noGoto_ret]
      go_ret3
      exact ⟨rfl, rfl⟩
  · obtain ⟨q, rfl⟩ := Int.eq_ofNat_of_zero_le (show 0 ≤ p by omega)
    exact get_in l hl q (by omega) w

end Go.Proofs.Ytekkofldhhdpgaa

end

section

/-
  THE CONTRACT OF THE DOCUMENT'S ANSWER TO varint.Get.
-/
namespace Go.Proofs.Ytekkofldhhdpgaa
open Go.RowKit

end Go.Proofs.Ytekkofldhhdpgaa

end

section

/-
  THE CONTRACTS OF varint.Take AND OF THE DOCUMENT'S ANSWER TO IT.
-/
namespace Go.Proofs.Ytekkofldhhdpgaa
open Go.RowKit

/-- Three results: text, place, error. -/
def tripleS (r : List UInt8 × Nat × Nat) : Value := .tuple #[.string ⟨r.1.toArray⟩, .int .i64 r.2.1, .int .i64 r.2.2]

theorem get_eq (l : List UInt8) (hl : l.length ≤ 4294967296) (p : Int) (w : World) {n f er : Nat} (h : Hid (vget l p = (n, f, er))) :
    Calls Try.prog 60 #[.string ⟨l.toArray⟩, .int .i64 p] w fun e w' => e = .returned (.tuple #[.int .u64 n, .int .i64 f, .int .i64 er]) ∧ w = w' := by
  have := get_any l hl p w
  rwa [h.out] at this

set_option maxHeartbeats 400000 in
set_option maxRecDepth 1000000 in
theorem take_any (l : List UInt8) (hl : l.length ≤ 4294967296) (p most : Int) (hm : most ≤ 9223372036854775807) (w : World) :
    Calls Try.prog 93 #[.string ⟨l.toArray⟩, .int .i64 p, .int .i64 most] w fun e w' => e = .returned (tripleS (vtake l p most)) ∧ w = w' := by
  obtain ⟨n, f, er, hg⟩ : ∃ n f er, vget l p = (n, f, er) := ⟨_, _, _, rfl⟩
  obtain ⟨hn, hf, _⟩ := vget_facts hg
  have HG := Lib.hid hg
  by_cases he : er = 0
  · subst he
    by_cases h1 : most < 0
    · have HR : Hid (vtake l p most = ([], 0, 3)) := by show _ = _; unfold vtake; rw [hg]; simp [h1]
      clear hg
      go_enter Try.func93, Try.ntmps93
      go_wp2_with (go_at_call 60; go_must (refine (get_eq l hl p _ HG).mono ?_); rintro e w' ⟨rfl, rfl⟩)
      go_ret3
      exact ⟨by rw [HR.out]; rfl, rfl⟩
    · have h1' : 0 ≤ most := by omega
      by_cases h2 : most < (n : Int)
      · have HR : Hid (vtake l p most = ([], 0, 3)) := by show _ = _; unfold vtake; rw [hg]; simp [h2]
        clear hg h1
        go_enter Try.func93, Try.ntmps93
        go_wp2_with (go_at_call 60; go_must (refine (get_eq l hl p _ HG).mono ?_); rintro e w' ⟨rfl, rfl⟩)
        go_ret3
        exact ⟨by rw [HR.out]; rfl, rfl⟩
      · by_cases h3 : l.length - f < n
        · have HR : Hid (vtake l p most = ([], 0, 2)) := by show _ = _; unfold vtake; rw [hg]; simp [h1, h2, h3]
          have h3' : (l.length : Int) - f < n := by omega
          clear hg h1 h3
          go_enter Try.func93, Try.ntmps93
          go_wp2_with (go_at_call 60; go_must (refine (get_eq l hl p _ HG).mono ?_); rintro e w' ⟨rfl, rfl⟩)
          go_ret3
          exact ⟨by rw [HR.out]; rfl, rfl⟩
        · have HR : Hid (vtake l p most = ((l.drop f).take n, f + n, 0)) := by show _ = _; unfold vtake; rw [hg]; simp [h1, h2, h3]
          have h3' : ¬ (l.length : Int) - f < n := by omega
          have hsl := fun w => run_slice_bytes (P := Try.prog) w 9 l f (f + n) f (f + n) rfl (by omega) Try.underlying9 (by omega) (by omega)
          rw [show f + n - f = n by omega] at hsl
          clear hg h1 h3
          go_enter Try.func93, Try.ntmps93
          go_wp2_with (go_at_call 60; go_must (refine (get_eq l hl p _ HG).mono ?_); rintro e w' ⟨rfl, rfl⟩)
          go_ret3
          exact ⟨by rw [HR.out]; rfl, rfl⟩
  · have HR : Hid (vtake l p most = ([], 0, er)) := by show _ = _; unfold vtake; rw [hg]; simp [he]
    have t1 : ((er : Int) != 0) = true := by simp; omega
    clear hg he
    go_enter Try.func93, Try.ntmps93
    go_wp2_with (go_at_call 60; go_must (refine (get_eq l hl p _ HG).mono ?_); rintro e w' ⟨rfl, rfl⟩)
    go_ret3
    exact ⟨by rw [HR.out]; rfl, rfl⟩

theorem take_eq (l : List UInt8) (hl : l.length ≤ 4294967296) (p most : Int) (hm : most ≤ 9223372036854775807) (w : World) {t : List UInt8} {f er : Nat} (h : Hid (vtake l p most = (t, f, er))) :
    Calls Try.prog 93 #[.string ⟨l.toArray⟩, .int .i64 p, .int .i64 most] w fun e w' => e = .returned (.tuple #[.string ⟨t.toArray⟩, .int .i64 f, .int .i64 er]) ∧ w = w' := by
  have := take_any l hl p most hm w
  rwa [h.out] at this

end Go.Proofs.Ytekkofldhhdpgaa

end

section

/-
  PLAIN MATHEMATICS OF LAYER 3 (ident): what a name is, its folding, the order of names, lists merged. No program in sight.
-/
namespace Go.Proofs.Ytekkofldhhdpgaa
open Go.Lib Go.Sort

/-! ### Names -/

def lcOk (b : UInt8) : Bool := decide (97 ≤ b.toNat) && decide (b.toNat ≤ 122)
def dgOk (b : UInt8) : Bool := (decide (48 ≤ b.toNat) && decide (b.toNat ≤ 57)) || decide (b.toNat = 45)
def inOk (b : UInt8) : Bool := lcOk b || dgOk b

def idIs (l : List UInt8) : Bool := decide (1 ≤ l.length) && (decide (l.length ≤ 16) && (lcOk (l.getD 0 0) && l.all inOk))

def low1 (b : UInt8) : UInt8 := if 65 ≤ b.toNat ∧ b.toNat ≤ 90 then u8of (b.toNat + 32) else b
def idLow (l : List UInt8) : List UInt8 := l.map low1

def idFold (l : List UInt8) : List UInt8 × Bool := if idIs (idLow l) = true then (idLow l, true) else ([], false)
def idPut (l : List UInt8) : List UInt8 × Bool := if idIs l = true then (vput l.length ++ l, true) else ([], false)
def idTake (l : List UInt8) (p : Int) : List UInt8 × Nat × Nat :=
  if (vtake l p 16).2.2 ≠ 0 then ([], 0, (vtake l p 16).2.2) else if idIs (vtake l p 16).1 = true then vtake l p 16 else ([], 0, 3)

theorem inOk_lt {b : UInt8} (h : inOk b = true) : b.toNat < 128 := by
  simp [inOk, lcOk, dgOk] at h
  omega

theorem idIs_parts {l : List UInt8} (h : idIs l = true) : 1 ≤ l.length ∧ l.length ≤ 16 ∧ lcOk (l.getD 0 0) = true ∧ l.all inOk = true := by
  unfold idIs at h
  simp only [Bool.and_eq_true, decide_eq_true_eq] at h
  exact ⟨h.1, h.2.1, h.2.2.1, h.2.2.2⟩

theorem idIs_mk {l : List UInt8} (h1 : 1 ≤ l.length) (h2 : l.length ≤ 16) (h3 : lcOk (l.getD 0 0) = true) (h4 : l.all inOk = true) : idIs l = true := by
  unfold idIs
  simp only [Bool.and_eq_true, decide_eq_true_eq]
  exact ⟨h1, h2, h3, h4⟩

theorem idIs_long {l : List UInt8} (h : 16 < l.length) : idIs l = false := by
  rw [Bool.eq_false_iff]
  intro h'
  have := (idIs_parts h').2.1
  omega

/-- A byte that no name has. -/
theorem idIs_high {l : List UInt8} {b : UInt8} (hb : b ∈ l) (h : 128 ≤ b.toNat) : idIs l = false := by
  rw [Bool.eq_false_iff]
  intro h'
  have := inOk_lt (List.all_eq_true.1 (idIs_parts h').2.2.2 b hb)
  omega

/-! ### The order of names -/

def idCmp (a b : List UInt8) : Int := if a.length < b.length then -1 else if b.length < a.length then 1 else compareBytes a b

def idLess (a b : List UInt8) : Bool := decide (idCmp a b < 0)

theorem cb_trans : ∀ {a b c : List UInt8}, compareBytes a b ≤ 0 → compareBytes b c ≤ 0 → compareBytes a c ≤ 0 ∧ (compareBytes a b < 0 ∨ compareBytes b c < 0 → compareBytes a c < 0)
  | [], [], c, _, h2 => ⟨h2, fun h => by
      rcases h with h | h
      · simp [compareBytes] at h
      · exact h⟩
  | [], _ :: _, [], _, h2 => by simp [compareBytes] at h2
  | [], _ :: _, _ :: _, _, _ => by simp [compareBytes]
  | _ :: _, [], _, h1, _ => by simp [compareBytes] at h1
  | _ :: _, _ :: _, [], _, h2 => by simp [compareBytes] at h2
  | a :: xs, b :: ys, c :: zs, h1, h2 => by
    unfold compareBytes at h1 h2 ⊢
    simp only [UInt8.lt_iff_toNat_lt] at h1 h2 ⊢
    by_cases p1 : a.toNat < b.toNat
    · by_cases p2 : b.toNat < c.toNat
      · rw [if_pos (show a.toNat < c.toNat by omega)]; simp
      · rw [if_neg p2] at h2
        by_cases p3 : c.toNat < b.toNat
        · rw [if_pos p3] at h2; simp at h2
        · rw [if_pos (show a.toNat < c.toNat by omega)]; simp
    · rw [if_neg p1] at h1 ⊢
      by_cases p2 : b.toNat < a.toNat
      · rw [if_pos p2] at h1; simp at h1
      · rw [if_neg p2] at h1 ⊢
        by_cases p3 : b.toNat < c.toNat
        · rw [if_pos (show a.toNat < c.toNat by omega)]; simp
        · rw [if_neg p3] at h2 ⊢
          by_cases p4 : c.toNat < b.toNat
          · rw [if_pos p4] at h2; simp at h2
          · rw [if_neg p4] at h2 ⊢
            rw [if_neg (show ¬ a.toNat < c.toNat by omega), if_neg (show ¬ c.toNat < a.toNat by omega)]
            exact cb_trans h1 h2

theorem idCmp_trans {a b c : List UInt8} (h1 : idCmp a b ≤ 0) (h2 : idCmp b c ≤ 0) : idCmp a c ≤ 0 ∧ (idCmp a b < 0 ∨ idCmp b c < 0 → idCmp a c < 0) := by
  unfold idCmp at h1 h2 ⊢
  by_cases p1 : a.length < b.length
  · by_cases p3 : c.length < b.length
    · rw [if_neg (by omega), if_pos p3] at h2; simp at h2
    · rw [if_pos (show a.length < c.length by omega)]; simp
  · rw [if_neg p1] at h1 ⊢
    by_cases p2 : b.length < a.length
    · rw [if_pos p2] at h1; simp at h1
    · rw [if_neg p2] at h1 ⊢
      by_cases p3 : b.length < c.length
      · rw [if_pos (show a.length < c.length by omega)]; simp
      · rw [if_neg p3] at h2 ⊢
        by_cases p4 : c.length < b.length
        · rw [if_pos p4] at h2; simp at h2
        · rw [if_neg p4] at h2 ⊢
          rw [if_neg (show ¬ a.length < c.length by omega), if_neg (show ¬ c.length < a.length by omega)]
          exact cb_trans h1 h2

theorem idLess_trans {a b c : List UInt8} (h1 : idLess a b = true) (h2 : idLess b c = true) : idLess a c = true := by
  unfold idLess at *
  simp only [decide_eq_true_eq] at *
  exact (idCmp_trans (by omega) (by omega)).2 (.inl h1)

/-- The document's own word for it. -/
theorem bytesLess_cb : ∀ a b : List UInt8, Op.bytesLess a b = decide (compareBytes a b < 0)
  | [], [] => rfl
  | [], _ :: _ => rfl
  | _ :: _, [] => rfl
  | a :: xs, b :: ys => by
    unfold Op.bytesLess compareBytes
    by_cases h1 : a < b
    · simp [h1]
    · by_cases h2 : b < a
      · have : ¬ a = b := fun e => h1 (by rw [e] at h2 ⊢; exact h2)
        simp [h1, h2, this]
      · have e : a = b := by
          rw [UInt8.lt_iff_toNat_lt] at h1 h2
          exact UInt8.toNat_inj.1 (by omega)
        rw [if_neg h1, if_neg h2]
        subst e
        simp [bytesLess_cb xs ys]

theorem idLess_doc (a b : List UInt8) : idLess a b = (decide (a.length < b.length) || (decide (a.length = b.length) && Op.bytesLess a b)) := by
  unfold idLess idCmp
  rw [bytesLess_cb]
  by_cases h1 : a.length < b.length
  · simp [h1]
  · by_cases h2 : b.length < a.length
    · have : ¬ a.length = b.length := by omega
      rw [if_neg h1, if_pos h2]
      simp [h1, this]
    · have : a.length = b.length := by omega
      rw [if_neg h1, if_neg h2]
      simp [this]

/-! ### Lists merged -/

/-- By Less, each once. -/
def Rising (l : List (List UInt8)) : Prop := l.Pairwise fun x y => idLess x y = true

/-- A text laid into a list by Less, once. -/
def ins (x : List UInt8) : List (List UInt8) → List (List UInt8)
  | [] => [x]
  | y :: l => if idLess y x = true then y :: ins x l else if y = x then y :: l else x :: y :: l

def mrg (a : List (List UInt8)) : List (List UInt8) := a.foldl (fun out x => ins x out) []

end Go.Proofs.Ytekkofldhhdpgaa

end

section

/-
  PLAIN MATHEMATICS OF LAYER 4 (value): what may be, its bytes, and how they are read. No program in sight.
-/
namespace Go.Proofs.Ytekkofldhhdpgaa

/-- A value as its fields. -/
structure Val where
  sh : Int
  pr : Int
  si : Int
  st : List UInt8

def Val.zero : Val := ⟨0, 0, 0, []⟩

/-- A byte that can be shown. -/
def chOk (b : UInt8) : Bool := decide (32 ≤ b.toNat) && decide (b.toNat ≤ 126)

def stOk (l : List UInt8) : Bool := decide (l.length ≤ 32) && l.all chOk

def numsOk (a b c : Int) : Bool := decide (1 ≤ a ∧ a ≤ 4 ∧ -128 ≤ b ∧ b ≤ 127 ∧ 0 ≤ c ∧ c ≤ 1099511627776)

/-- May it be? -/
def vaMay (v : Val) : Bool := numsOk v.sh v.pr v.si && stOk v.st

/-- Its bytes. -/
def vaBytes (v : Val) : List UInt8 := [u8of v.sh.toNat, u8of (v.pr + 128).toNat] ++ (vput v.si.toNat ++ (vput v.st.length ++ v.st))

def vaTwo (l : List UInt8) (p : Int) (n : Nat) (t : List UInt8) : Val := ⟨(l.getD p.toNat 0).toNat, (l.getD (p.toNat + 1) 0).toNat - 128, n, t⟩

/-- The value at a place of bytes: value, place behind it, error. -/
def vaTake (l : List UInt8) (p : Int) : Val × Nat × Nat :=
  if p < 0 ∨ (l.length : Int) < p then (Val.zero, 0, 1)
  else if (l.length : Int) - p < 2 then (Val.zero, 0, 2)
  else if (vget l (p + 2)).2.2 ≠ 0 then (Val.zero, 0, (vget l (p + 2)).2.2)
  else if (vtake l (vget l (p + 2)).2.1 32).2.2 ≠ 0 then (Val.zero, 0, (vtake l (vget l (p + 2)).2.1 32).2.2)
  else if vaMay (vaTwo l p (vget l (p + 2)).1 (vtake l (vget l (p + 2)).2.1 32).1) = false then (Val.zero, 0, 3)
  else (vaTwo l p (vget l (p + 2)).1 (vtake l (vget l (p + 2)).2.1 32).1, (vtake l (vget l (p + 2)).2.1 32).2.1, 0)

theorem vaMay_parts {v : Val} (h : vaMay v = true) : 1 ≤ v.sh ∧ v.sh ≤ 4 ∧ -128 ≤ v.pr ∧ v.pr ≤ 127 ∧ 0 ≤ v.si ∧ v.si ≤ 1099511627776 ∧ v.st.length ≤ 32 := by
  unfold vaMay numsOk stOk at h
  simp at h
  omega

/-- The bytes of a number, at a place. -/
theorem vget_bytes {l : List UInt8} {p : Nat} {n f : Nat} (h : vget l p = (n, f, 0)) : p ≤ f ∧ f ≤ l.length ∧ vput n = (l.drop p).take (f - p) := by
  have hf := vget_facts h
  have hp := (hf.2.2 rfl).2
  have hle : p ≤ l.length := by simp at hp; omega
  unfold vget at h
  rw [if_neg (by omega)] at h
  simp only [Int.toNat_natCast] at h hp
  by_cases he : (vgetF 0 (l.drop p)).2.2 = 0
  · rw [if_pos he] at h
    simp only [Prod.mk.injEq] at h
    have := vputF_vgetF (l.drop p) 9 0 rfl he
    refine ⟨by omega, hf.2.1, ?_⟩
    rw [← h.1]
    unfold vput
    rw [this.1]
    congr 1
    omega
  · rw [if_neg he] at h
    simp only [Prod.mk.injEq] at h
    exact absurd h.2.2 he

/-- The bytes of a text behind its length, at a place. -/
theorem vtake_bytes {l : List UInt8} {p : Nat} {m : Int} {t : List UInt8} {f : Nat} (h : vtake l p m = (t, f, 0)) : p ≤ f ∧ f ≤ l.length ∧ vput t.length ++ t = (l.drop p).take (f - p) ∧ (t.length : Int) ≤ m := by
  obtain ⟨n, g, e, hg⟩ : ∃ n g e, vget l p = (n, g, e) := ⟨_, _, _, rfl⟩
  unfold vtake at h
  rw [hg] at h
  simp only at h
  by_cases he : e = 0
  · subst he
    rw [if_neg (by simp)] at h
    have hb := vget_bytes hg
    by_cases h1 : m < 0 ∨ m < (n : Int)
    · rw [if_pos h1] at h; simp at h
    · rw [if_neg h1] at h
      by_cases h2 : l.length - g < n
      · rw [if_pos h2] at h; simp at h
      · rw [if_neg h2] at h
        simp only [Prod.mk.injEq] at h
        obtain ⟨rfl, rfl, _⟩ := h
        have hl : ((l.drop g).take n).length = n := by simp; omega
        refine ⟨by omega, by omega, ?_, by rw [hl]; omega⟩
        rw [hl, hb.2.2]
        have e1 : g + n - p = (g - p) + n := by omega
        have e2 : l.drop g = (l.drop p).drop (g - p) := by rw [List.drop_drop]; congr 1; omega
        rw [e1, e2, List.take_add]
  · rw [if_pos he] at h
    simp only [Prod.mk.injEq] at h
    exact absurd h.2.2 he

/-- What is put is taken, wherever it stands. -/
theorem vaTake_put {v : Val} (hv : vaMay v = true) (a r : List UInt8) : vaTake (a ++ (vaBytes v ++ r)) (a.length : Int) = (v, a.length + (vaBytes v).length, 0) := by
  obtain ⟨h1, h2, h3, h4, h5, h6, h7⟩ := vaMay_parts hv
  obtain ⟨sh, pr, si, st⟩ := v
  simp only at h1 h2 h3 h4 h5 h6 h7
  obtain ⟨n, rfl⟩ := Int.eq_ofNat_of_zero_le h5
  have e1 : a ++ (vaBytes ⟨sh, pr, n, st⟩ ++ r) = (a ++ [u8of sh.toNat, u8of (pr + 128).toNat]) ++ (vput n ++ (vput st.length ++ st ++ r)) := by
    simp [vaBytes]
  have e2 : ((a.length : Int) + 2) = (((a ++ [u8of sh.toNat, u8of (pr + 128).toNat]).length : Nat) : Int) := by simp
  have g := vget_vput n (by omega) (a ++ [u8of sh.toNat, u8of (pr + 128).toNat]) (vput st.length ++ st ++ r)
  have e3 : (a ++ [u8of sh.toNat, u8of (pr + 128).toNat]).length + (vput n).length = ((a ++ [u8of sh.toNat, u8of (pr + 128).toNat]) ++ vput n).length := (List.length_append ..).symm
  have t := vtake_text ((a ++ [u8of sh.toNat, u8of (pr + 128).toNat]) ++ vput n) st r 32 (by omega) (by omega)
  rw [List.append_assoc _ (vput n)] at t
  rw [e3] at g
  have b1 : ((a ++ [u8of sh.toNat, u8of (pr + 128).toNat]) ++ (vput n ++ (vput st.length ++ st ++ r))).getD a.length 0 = u8of sh.toNat := by simp [List.getD]
  have b2 : ((a ++ [u8of sh.toNat, u8of (pr + 128).toNat]) ++ (vput n ++ (vput st.length ++ st ++ r))).getD (a.length + 1) 0 = u8of (pr + 128).toNat := by
    have : a.length + 1 - a.length = 1 := by omega
    simp [List.getD, this]
  have htwo : vaTwo ((a ++ [u8of sh.toNat, u8of (pr + 128).toNat]) ++ (vput n ++ (vput st.length ++ st ++ r))) a.length n st = ⟨sh, pr, n, st⟩ := by
    unfold vaTwo
    simp only [Int.toNat_natCast]
    rw [b1, b2, u8of_toNat (by omega), u8of_toNat (by omega)]
    rw [show ((sh.toNat : Nat) : Int) = sh by omega, show (((pr + 128).toNat : Nat) : Int) - 128 = pr by omega]
  unfold vaTake
  rw [e1, if_neg (by simp; omega), if_neg (by simp; omega), e2, g]
  simp only [ne_eq, not_true_eq_false, if_false]
  rw [t]
  simp only [not_true_eq_false, if_false]
  rw [htwo, hv]
  simp only [Bool.true_eq_false, if_false]
  simp [vaBytes]
  omega

/-- What is taken is what was put. -/
theorem vaPut_take {l : List UInt8} {p : Nat} {v : Val} {f : Nat} (h : vaTake l p = (v, f, 0)) : vaMay v = true ∧ p ≤ f ∧ f ≤ l.length ∧ vaBytes v = (l.drop p).take (f - p) := by
  unfold vaTake at h
  by_cases h1 : (p : Int) < 0 ∨ (l.length : Int) < p
  · rw [if_pos h1] at h; simp at h
  rw [if_neg h1] at h
  by_cases h2 : (l.length : Int) - p < 2
  · rw [if_pos h2] at h; simp at h
  rw [if_neg h2] at h
  obtain ⟨n, g, e, hg⟩ : ∃ n g e, vget l ((p : Int) + 2) = (n, g, e) := ⟨_, _, _, rfl⟩
  rw [hg] at h
  simp only at h
  by_cases he : e = 0
  · subst he
    simp only [ne_eq, not_true_eq_false, if_false] at h
    obtain ⟨t, k, e', ht⟩ : ∃ t k e', vtake l g 32 = (t, k, e') := ⟨_, _, _, rfl⟩
    rw [ht] at h
    simp only at h
    by_cases he' : e' = 0
    · subst he'
      simp only [not_true_eq_false, if_false] at h
      by_cases hm : vaMay (vaTwo l p n t) = false
      · rw [if_pos hm] at h; simp at h
      · rw [if_neg hm] at h
        simp only [Prod.mk.injEq] at h
        obtain ⟨rfl, rfl, _⟩ := h
        have hg' : vget l ((p + 2 : Nat) : Int) = (n, g, 0) := by rw [← hg]; rfl
        obtain ⟨a1, a2, a3⟩ := vget_bytes hg'
        obtain ⟨b1, b2, b3, b4⟩ := vtake_bytes ht
        refine ⟨by simpa using hm, by omega, b2, ?_⟩
        unfold vaBytes vaTwo
        simp only [Int.toNat_natCast]
        rw [show ((((l.getD (p + 1) 0).toNat : Nat) : Int) - 128 + 128).toNat = (l.getD (p + 1) 0).toNat by omega, u8of_of_toNat, u8of_of_toNat, a3, b3]
        have e1 : k - p = 2 + ((g - (p + 2)) + (k - g)) := by omega
        have e2 : (l.drop p).take 2 = [l.getD p 0, l.getD (p + 1) 0] := by
          rw [List.drop_eq_getElem_cons (show p < l.length by omega), List.drop_eq_getElem_cons (show p + 1 < l.length by omega)]
          rw [show l.getD p 0 = l[p]'(by omega) by simp [List.getD, List.getElem?_eq_getElem (show p < l.length by omega)], show l.getD (p + 1) 0 = l[p + 1]'(by omega) by simp [List.getD, List.getElem?_eq_getElem (show p + 1 < l.length by omega)]]
          rfl
        rw [e1, List.take_add, e2, List.take_add, List.drop_drop, List.drop_drop]
        congr 4
        omega
    · rw [if_pos he'] at h
      simp only [Prod.mk.injEq] at h
      exact absurd h.2.2 he'
  · rw [if_pos he] at h
    simp only [Prod.mk.injEq] at h
    exact absurd h.2.2 he

/-- A length below 128 takes one byte. -/
theorem vput_small_len {n : Nat} (h : n < 128) : (vput n).length = 1 := by rw [vput_lt h]; rfl

theorem vaBytes_len {v : Val} (hv : vaMay v = true) : (vaBytes v).length = 3 + (vput v.si.toNat).length + v.st.length := by
  have h := (vaMay_parts hv).2.2.2.2.2.2
  have := vput_small_len (show v.st.length < 128 by omega)
  unfold vaBytes
  simp only [List.length_append, List.length_cons, List.length_nil]
  omega

/-- The words of the shows. -/
def shows : List (List UInt8) := [[111, 102, 102], [103, 111, 110, 101], [97, 119, 97, 121], [98, 117, 115, 121], [111, 110, 108, 105, 110, 101]]

def vaSay (n : Int) : List UInt8 × Bool := if n < 0 ∨ 4 < n then ([], false) else (shows.getD n.toNat [], true)

def vaHear (l : List UInt8) : Nat × Bool :=
  if l = [111, 102, 102] then (0, true) else if l = [103, 111, 110, 101] then (1, true) else if l = [97, 119, 97, 121] then (2, true)
  else if l = [98, 117, 115, 121] then (3, true) else if l = [111, 110, 108, 105, 110, 101] then (4, true) else (0, false)

/-- Are two values the same? -/
def vaEq (x y : Val) : Bool := (x.sh == y.sh && (x.pr == y.pr && (x.si == y.si && x.st == y.st)))

end Go.Proofs.Ytekkofldhhdpgaa

end
