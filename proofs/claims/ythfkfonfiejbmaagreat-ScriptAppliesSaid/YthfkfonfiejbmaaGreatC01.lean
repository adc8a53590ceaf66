/-
  TEXTS OF THE PROOF, one behind the other: VarPure, IdPure, SubPure, RosPure, RosMay, Kit, Seq, Ord, OrdSet, RosMayP, RosDoP, ValPure, SesBase, SesPure, EvP, StaPure, VarPut, VarGet, VarRget, VarTake, Shelf, IdCmp, IdIs, IdFold, IdTake, Bytes.
-/
import Derived.Lib.Bytealg
import Derived.Sort.Statements
import Derived.Shelf.SlSortCmp.Insertion
import Derived.Lib.SlicesCompact
import Derived.Lib.Hide
import Derived.WalkKit
import Derived.BigQuiet
import Derived.Lib.QuietBelow
import Derived.Laws.IdiomCopy
import Derived.Laws.AppendOwnNone
import Derived.Lib.AppendZerosOnto
import Derived.Lib.Overlaps
import Derived.Deep.RegionLaw
import Derived.Laws.Externs
import Derived.Lib.SliceRun
import Derived.Test.YthfkfonfiejbmaaGreatRows
import Derived.Deep.DeepMust
import Derived.Shelf.Strings.Builder1
import Derived.Shelf.Small.Bits
import Derived.Shelf.Small.Strs
import Derived.Shelf.Small.Wraps
import Derived.Shelf.Strings.BuilderF
import Derived.Shelf.Strings.BuilderK
import Derived.Shelf.Strings.BuilderRune
import Derived.Shelf.Slices.CompactS
import Derived.Shelf.SlicesE.Compact
import Derived.Shelf.SlSortCmp.SiftDown1
import Derived.Shelf.SlSortCmp.HeapSort1
import Derived.Shelf.SlSortCmp.Insertion1
import Derived.Shelf.SlSortCmp.Median1
import Derived.Shelf.SlSortCmp.Pivot1
import Derived.Shelf.SlSortCmp.ReverseRange1
import Derived.Shelf.SlSortCmp.PartialInsertion1
import Derived.Shelf.SlSortCmp.PartitionEqual1
import Derived.Shelf.SlSortCmp.Partition1
import Derived.Shelf.SlSortCmp.Pdq1
import Derived.Shelf.SlSortCmp.Whole1
import Derived.Shelf.SlSortCmp.NoneTotal
import Derived.Lib.OthersKept
import Derived.Lib.ConvBytes

section

/-
  PLAIN MATHEMATICS OF LAYER 1 (varint): numbers in sevens of bits, and how they are read. No program in sight.
-/
namespace Go.Proofs.YthfkfonfiejbmaaGreat

/-- A number's byte: a name that no rule of the walk takes apart. -/
def u8of (n : Nat) : UInt8 := UInt8.ofNat n

/-- The bytes of n, with fuel k. -/
def vputF : Nat → Nat → List UInt8
  | 0, n => [u8of n]
  | k + 1, n => if n < 128 then [u8of n] else u8of (n % 128 + 128) :: vputF k (n / 128)

/-- The bytes of n (below 2^64). -/
def vput (n : Nat) : List UInt8 := vputF 9 n

theorem vputF_lt {k n : Nat} (h : n < 128) : vputF k n = [u8of n] := by
  cases k <;> simp [vputF, h]

theorem vputF_succ : ∀ (k n : Nat), n < 128 ^ (k + 1) → vputF (k + 1) n = vputF k n
  | 0, n, h => by
    have h' : n < 128 := by simpa using h
    rw [vputF_lt h', vputF_lt h']
  | k + 1, n, h => by
    by_cases h1 : n < 128
    · rw [vputF_lt h1, vputF_lt h1]
    · rw [vputF, if_neg h1, vputF_succ k (n / 128) (by rw [Nat.pow_succ] at h; omega)]
      conv => rhs; rw [vputF, if_neg h1]

theorem vput_lt {n : Nat} (h : n < 128) : vput n = [u8of n] := vputF_lt h

theorem vput_ge {n : Nat} (h : 128 ≤ n) (hn : n < 18446744073709551616) : vput n = u8of (n % 128 + 128) :: vput (n / 128) := by
  unfold vput
  rw [vputF, if_neg (by omega), vputF_succ 8 (n / 128) (by simp; omega)]

theorem vputF_len_le : ∀ (k n : Nat), (vputF k n).length ≤ k + 1
  | 0, n => by simp [vputF]
  | k + 1, n => by
    unfold vputF
    split
    · simp
    · have := vputF_len_le k (n / 128)
      simp; omega

theorem vput_len_le (n : Nat) : (vput n).length ≤ 10 := vputF_len_le 9 n

theorem vputF_len_pos (k n : Nat) : 1 ≤ (vputF k n).length := by
  cases k with
  | zero => simp [vputF]
  | succ k => unfold vputF; split <;> simp

theorem vput_len_pos (n : Nat) : 1 ≤ (vput n).length := vputF_len_pos 9 n

/-- What stands at a list's head, as the byte of index i of a number: the number, how many bytes it takes, and the error (0, 2, 3). -/
def vgetF (i : Nat) : List UInt8 → Nat × Nat × Nat
  | [] => (0, 0, 2)
  | b :: r =>
    if i = 9 ∧ 1 < b.toNat then (0, 0, 3)
    else if b.toNat < 128 then (if b.toNat = 0 ∧ 0 < i then (0, 0, 3) else (b.toNat, 1, 0))
    else
      if (vgetF (i + 1) r).2.2 = 0 then (b.toNat % 128 + 128 * (vgetF (i + 1) r).1, (vgetF (i + 1) r).2.1 + 1, 0)
      else (0, 0, (vgetF (i + 1) r).2.2)

/-- The number at a place of bytes: number, place behind it, error. -/
def vget (s : List UInt8) (at' : Int) : Nat × Nat × Nat :=
  if at' < 0 ∨ (s.length : Int) < at' then (0, 0, 1)
  else
    if (vgetF 0 (s.drop at'.toNat)).2.2 = 0 then ((vgetF 0 (s.drop at'.toNat)).1, at'.toNat + (vgetF 0 (s.drop at'.toNat)).2.1, 0)
    else (0, 0, (vgetF 0 (s.drop at'.toNat)).2.2)

theorem vgetF_err (i : Nat) : ∀ l : List UInt8, (vgetF i l).2.2 = 0 ∨ vgetF i l = (0, 0, 2) ∨ vgetF i l = (0, 0, 3) := by
  intro l
  induction l generalizing i with
  | nil => simp [vgetF]
  | cons b r ih =>
    unfold vgetF
    split
    · simp
    · split
      · split <;> simp
      · rcases ih (i + 1) with h | h | h
        · rw [if_pos h]; simp
        · rw [h]; simp
        · rw [h]; simp

theorem vgetF_used (i : Nat) : ∀ l : List UInt8, (vgetF i l).2.2 = 0 → 1 ≤ (vgetF i l).2.1 ∧ (vgetF i l).2.1 ≤ l.length := by
  intro l
  induction l generalizing i with
  | nil => simp [vgetF]
  | cons b r ih =>
    unfold vgetF
    split
    · simp
    · split
      · split <;> simp
      · by_cases h : (vgetF (i + 1) r).2.2 = 0
        · have := ih (i + 1) h
          rw [if_pos h]; simp; omega
        · rw [if_neg h]; simp [h]

/-- The number that is read at index i is below 2^(64 - 7 i). -/
theorem vgetF_bound (i : Nat) (hi : i ≤ 9) : ∀ l : List UInt8, (vgetF i l).1 * 128 ^ i < 18446744073709551616 := by
  intro l
  induction l generalizing i with
  | nil => simp [vgetF]
  | cons b r ih =>
    have hb := b.toNat_lt
    unfold vgetF
    split
    · simp
    · rename_i h9
      split
      · rename_i hlt
        split
        · simp
        · simp only
          by_cases hi9 : i = 9
          · subst hi9
            have : b.toNat ≤ 1 := by omega
            have := Nat.mul_le_mul_right (128 ^ 9) this
            refine Nat.lt_of_le_of_lt this (by decide)
          · have h8 : i ≤ 8 := by omega
            have h1 : b.toNat ≤ 127 := by omega
            calc b.toNat * 128 ^ i ≤ 127 * 128 ^ 8 := Nat.mul_le_mul h1 (Nat.pow_le_pow_right (by decide) h8)
              _ < 18446744073709551616 := by decide
      · rename_i hge
        by_cases hi9 : i = 9
        · exact absurd ⟨hi9, by omega⟩ h9
        · have ih' := ih (i + 1) (by omega)
          split
          · simp only
            have hb2 : b.toNat % 128 ≤ 127 := by omega
            rw [Nat.pow_succ] at ih'
            obtain ⟨c, hc⟩ : ∃ c, 18446744073709551616 = c * (128 ^ i * 128) := by
              have hi8 : i = 0 ∨ i = 1 ∨ i = 2 ∨ i = 3 ∨ i = 4 ∨ i = 5 ∨ i = 6 ∨ i = 7 ∨ i = 8 := by omega
              rcases hi8 with rfl | rfl | rfl | rfl | rfl | rfl | rfl | rfl | rfl
              · exact ⟨2 ^ 57, by decide⟩
              · exact ⟨2 ^ 50, by decide⟩
              · exact ⟨2 ^ 43, by decide⟩
              · exact ⟨2 ^ 36, by decide⟩
              · exact ⟨2 ^ 29, by decide⟩
              · exact ⟨2 ^ 22, by decide⟩
              · exact ⟨2 ^ 15, by decide⟩
              · exact ⟨2 ^ 8, by decide⟩
              · exact ⟨2, by decide⟩
            rw [hc] at ih' ⊢
            have hlt := Nat.lt_of_mul_lt_mul_right ih'
            rw [Nat.mul_comm (128 ^ i) 128, ← Nat.mul_assoc]
            exact Nat.mul_lt_mul_of_pos_right (by omega) (Nat.pow_pos (by decide))
          · simp

theorem u8of_toNat {n : Nat} (h : n < 256) : (u8of n).toNat = n := by
  simp [u8of, UInt8.toNat_ofNat']; omega

theorem u8of_of_toNat (b : UInt8) : u8of b.toNat = b := by
  simp [u8of]

/-- What is put is got, whatever stands behind it. -/
theorem vgetF_vputF : ∀ (k n i : Nat) (r : List UInt8), i + k = 9 → n * 128 ^ i < 18446744073709551616 → (0 < i → 0 < n) →
    vgetF i (vputF k n ++ r) = (n, (vputF k n).length, 0)
  | 0, n, i, r, hk, hn, hp => by
    have hi : i = 9 := by omega
    subst hi
    have h1 : n ≤ 1 := by simp at hn; omega
    have ht : (u8of n).toNat = n := u8of_toNat (by omega)
    simp only [vputF, List.cons_append, List.nil_append, vgetF, ht]
    rw [if_neg (by omega), if_pos (by omega), if_neg (by omega)]
    simp
  | k + 1, n, i, r, hk, hn, hp => by
    by_cases h : n < 128
    · have ht : (u8of n).toNat = n := u8of_toNat (by omega)
      rw [vputF_lt h]
      simp only [List.cons_append, List.nil_append, vgetF, ht]
      rw [if_neg (by omega), if_pos (by omega), if_neg (by omega)]
      simp
    · have ht : (u8of (n % 128 + 128)).toNat = n % 128 + 128 := u8of_toNat (by omega)
      have ih := vgetF_vputF k (n / 128) (i + 1) r (by omega) (by
        refine Nat.lt_of_le_of_lt ?_ hn
        rw [Nat.pow_succ, Nat.mul_comm (128 ^ i) 128, ← Nat.mul_assoc]
        exact Nat.mul_le_mul_right _ (Nat.div_mul_le_self n 128)) (fun _ => by omega)
      rw [vputF, if_neg h]
      simp only [List.cons_append, vgetF, ht, ih]
      rw [if_neg (by omega), if_neg (by omega), if_pos trivial]
      simp
      omega

theorem vget_vput (n : Nat) (hn : n < 18446744073709551616) (a r : List UInt8) :
    vget (a ++ (vput n ++ r)) (a.length : Int) = (n, a.length + (vput n).length, 0) := by
  unfold vget vput
  rw [if_neg (by simp; omega)]
  have e : List.drop ((a.length : Int)).toNat (a ++ (vputF 9 n ++ r)) = vputF 9 n ++ r := by simp
  rw [e, vgetF_vputF 9 n 0 r rfl (by simpa using hn) (by simp)]
  simp

/-- What is got is what was put, byte by byte. -/
theorem vputF_vgetF : ∀ (l : List UInt8) (k i : Nat), i + k = 9 → (vgetF i l).2.2 = 0 → vputF k (vgetF i l).1 = l.take (vgetF i l).2.1 ∧ (0 < i → 0 < (vgetF i l).1)
  | [], k, i, hk, h => by simp [vgetF] at h
  | b :: r, k, i, hk, h => by
    have hb := b.toNat_lt
    unfold vgetF at h ⊢
    by_cases h9 : i = 9 ∧ 1 < b.toNat
    · rw [if_pos h9] at h; simp at h
    · rw [if_neg h9] at h ⊢
      by_cases hlt : b.toNat < 128
      · rw [if_pos hlt] at h ⊢
        by_cases h0 : b.toNat = 0 ∧ 0 < i
        · rw [if_pos h0] at h; simp at h
        · rw [if_neg h0]
          simp only
          rw [vputF_lt hlt, u8of_of_toNat]
          exact ⟨by simp, fun _ => by omega⟩
      · rw [if_neg hlt] at h ⊢
        by_cases he : (vgetF (i + 1) r).2.2 = 0
        · rw [if_pos he]
          cases k with
          | zero => exact absurd ⟨by omega, by omega⟩ h9
          | succ k =>
            have ih := vputF_vgetF r k (i + 1) (by omega) he
            have hp := ih.2 (by omega)
            simp only
            have hge : ¬ b.toNat % 128 + 128 * (vgetF (i + 1) r).1 < 128 := by omega
            rw [vputF, if_neg hge]
            have e1 : (b.toNat % 128 + 128 * (vgetF (i + 1) r).1) % 128 + 128 = b.toNat := by omega
            have e2 : (b.toNat % 128 + 128 * (vgetF (i + 1) r).1) / 128 = (vgetF (i + 1) r).1 := by omega
            rw [e1, e2, ih.1, u8of_of_toNat]
            exact ⟨by simp, fun _ => by omega⟩
        · rw [if_neg he] at h; exact absurd h he

/-- What is read so far, and what is still to be read, put together. -/
def comb (i acc : Nat) (r : Nat × Nat × Nat) : Nat × Nat × Nat := if r.2.2 = 0 then (acc + 128 ^ i * r.1, i + r.2.1, 0) else (0, 0, r.2.2)

/-- Where a reading of the number at q stands: byte i, at p; so far: acc. -/
def GetAt (l : List UInt8) (q i acc p sh : Nat) : Prop := acc < 128 ^ i ∧ p = q + i ∧ sh = 7 * i ∧ comb i acc (vgetF i (l.drop p)) = vgetF 0 (l.drop q)

theorem getAt_start (l : List UInt8) (q : Nat) : GetAt l q 0 0 q 0 := by
  refine ⟨by simp, rfl, rfl, ?_⟩
  unfold comb
  rcases vgetF_err 0 (l.drop q) with h | h | h
  · rw [if_pos h]
    exact Prod.ext (by simp) (Prod.ext (by simp) h.symm)
  · rw [h]; simp
  · rw [h]; simp

theorem vget_in {l : List UInt8} {q : Nat} (hq : q ≤ l.length) {r : Nat × Nat × Nat} (h : vgetF 0 (l.drop q) = r) :
    vget l q = if r.2.2 = 0 then (r.1, q + r.2.1, 0) else (0, 0, r.2.2) := by
  unfold vget
  rw [if_neg (by omega)]
  simp only [Int.toNat_natCast, h]

theorem getAt_end {l : List UInt8} {q i acc p sh : Nat} (h : GetAt l q i acc p sh) (hq : q ≤ l.length) (hp : p = l.length) : vget l q = (0, 0, 2) := by
  have e : vgetF 0 (l.drop q) = (0, 0, 2) := by
    rw [← h.2.2.2, hp]
    simp [vgetF, comb]
  rw [vget_in hq e]
  simp

theorem drop_at {l : List UInt8} {p : Nat} {b : UInt8} (hb : l[p]? = some b) : l.drop p = b :: l.drop (p + 1) := by
  obtain ⟨h, hb'⟩ := List.getElem?_eq_some_iff.1 hb
  rw [List.drop_eq_getElem_cons h, hb']

theorem getAt_form {l : List UInt8} {q i acc p sh : Nat} {b : UInt8} (h : GetAt l q i acc p sh) (hq : q ≤ l.length) (hb : l[p]? = some b)
    (hc : (i = 9 ∧ 1 < b.toNat) ∨ (b.toNat < 128 ∧ b.toNat = 0 ∧ 0 < i)) : vget l q = (0, 0, 3) := by
  have e : vgetF 0 (l.drop q) = (0, 0, 3) := by
    rw [← h.2.2.2, drop_at hb]
    unfold vgetF
    rcases hc with h1 | ⟨h1, h2⟩
    · rw [if_pos h1]; simp [comb]
    · by_cases h3 : i = 9 ∧ 1 < b.toNat
      · rw [if_pos h3]; simp [comb]
      · rw [if_neg h3, if_pos h1, if_pos h2]; simp [comb]
  rw [vget_in hq e]
  simp

theorem getAt_last {l : List UInt8} {q i acc p sh : Nat} {b : UInt8} (h : GetAt l q i acc p sh) (hq : q ≤ l.length) (hb : l[p]? = some b)
    (h1 : ¬ (i = 9 ∧ 1 < b.toNat)) (h2 : b.toNat < 128) (h3 : ¬ (b.toNat = 0 ∧ 0 < i)) : vget l q = (acc + b.toNat % 128 * 128 ^ i, p + 1, 0) := by
  have e : vgetF 0 (l.drop q) = (acc + b.toNat % 128 * 128 ^ i, i + 1, 0) := by
    rw [← h.2.2.2, drop_at hb]
    unfold vgetF
    rw [if_neg h1, if_pos h2, if_neg h3]
    simp only [comb, if_pos]
    rw [Nat.mod_eq_of_lt h2, Nat.mul_comm]
  rw [vget_in hq e]
  have := h.2.1
  simp
  omega

theorem getAt_next {l : List UInt8} {q i acc p sh : Nat} {b : UInt8} (h : GetAt l q i acc p sh) (hb : l[p]? = some b)
    (h1 : ¬ (i = 9 ∧ 1 < b.toNat)) (h2 : ¬ b.toNat < 128) : GetAt l q (i + 1) (acc + b.toNat % 128 * 128 ^ i) (p + 1) (sh + 7) := by
  obtain ⟨ha, hp, hs, hc⟩ := h
  refine ⟨?_, by omega, by omega, ?_⟩
  · have : b.toNat % 128 * 128 ^ i ≤ 127 * 128 ^ i := Nat.mul_le_mul_right _ (by omega)
    rw [Nat.pow_succ]
    omega
  · rw [← hc, drop_at hb]
    conv => rhs; unfold vgetF
    rw [if_neg h1, if_neg h2]
    unfold comb
    by_cases he : (vgetF (i + 1) (l.drop (p + 1))).2.2 = 0
    · simp only [if_pos he]
      simp only [if_true]
      refine Prod.ext ?_ (Prod.ext ?_ rfl)
      · show acc + b.toNat % 128 * 128 ^ i + 128 ^ (i + 1) * _ = acc + 128 ^ i * (b.toNat % 128 + 128 * _)
        rw [Nat.pow_succ, Nat.mul_add, Nat.mul_comm (128 ^ i) (b.toNat % 128), Nat.mul_assoc, Nat.add_assoc]
      · show i + 1 + _ = i + (_ + 1)
        omega
    · simp only [if_neg he]

/-- The text behind its length, at a place of bytes: text, place behind it, error. -/
def vtake (l : List UInt8) (p most : Int) : List UInt8 × Nat × Nat :=
  if (vget l p).2.2 ≠ 0 then ([], 0, (vget l p).2.2)
  else if most < 0 ∨ most < ((vget l p).1 : Int) then ([], 0, 3)
  else if l.length - (vget l p).2.1 < (vget l p).1 then ([], 0, 2)
  else ((l.drop (vget l p).2.1).take (vget l p).1, (vget l p).2.1 + (vget l p).1, 0)

theorem vget_facts {l : List UInt8} {p : Int} {n f er : Nat} (h : vget l p = (n, f, er)) :
    n < 18446744073709551616 ∧ f ≤ l.length ∧ (er = 0 → 0 ≤ p ∧ p.toNat < f) := by
  unfold vget at h
  by_cases h1 : p < 0 ∨ (l.length : Int) < p
  · rw [if_pos h1] at h
    simp only [Prod.mk.injEq] at h
    omega
  · rw [if_neg h1] at h
    have hb := vgetF_bound 0 (by omega) (l.drop p.toNat)
    by_cases h2 : (vgetF 0 (l.drop p.toNat)).2.2 = 0
    · rw [if_pos h2] at h
      have hu := vgetF_used 0 (l.drop p.toNat) h2
      simp only [Prod.mk.injEq] at h
      simp only [List.length_drop] at hu
      simp only [Nat.pow_zero, Nat.mul_one] at hb
      omega
    · rw [if_neg h2] at h
      simp only [Prod.mk.injEq] at h
      omega

/-- Numbers, one behind the other. -/
def vflat (l : List Nat) : List UInt8 := (l.map vput).flatten

/-- A text behind its length, as it stands within others, is taken. -/
theorem vtake_text (a t r : List UInt8) (most : Int) (ht : t.length < 18446744073709551616) (hm : (t.length : Int) ≤ most) :
    vtake (a ++ (vput t.length ++ t ++ r)) (a.length : Int) most = (t, a.length + (vput t.length).length + t.length, 0) := by
  unfold vtake
  rw [List.append_assoc, vget_vput _ ht]
  simp only [ne_eq, not_true_eq_false, if_false]
  rw [if_neg (by omega), if_neg (by simp; omega)]
  have e : List.drop (a.length + (vput t.length).length) (a ++ (vput t.length ++ (t ++ r))) = t ++ r := by
    rw [← List.append_assoc a]
    rw [List.drop_append_of_le_length (by simp)]
    rw [List.drop_of_length_le (by simp)]
    simp
  rw [e]
  simp

/-- Texts behind their lengths, one behind the other. -/
def tflat (l : List (List UInt8)) : List UInt8 := (l.map fun t => vput t.length ++ t).flatten

end Go.Proofs.YthfkfonfiejbmaaGreat

end

section

/-
  PLAIN MATHEMATICS OF LAYER 3 (ident): what a name is, its folding, the order of names, lists merged. No program in sight.
-/
namespace Go.Proofs.YthfkfonfiejbmaaGreat
open Go.Lib Go.Sort

/-! ### Names -/

def lcOk (b : UInt8) : Bool := decide (97 ≤ b.toNat) && decide (b.toNat ≤ 122)
def dgOk (b : UInt8) : Bool := (decide (48 ≤ b.toNat) && decide (b.toNat ≤ 57)) || decide (b.toNat = 45)
def inOk (b : UInt8) : Bool := lcOk b || dgOk b

def idIs (l : List UInt8) : Bool := decide (1 ≤ l.length) && (decide (l.length ≤ 16) && (lcOk (l.getD 0 0) && l.all inOk))

def low1 (b : UInt8) : UInt8 := if 65 ≤ b.toNat ∧ b.toNat ≤ 90 then u8of (b.toNat + 32) else b
def idLow (l : List UInt8) : List UInt8 := l.map low1

def idFold (l : List UInt8) : List UInt8 × Bool := if idIs (idLow l) = true then (idLow l, true) else ([], false)
def idPut (l : List UInt8) : List UInt8 × Bool := if idIs l = true then (vput l.length ++ l, true) else ([], false)
def idTake (l : List UInt8) (p : Int) : List UInt8 × Nat × Nat :=
  if (vtake l p 16).2.2 ≠ 0 then ([], 0, (vtake l p 16).2.2) else if idIs (vtake l p 16).1 = true then vtake l p 16 else ([], 0, 3)

theorem inOk_lt {b : UInt8} (h : inOk b = true) : b.toNat < 128 := by
  simp [inOk, lcOk, dgOk] at h
  omega

theorem low1_same {b : UInt8} (h : inOk b = true) : low1 b = b := by
  simp [inOk, lcOk, dgOk] at h
  unfold low1
  rw [if_neg (by omega)]

theorem idIs_parts {l : List UInt8} (h : idIs l = true) : 1 ≤ l.length ∧ l.length ≤ 16 ∧ lcOk (l.getD 0 0) = true ∧ l.all inOk = true := by
  unfold idIs at h
  simp only [Bool.and_eq_true, decide_eq_true_eq] at h
  exact ⟨h.1, h.2.1, h.2.2.1, h.2.2.2⟩

theorem idIs_mk {l : List UInt8} (h1 : 1 ≤ l.length) (h2 : l.length ≤ 16) (h3 : lcOk (l.getD 0 0) = true) (h4 : l.all inOk = true) : idIs l = true := by
  unfold idIs
  simp only [Bool.and_eq_true, decide_eq_true_eq]
  exact ⟨h1, h2, h3, h4⟩

theorem idLow_len (l : List UInt8) : (idLow l).length = l.length := by simp [idLow]

theorem idLow_same {l : List UInt8} (h : l.all inOk = true) : idLow l = l := by
  unfold idLow
  have e : l.map low1 = l.map id := List.map_congr_left (fun b hb => low1_same (List.all_eq_true.1 h b hb))
  rw [e, List.map_id]

theorem idIs_low {l : List UInt8} (h : idIs l = true) : idLow l = l := idLow_same (idIs_parts h).2.2.2

theorem idIs_long {l : List UInt8} (h : 16 < l.length) : idIs l = false := by
  rw [Bool.eq_false_iff]
  intro h'
  have := (idIs_parts h').2.1
  omega

theorem idFold_long {l : List UInt8} (h : 16 < l.length) : idFold l = ([], false) := by
  unfold idFold
  rw [if_neg (by rw [idIs_long (by rw [idLow_len]; exact h)]; decide)]

theorem idFold_cases (l : List UInt8) : (idFold l = (idLow l, true) ∧ idIs (idLow l) = true) ∨ (idFold l = ([], false) ∧ idIs (idLow l) = false ∧ idIs l = false) := by
  unfold idFold
  by_cases h : idIs (idLow l) = true
  · rw [if_pos h]; exact .inl ⟨rfl, h⟩
  · rw [if_neg h]
    refine .inr ⟨rfl, by simpa using h, ?_⟩
    rw [Bool.eq_false_iff]
    intro h'
    rw [idIs_low h'] at h
    exact h h'

/-- A byte that no name has. -/
theorem idIs_high {l : List UInt8} {b : UInt8} (hb : b ∈ l) (h : 128 ≤ b.toNat) : idIs l = false := by
  rw [Bool.eq_false_iff]
  intro h'
  have := inOk_lt (List.all_eq_true.1 (idIs_parts h').2.2.2 b hb)
  omega

theorem low1_high {b : UInt8} (h : 128 ≤ b.toNat) : low1 b = b := by
  unfold low1
  rw [if_neg (by omega)]

theorem idFold_high {l : List UInt8} {b : UInt8} (hb : b ∈ l) (h : 128 ≤ b.toNat) : idFold l = ([], false) := by
  unfold idFold
  rw [if_neg (by
    rw [idIs_high (l := idLow l) (b := b) (by
      unfold idLow
      exact List.mem_map.2 ⟨b, hb, low1_high h⟩) h]
    decide)]

/-! ### The order of names -/

def idCmp (a b : List UInt8) : Int := if a.length < b.length then -1 else if b.length < a.length then 1 else compareBytes a b

def idLess (a b : List UInt8) : Bool := decide (idCmp a b < 0)

theorem cb_swap : ∀ a b : List UInt8, compareBytes b a = - compareBytes a b
  | [], [] => rfl
  | [], _ :: _ => rfl
  | _ :: _, [] => rfl
  | a :: xs, b :: ys => by
    unfold compareBytes
    by_cases h1 : a < b
    · have h2 : ¬ b < a := fun h => by rw [UInt8.lt_iff_toNat_lt] at *; omega
      rw [if_pos h1, if_neg h2, if_pos h1]; rfl
    · rw [if_neg h1]
      by_cases h2 : b < a
      · rw [if_pos h2, if_neg h1, if_pos h2]
      · rw [if_neg h2, if_neg h2, if_neg h1]
        exact cb_swap xs ys

theorem cb_zero : ∀ {a b : List UInt8}, compareBytes a b = 0 → a = b
  | [], [], _ => rfl
  | [], _ :: _, h => by simp [compareBytes] at h
  | _ :: _, [], h => by simp [compareBytes] at h
  | a :: xs, b :: ys, h => by
    unfold compareBytes at h
    by_cases h1 : a < b
    · rw [if_pos h1] at h; simp at h
    · rw [if_neg h1] at h
      by_cases h2 : b < a
      · rw [if_pos h2] at h; simp at h
      · rw [if_neg h2] at h
        have e : a = b := by
          rw [UInt8.lt_iff_toNat_lt] at h1 h2
          exact UInt8.toNat_inj.1 (by omega)
        rw [e, cb_zero h]

theorem cb_self : ∀ a : List UInt8, compareBytes a a = 0
  | [] => rfl
  | a :: xs => by
    unfold compareBytes
    have h : ¬ a < a := fun h => by rw [UInt8.lt_iff_toNat_lt] at h; omega
    rw [if_neg h, if_neg h]
    exact cb_self xs

theorem cb_trans : ∀ {a b c : List UInt8}, compareBytes a b ≤ 0 → compareBytes b c ≤ 0 → compareBytes a c ≤ 0 ∧ (compareBytes a b < 0 ∨ compareBytes b c < 0 → compareBytes a c < 0)
  | [], [], c, _, h2 => ⟨h2, fun h => by
      rcases h with h | h
      · simp [compareBytes] at h
      · exact h⟩
  | [], _ :: _, [], _, h2 => by simp [compareBytes] at h2
  | [], _ :: _, _ :: _, _, _ => by simp [compareBytes]
  | _ :: _, [], _, h1, _ => by simp [compareBytes] at h1
  | _ :: _, _ :: _, [], _, h2 => by simp [compareBytes] at h2
  | a :: xs, b :: ys, c :: zs, h1, h2 => by
    unfold compareBytes at h1 h2 ⊢
    simp only [UInt8.lt_iff_toNat_lt] at h1 h2 ⊢
    by_cases p1 : a.toNat < b.toNat
    · by_cases p2 : b.toNat < c.toNat
      · rw [if_pos (show a.toNat < c.toNat by omega)]; simp
      · rw [if_neg p2] at h2
        by_cases p3 : c.toNat < b.toNat
        · rw [if_pos p3] at h2; simp at h2
        · rw [if_pos (show a.toNat < c.toNat by omega)]; simp
    · rw [if_neg p1] at h1 ⊢
      by_cases p2 : b.toNat < a.toNat
      · rw [if_pos p2] at h1; simp at h1
      · rw [if_neg p2] at h1 ⊢
        by_cases p3 : b.toNat < c.toNat
        · rw [if_pos (show a.toNat < c.toNat by omega)]; simp
        · rw [if_neg p3] at h2 ⊢
          by_cases p4 : c.toNat < b.toNat
          · rw [if_pos p4] at h2; simp at h2
          · rw [if_neg p4] at h2 ⊢
            rw [if_neg (show ¬ a.toNat < c.toNat by omega), if_neg (show ¬ c.toNat < a.toNat by omega)]
            exact cb_trans h1 h2

theorem idCmp_swap (a b : List UInt8) : idCmp b a = - idCmp a b := by
  unfold idCmp
  by_cases h1 : a.length < b.length
  · rw [if_neg (by omega), if_pos h1, if_pos h1]; rfl
  · by_cases h2 : b.length < a.length
    · rw [if_pos h2, if_neg h1, if_pos h2]
    · rw [if_neg h2, if_neg h1, if_neg h1, if_neg h2]
      exact cb_swap a b

theorem idCmp_zero {a b : List UInt8} (h : idCmp a b = 0) : a = b := by
  unfold idCmp at h
  by_cases h1 : a.length < b.length
  · rw [if_pos h1] at h; simp at h
  · rw [if_neg h1] at h
    by_cases h2 : b.length < a.length
    · rw [if_pos h2] at h; simp at h
    · rw [if_neg h2] at h
      exact cb_zero h

theorem idCmp_self (a : List UInt8) : idCmp a a = 0 := by
  unfold idCmp
  rw [if_neg (by omega), if_neg (by omega)]
  exact cb_self a

theorem idCmp_trans {a b c : List UInt8} (h1 : idCmp a b ≤ 0) (h2 : idCmp b c ≤ 0) : idCmp a c ≤ 0 ∧ (idCmp a b < 0 ∨ idCmp b c < 0 → idCmp a c < 0) := by
  unfold idCmp at h1 h2 ⊢
  by_cases p1 : a.length < b.length
  · by_cases p3 : c.length < b.length
    · rw [if_neg (by omega), if_pos p3] at h2; simp at h2
    · rw [if_pos (show a.length < c.length by omega)]; simp
  · rw [if_neg p1] at h1 ⊢
    by_cases p2 : b.length < a.length
    · rw [if_pos p2] at h1; simp at h1
    · rw [if_neg p2] at h1 ⊢
      by_cases p3 : b.length < c.length
      · rw [if_pos (show a.length < c.length by omega)]; simp
      · rw [if_neg p3] at h2 ⊢
        by_cases p4 : c.length < b.length
        · rw [if_pos p4] at h2; simp at h2
        · rw [if_neg p4] at h2 ⊢
          rw [if_neg (show ¬ a.length < c.length by omega), if_neg (show ¬ c.length < a.length by omega)]
          exact cb_trans h1 h2

theorem idLess_trans {a b c : List UInt8} (h1 : idLess a b = true) (h2 : idLess b c = true) : idLess a c = true := by
  unfold idLess at *
  simp only [decide_eq_true_eq] at *
  exact (idCmp_trans (by omega) (by omega)).2 (.inl h1)

theorem idLess_irrefl (a : List UInt8) : idLess a a = false := by
  unfold idLess
  rw [idCmp_self]
  rfl

/-- Just one of the three. -/
theorem idLess_tri (a b : List UInt8) : (idLess a b = true ∧ idLess b a = false ∧ ¬ a = b) ∨ (idLess a b = false ∧ idLess b a = true ∧ ¬ a = b) ∨ (idLess a b = false ∧ idLess b a = false ∧ a = b) := by
  have hs := idCmp_swap a b
  by_cases h0 : idCmp a b = 0
  · have e := idCmp_zero h0
    subst e
    exact .inr (.inr ⟨idLess_irrefl _, idLess_irrefl _, rfl⟩)
  · have hne : ¬ a = b := fun e => h0 (by rw [e]; exact idCmp_self b)
    unfold idLess
    by_cases h : idCmp a b < 0
    · exact .inl ⟨by simpa using h, by simp; omega, hne⟩
    · exact .inr (.inl ⟨by simpa using h, by simp; omega, hne⟩)

/-- The document's own word for it. -/
theorem bytesLess_cb : ∀ a b : List UInt8, Op.bytesLess a b = decide (compareBytes a b < 0)
  | [], [] => rfl
  | [], _ :: _ => rfl
  | _ :: _, [] => rfl
  | a :: xs, b :: ys => by
    unfold Op.bytesLess compareBytes
    by_cases h1 : a < b
    · simp [h1]
    · by_cases h2 : b < a
      · have : ¬ a = b := fun e => h1 (by rw [e] at h2 ⊢; exact h2)
        simp [h1, h2, this]
      · have e : a = b := by
          rw [UInt8.lt_iff_toNat_lt] at h1 h2
          exact UInt8.toNat_inj.1 (by omega)
        rw [if_neg h1, if_neg h2]
        subst e
        simp [bytesLess_cb xs ys]

theorem idLess_doc (a b : List UInt8) : idLess a b = (decide (a.length < b.length) || (decide (a.length = b.length) && Op.bytesLess a b)) := by
  unfold idLess idCmp
  rw [bytesLess_cb]
  by_cases h1 : a.length < b.length
  · simp [h1]
  · by_cases h2 : b.length < a.length
    · have : ¬ a.length = b.length := by omega
      rw [if_neg h1, if_pos h2]
      simp [h1, this]
    · have : a.length = b.length := by omega
      rw [if_neg h1, if_neg h2]
      simp [this]

/-! ### Lists merged -/

/-- By Less, each once. -/
def Rising (l : List (List UInt8)) : Prop := l.Pairwise fun x y => idLess x y = true

/-- A text laid into a list by Less, once. -/
def ins (x : List UInt8) : List (List UInt8) → List (List UInt8)
  | [] => [x]
  | y :: l => if idLess y x = true then y :: ins x l else if y = x then y :: l else x :: y :: l

def mrg (a : List (List UInt8)) : List (List UInt8) := a.foldl (fun out x => ins x out) []

end Go.Proofs.YthfkfonfiejbmaaGreat

end

section

/-
  LAYER 7, PLAIN: items that face one another, and what is done to them.
-/
namespace Go.Proofs.YthfkfonfiejbmaaGreat

structure It where
  to : Bool
  fr : Bool
  out : Bool
  inn : Bool
  bl : Bool
deriving DecidableEq

def It.zero : It := ⟨false, false, false, false, false⟩

def suMay (a b : It) : Bool := (a.to == b.fr) && ((a.fr == b.to) && ((a.out == b.inn) && ((a.inn == b.out) && (!(a.to && a.out) && !(b.to && b.out)))))
def suSees (a b : It) : Bool := a.to && (!a.bl && !b.bl)
def suEmpty (a : It) : Bool := !a.to && (!a.fr && (!a.out && (!a.inn && !a.bl)))
def suName (a : It) : List UInt8 :=
  if a.to = true then (if a.fr = true then [98, 111, 116, 104] else [116, 111]) else (if a.fr = true then [102, 114, 111, 109] else [110, 111, 110, 101])

/-- What is done of items that may be. -/
def suDo (a b : It) (k : Int) : It × It × Nat :=
  if k = 1 then (if (a.bl || b.bl) = true then (a, b, 8) else if (a.to || a.out) = true then (a, b, 7) else (⟨a.to, a.fr, true, a.inn, a.bl⟩, ⟨b.to, b.fr, b.out, true, b.bl⟩, 0))
  else if k = 2 then (if (a.bl || b.bl) = true then (a, b, 8) else if a.inn = false then (a, b, 7) else (⟨a.to, true, a.out, false, a.bl⟩, ⟨true, b.fr, false, b.inn, b.bl⟩, 0))
  else if k = 3 then (if (a.to || a.out) = false then (a, b, 7) else (⟨false, a.fr, false, a.inn, a.bl⟩, ⟨b.to, false, b.out, false, b.bl⟩, 0))
  else if k = 4 then (if (a.fr || a.inn) = false then (a, b, 7) else (⟨a.to, false, a.out, false, a.bl⟩, ⟨false, b.fr, false, b.inn, b.bl⟩, 0))
  else if k = 5 then (if a.bl = true then (a, b, 7) else (⟨a.to, a.fr, a.out, a.inn, true⟩, b, 0))
  else (if a.bl = false then (a, b, 7) else (⟨a.to, a.fr, a.out, a.inn, false⟩, b, 0))

def suAct (a b : It) (k : Int) : It × It × Nat :=
  if suMay a b = true ∧ 1 ≤ k ∧ k ≤ 6 then suDo a b k else (a, b, 1)

/-- Beside an error nothing has turned. -/
theorem suAct_err {a b x y : It} {k : Int} {e : Nat} (h : suAct a b k = (x, y, e)) (he : e ≠ 0) : x = a ∧ y = b := by
  unfold suAct at h
  split at h
  · unfold suDo at h
    repeat' split at h
    all_goals (simp only [Prod.mk.injEq] at h; obtain ⟨h1, h2, h3⟩ := h; first | exact ⟨h1.symm, h2.symm⟩ | exact absurd h3.symm he)
  · simp only [Prod.mk.injEq] at h
    exact ⟨h.1.symm, h.2.1.symm⟩

end Go.Proofs.YthfkfonfiejbmaaGreat

end

section

/-
  LAYER 8, PLAIN: entries of rosters, their order, where one belongs; what may be.
-/
namespace Go.Proofs.YthfkfonfiejbmaaGreat

structure Ent where
  o : List UInt8
  c : List UInt8
  it : It

def Ent.zero : Ent := ⟨[], [], It.zero⟩

/-- One entry's place is ahead of the other one's. -/
def entLt (a b : Ent) : Bool := idLess a.o b.o || (decide (a.o = b.o) && idLess a.c b.c)

/-- The same Owner and Contact. -/
def entIs (a b : Ent) : Bool := decide (a.o = b.o) && decide (a.c = b.c)

theorem entLt_irrefl (a : Ent) : entLt a a = false := by
  unfold entLt
  rw [idLess_irrefl, idLess_irrefl]
  simp

theorem entLt_trans {a b c : Ent} (h1 : entLt a b = true) (h2 : entLt b c = true) : entLt a c = true := by
  unfold entLt at *
  simp only [Bool.or_eq_true, Bool.and_eq_true, decide_eq_true_eq] at *
  rcases h1 with h1 | ⟨e1, h1⟩
  · rcases h2 with h2 | ⟨e2, h2⟩
    · exact .inl (idLess_trans h1 h2)
    · rw [← e2]; exact .inl h1
  · rcases h2 with h2 | ⟨e2, h2⟩
    · rw [e1]; exact .inl h2
    · exact .inr ⟨e1.trans e2, idLess_trans h1 h2⟩

/-- Just one of the three. -/
theorem entLt_tri (a b : Ent) : (entLt a b = true ∧ entLt b a = false ∧ entIs a b = false) ∨ (entLt a b = false ∧ entLt b a = true ∧ entIs a b = false) ∨ (entLt a b = false ∧ entLt b a = false ∧ entIs a b = true) := by
  unfold entLt entIs
  rcases idLess_tri a.o b.o with ⟨h1, h2, h3⟩ | ⟨h1, h2, h3⟩ | ⟨h1, h2, h3⟩
  · have h3' : ¬ b.o = a.o := fun e => h3 e.symm
    exact .inl ⟨by simp [h1], by simp [h2, h3'], by simp [h3]⟩
  · have h3' : ¬ b.o = a.o := fun e => h3 e.symm
    exact .inr (.inl ⟨by simp [h1, h3], by simp [h2], by simp [h3]⟩)
  · rcases idLess_tri a.c b.c with ⟨g1, g2, g3⟩ | ⟨g1, g2, g3⟩ | ⟨g1, g2, g3⟩
    · exact .inl ⟨by simp [h3, g1], by simp [h3, idLess_irrefl, g2], by simp [h3, g3]⟩
    · exact .inr (.inl ⟨by simp [h3, idLess_irrefl, g1], by simp [h3, g2], by simp [h3, g3]⟩)
    · exact .inr (.inr ⟨by simp [h3, idLess_irrefl, g1], by simp [h3, idLess_irrefl, g2], by simp [h3, g3]⟩)

theorem entIs_iff {a b : Ent} : entIs a b = true ↔ a.o = b.o ∧ a.c = b.c := by
  unfold entIs
  simp

theorem entLt_same {a b x : Ent} (h : entIs a b = true) : entLt a x = entLt b x ∧ entLt x a = entLt x b := by
  obtain ⟨h1, h2⟩ := entIs_iff.1 h
  unfold entLt
  rw [h1, h2]
  exact ⟨rfl, rfl⟩

/-- Entries rise. -/
def Rise (l : List Ent) : Prop := l.Pairwise fun a b => entLt a b = true

/-- How many stand ahead of x. -/
def entPlace (l : List Ent) (x : Ent) : Nat := (l.takeWhile fun e => entLt e x).length

theorem entPlace_le (l : List Ent) (x : Ent) : entPlace l x ≤ l.length := by
  unfold entPlace
  exact (List.takeWhile_sublist _).length_le

/-- In entries that rise just those ahead of its place are less. -/
theorem entPlace_spec : ∀ {l : List Ent} (_ : Rise l) (x : Ent) {h : Nat} (_ : h < l.length), entLt (l.getD h Ent.zero) x = decide (h < entPlace l x)
  | [], _, _, _, hh => by simp at hh
  | e :: l, hr, x, h, hh => by
    obtain ⟨h1, h2⟩ := List.pairwise_cons.1 hr
    unfold entPlace
    rw [List.takeWhile_cons]
    by_cases he : entLt e x = true
    · rw [if_pos he]
      cases h with
      | zero => simp [he]
      | succ h =>
        have ih := entPlace_spec h2 x (h := h) (by simpa using hh)
        simp only [List.getD_cons_succ, List.length_cons]
        rw [ih]
        unfold entPlace
        simp
    · rw [if_neg he]
      simp only [List.length_nil, Nat.not_lt_zero, decide_false]
      cases h with
      | zero => simpa using he
      | succ h =>
        simp only [List.getD_cons_succ]
        rw [Bool.eq_false_iff]
        intro hx
        have hh' : h < l.length := by simpa using hh
        have hm : l.getD h Ent.zero ∈ l := by
          rw [List.getD_eq_getElem?_getD, List.getElem?_eq_getElem hh']
          exact List.getElem_mem hh'
        exact he (entLt_trans (h1 _ hm) hx)

/-- One of that Owner and Contact is there just if it stands at its place. -/
theorem entPlace_there {l : List Ent} (hr : Rise l) (x : Ent) : (decide (entPlace l x < l.length) && entIs (l.getD (entPlace l x) Ent.zero) x) = l.any fun e => entIs e x := by
  rw [Bool.eq_iff_iff]
  simp only [Bool.and_eq_true, decide_eq_true_eq, List.any_eq_true]
  constructor
  · rintro ⟨h1, h2⟩
    refine ⟨_, ?_, h2⟩
    rw [List.getD_eq_getElem?_getD, List.getElem?_eq_getElem h1]
    exact List.getElem_mem h1
  · rintro ⟨e, he, hx⟩
    obtain ⟨i, hi, rfl⟩ := List.getElem_of_mem he
    have g : ∀ j (hj : j < l.length), l.getD j Ent.zero = l[j] := fun j hj => by rw [List.getD_eq_getElem?_getD, List.getElem?_eq_getElem hj]; rfl
    have hi1 := entPlace_spec hr x hi
    rw [g i hi] at hi1
    rw [(entLt_same hx).1, entLt_irrefl] at hi1
    have hle : entPlace l x ≤ i := by
      have := decide_eq_false_iff_not.1 hi1.symm
      omega
    have hp : entPlace l x < l.length := by omega
    refine ⟨hp, ?_⟩
    rw [g _ hp]
    by_cases e : entPlace l x = i
    · simp only [e]; exact hx
    · exfalso
      have hlt : entPlace l x < i := by omega
      have h3 := (List.pairwise_iff_getElem.1 hr) _ _ hp hi hlt
      have h4 := entPlace_spec hr x hp
      rw [g _ hp, ← (entLt_same hx).2, h3] at h4
      simp at h4

end Go.Proofs.YthfkfonfiejbmaaGreat

end

section

/-
  LAYER 8, PLAIN: an Owner has more entries than may be just if one stands sixteen places behind one of the same Owner.
-/
namespace Go.Proofs.YthfkfonfiejbmaaGreat

def ofOwner (o : List UInt8) (e : Ent) : Bool := decide (e.o = o)

/-- The Contacts of that Owner. -/
def roOf (l : List Ent) (o : List UInt8) : List (List UInt8) := (l.filter (ofOwner o)).map fun e => e.c

theorem roOf_len (l : List Ent) (o : List UInt8) : (roOf l o).length = (l.filter (ofOwner o)).length := by simp [roOf]

/-- One more than its Owner may have. -/
def roOver (l : List Ent) (i : Nat) : Bool := decide (16 ≤ i) && decide ((l.getD (i - 16) Ent.zero).o = (l.getD i Ent.zero).o)

/-- Owners don't go back. -/
theorem entLt_owner {a b : Ent} (h : entLt a b = true) : idLess b.o a.o = false := by
  unfold entLt at h
  simp only [Bool.or_eq_true, Bool.and_eq_true, decide_eq_true_eq] at h
  rcases h with h | ⟨h, _⟩
  · rcases idLess_tri a.o b.o with ⟨_, g, _⟩ | ⟨g, _, _⟩ | ⟨g, _, _⟩
    · exact g
    · rw [h] at g; cases g
    · rw [h] at g; cases g
  · rw [h]; exact idLess_irrefl _

/-- What stands between two of one Owner is that Owner's. -/
theorem between {a b c : Ent} (h1 : entLt a b = true) (h2 : entLt b c = true) (h : a.o = c.o) : b.o = c.o := by
  have g1 := entLt_owner h1
  have g2 := entLt_owner h2
  rw [h] at g1
  rcases idLess_tri b.o c.o with ⟨g, _, _⟩ | ⟨_, g, _⟩ | ⟨_, _, g⟩
  · rw [g1] at g; cases g
  · rw [g2] at g; cases g
  · exact g

/-- Behind an entry of that Owner, its entries stand together. -/
theorem filter_while {o : List UInt8} : ∀ {e : Ent} {l : List Ent}, Rise (e :: l) → e.o = o → l.filter (ofOwner o) = l.takeWhile (ofOwner o)
  | _, [], _, _ => rfl
  | e, x :: l, hr, he => by
    obtain ⟨h1, h2⟩ := List.pairwise_cons.1 hr
    rw [List.filter_cons, List.takeWhile_cons]
    by_cases hx : x.o = o
    · have : ofOwner o x = true := by simp [ofOwner, hx]
      rw [if_pos this, if_pos this, filter_while h2 hx]
    · have : ¬ ofOwner o x = true := by simp [ofOwner, hx]
      rw [if_neg this, if_neg this, List.filter_eq_nil_iff]
      intro y hy hyo
      have hyo' : y.o = o := by simpa [ofOwner] using hyo
      have hex := h1 x (by simp)
      have hxy := (List.pairwise_cons.1 h2).1 y hy
      exact hx ((between hex hxy (he.trans hyo'.symm)).trans hyo')

theorem takeWhile_get {p : Ent → Bool} : ∀ {l : List Ent} {i : Nat}, i < (l.takeWhile p).length → p (l.getD i Ent.zero) = true
  | [], _, h => by simp at h
  | x :: l, i, h => by
    rw [List.takeWhile_cons] at h
    by_cases hx : p x = true
    · rw [if_pos hx] at h
      cases i with
      | zero => exact hx
      | succ i => exact takeWhile_get (l := l) (i := i) (by simpa using h)
    · rw [if_neg hx] at h; simp at h

/-- More than sixteen: one stands sixteen places behind. -/
theorem over_of_many (o : List UInt8) : ∀ {l : List Ent}, Rise l → 16 < (l.filter (ofOwner o)).length → ∃ i, i < l.length ∧ (l.getD i Ent.zero).o = o ∧ roOver l i = true
  | [], _, h => by simp at h
  | e :: l, hr, h => by
    rw [List.filter_cons] at h
    by_cases he : e.o = o
    · have hp : ofOwner o e = true := by simp [ofOwner, he]
      rw [if_pos hp, filter_while hr he] at h
      have h15 : 15 < (l.takeWhile (ofOwner o)).length := by rw [List.length_cons] at h; omega
      have hg := takeWhile_get h15
      have hlen := (List.takeWhile_sublist (ofOwner o) (l := l)).length_le
      refine ⟨16, by simp only [List.length_cons]; omega, by simpa [ofOwner] using hg, ?_⟩
      unfold roOver
      have : (l.getD 15 Ent.zero).o = o := by simpa [ofOwner] using hg
      show (decide (16 ≤ 16) && decide (e.o = (l.getD 15 Ent.zero).o)) = true
      rw [this, he]
      simp
    · have hp : ¬ ofOwner o e = true := by simp [ofOwner, he]
      rw [if_neg hp] at h
      obtain ⟨i, h1, h2, h3⟩ := over_of_many o (List.pairwise_cons.1 hr).2 h
      refine ⟨i + 1, by simp only [List.length_cons]; omega, h2, ?_⟩
      unfold roOver at h3 ⊢
      simp only [Bool.and_eq_true, decide_eq_true_eq] at h3 ⊢
      refine ⟨by omega, ?_⟩
      rw [show i + 1 - 16 = (i - 16) + 1 by omega]
      exact h3.2

theorem getD_at {l : List Ent} {i : Nat} (h : i < l.length) : l.getD i Ent.zero = l[i] := by
  rw [List.getD_eq_getElem?_getD, List.getElem?_eq_getElem h]; rfl

/-- .. and the other way round. -/
theorem many_of_over {l : List Ent} (hr : Rise l) {i : Nat} (hi : i < l.length) (h : roOver l i = true) : 16 < (l.filter (ofOwner (l.getD i Ent.zero).o)).length := by
  unfold roOver at h
  simp only [Bool.and_eq_true, decide_eq_true_eq] at h
  obtain ⟨h16, ho⟩ := h
  have hp := List.pairwise_iff_getElem.1 hr
  have hall : ∀ j, i - 16 ≤ j → j ≤ i → (l.getD j Ent.zero).o = (l.getD i Ent.zero).o := by
    intro j h1 h2
    by_cases e1 : j = i
    · rw [e1]
    · by_cases e2 : j = i - 16
      · rw [e2]; exact ho
      · have hj : j < l.length := by omega
        have hk : i - 16 < l.length := by omega
        have a := hp (i - 16) j hk hj (by omega)
        have b := hp j i hj hi (by omega)
        rw [getD_at hk, getD_at hi] at ho
        rw [getD_at hj, getD_at hi]
        exact between a b ho
  have hsub : ((l.drop (i - 16)).take 17).Sublist l := (List.take_sublist _ _).trans (List.drop_sublist _ _)
  have hf := hsub.filter (ofOwner (l.getD i Ent.zero).o)
  have hs : ((l.drop (i - 16)).take 17).filter (ofOwner (l.getD i Ent.zero).o) = (l.drop (i - 16)).take 17 := by
    rw [List.filter_eq_self]
    intro e he
    obtain ⟨j, hj, rfl⟩ := List.getElem_of_mem he
    have hj' : j < 17 ∧ i - 16 + j < l.length := by
      rw [List.length_take, List.length_drop] at hj
      omega
    have := hall (i - 16 + j) (by omega) (by omega)
    rw [getD_at hj'.2] at this
    simp only [ofOwner, List.getElem_take, List.getElem_drop, decide_eq_true_eq]
    exact this
  rw [hs] at hf
  have := hf.length_le
  rw [List.length_take, List.length_drop] at this
  omega

/-- No Owner has more than may be just if nothing stands sixteen places behind one of the same Owner. -/
theorem over_iff {l : List Ent} (hr : Rise l) : (∀ i, i < l.length → (roOf l (l.getD i Ent.zero).o).length ≤ 16) ↔ ∀ i, i < l.length → roOver l i = false := by
  constructor
  · intro h i hi
    rw [Bool.eq_false_iff]
    intro ho
    have h1 := many_of_over hr hi ho
    have h2 := h i hi
    rw [roOf_len] at h2
    omega
  · intro h i hi
    rw [roOf_len]
    apply Nat.le_of_not_lt
    intro hm
    obtain ⟨j, h1, _, h3⟩ := over_of_many _ hr hm
    rw [h j h1] at h3
    cases h3

end Go.Proofs.YthfkfonfiejbmaaGreat

end

section

/-
  SMALL LAWS OVER ANY PROGRAM, for the walks of this seat: bytes as cells' values, and a text made of a row of bytes that the call owns.
-/
namespace Go.Proofs.YthfkfonfiejbmaaGreat
open Go.RowKit

/-- Bytes as the values of cells. -/
def bvals (l : List UInt8) : List Value := l.map fun b => .int .u8 b.toNat

theorem ret_int {k : IntKind} {a b : Int} (h : a = b) : Ending.returned (.int k a) = .returned (.int k b) := by rw [h]

theorem bvals_append (a b : List UInt8) : bvals (a ++ b) = bvals a ++ bvals b := by simp [bvals]
theorem strOfNums_bytes (xs : List UInt8) : strOfNums (xs.map fun b => (b.toNat : Int)) = ⟨xs.toArray⟩ := by
  have h : xs.map ((fun n : Int => UInt8.ofNat n.toNat) ∘ fun b : UInt8 => (b.toNat : Int)) = xs.map id := List.map_congr_left fun b _ => by simp
  simp only [strOfNums, List.map_map]
  rw [h, List.map_id]

/-- string(b), b a row of bytes of the call's own, or nil. -/
theorem run_convert_owned {P : Program} {w : World} (src e dst : TypeId) (hs : P.underlying src = some (.slice e)) (he : P.underlying e = some (.int .u8)) (hd : P.underlying dst = some .string)
    {base n : Nat} {v : Value} {xs : List UInt8} (h : w.ownsRow base e 1 v n (bvals xs)) :
    (convert src dst v).run P w = .ok (.string ⟨xs.toArray⟩) w := by
  rcases h with ⟨hl, ⟨rfl, rfl⟩ | ⟨g, cap, cur, rfl, hb, hg, hn, hc, hsz, htk⟩⟩
  · have hx : xs = [] := by simpa [bvals] using hl
    subst hx
    rw [run_convert_bytes_nil w src e hs he 0 0 dst hd]
    rfl
  · have hlen : xs.length = n := by simpa [bvals] using hl
    rw [← strOfNums_bytes]
    refine run_convert_bytes_arg w src e hs he g 0 n cap (xs.map fun b => (b.toNat : Int)) (by simpa using hlen) (fun i hi => ?_) dst hd
    rw [Nat.zero_add, cell_of_row w g i cur e (0, 0) hg]
    have h1 : cur.toList[i]? = (bvals xs)[i]? := by
      rw [← htk, List.getElem?_take, if_pos (by omega)]
    have h2 : (bvals xs)[i]? = some (.int .u8 ((xs.map fun b => (b.toNat : Int)).getD i 0)) := by
      have : i < xs.length := by omega
      simp [bvals, List.getD, List.getElem?_eq_getElem this]
    rw [← h2, ← h1]
    simp

theorem cells_one (w : World) (u : Value) (e : TypeId) : ∀ j x, [u][j]? = some x → (w.alloc (.cells #[u] e)).cell? ((⟨w.heap.size, 0, none⟩ : Addr).add j) = some x := by
  intro j x hj
  match j, hj with
  | 0, hj =>
    simp at hj
    subst hj
    simp [Addr.add]

/-- 'out = append(out, u)', out nil or a row of the call's own, u of one cell: what is owned is longer by u, and below 'base' nothing has turned. -/
theorem wpList_append_one {P : Program} {w : World} {ops : Array Oper} {rest : List Oper} {o : Oper} {a : Act} {Q : Exit → Act → World → Prop} (u : Value)
    (hgd : o.guard = none) (s x : Operand) (t : TypeId) (ho : o.op = .call { callee := .builtin .append, args := #[s, x], argTypes := #[t, t] })
    (base : Nat) (e : TypeId) (i : TypeInfo) (z : Value) (bytes : Nat) (ht : P.underlying t = some (.slice e)) (hi : P.info? e = some i) (hz : i.zero = some z)
    (hsize : i.size = 1) (hby : i.bytes = bytes) (hzs : z.cells.size = 1)
    (v : Value) (n : Nat) (xs : List Value) (hs : a.eval s = v) (hown : w.ownsRow base e 1 v n xs)
    (hx : a.eval x = .slice (some ⟨w.heap.size, 0, none⟩) 1 1) (h1 : u.oneCell' = true)
    (hbytes : n < 4294967296) (hb : bytes ≤ 4096) (hbase : base ≤ w.heap.size)
    (h : ∀ v' w', w'.ownsRow base e 1 v' (n + 1) (xs ++ [u]) → Below base w w' → wpList P ops Q rest (a.put o.dst v') w') :
    wpList P ops Q (o :: rest) a (w.alloc (.cells #[u] e)) := by
  refine wpList_append_own _ hgd s x t ho base e i z 1 bytes ht hi hz hsize hby hzs (by decide) v n xs hs (hown.alloc _) ⟨w.heap.size, 0, none⟩ 1 1 [u] hx rfl (cells_one w u e) (by simpa using h1)
    (by unfold maxLen; omega) (Nat.le_trans (Nat.mul_le_mul (show n + 1 ≤ 4294967296 by omega) hb) (by decide)) (by simp; omega) ?_
  intro v' w' hown' hgrow _
  refine h v' w' hown' (((Below.refl base w).alloc hbase _).grown hgrow (by simp; omega) (fun k hk => (hown.lt k hk).1))

/-- The same for a byte, whatever the walk calls the number. -/
theorem wpList_append_u8 {P : Program} {w : World} {ops : Array Oper} {rest : List Oper} {o : Oper} {a : Act} {Q : Exit → Act → World → Prop} (Y : Int) (y : Nat) (hY : Y = (y : Int)) (hy : y < 256)
    (hgd : o.guard = none) (s x : Operand) (t : TypeId) (ho : o.op = .call { callee := .builtin .append, args := #[s, x], argTypes := #[t, t] })
    (base : Nat) (e : TypeId) (i : TypeInfo) (ht : P.underlying t = some (.slice e)) (hi : P.info? e = some i) (hz : i.zero = some (.int .u8 0))
    (hsize : i.size = 1) (hby : i.bytes = 1)
    (v : Value) (xs : List UInt8) (hs : a.eval s = v) (hown : w.ownsRow base e 1 v xs.length (bvals xs))
    (hx : a.eval x = .slice (some ⟨w.heap.size, 0, none⟩) 1 1) (hlen : xs.length < 4294967296) (hbase : base ≤ w.heap.size)
    (h : ∀ v' w', w'.ownsRow base e 1 v' (xs ++ [u8of y]).length (bvals (xs ++ [u8of y])) → Below base w w' → wpList P ops Q rest (a.put o.dst v') w') :
    wpList P ops Q (o :: rest) a (w.alloc (.cells #[.int .u8 Y] e)) := by
  subst hY
  have e1 : bvals (xs ++ [u8of y]) = bvals xs ++ [.int .u8 (y : Int)] := by
    rw [bvals_append]
    have : (u8of y).toNat = y := u8of_toNat hy
    simp [bvals, this]
  refine wpList_append_one (.int .u8 (y : Int)) hgd s x t ho base e i (.int .u8 0) 1 ht hi hz hsize hby rfl v xs.length (bvals xs) hs hown hx rfl hlen (by decide) hbase ?_
  intro v' w' hown' hb
  refine h v' w' ?_ hb
  rw [e1]
  simpa using hown'

theorem or128 (x : Nat) : bits .or .u8 ((x : Int) % 256) 128 = ((x % 128 + 128 : Nat) : Int) := by
  have h1 : (x : Int) % 256 = ((x % 256 : Nat) : Int) := by omega
  rw [h1, show (128 : Int) = ((128 : Nat) : Int) from rfl, u8_or_nat _ _ (by omega) (by omega)]
  congr 1
  rw [Nat.or_comm]
  have e : x % 256 = 128 * (x / 128 % 2) + x % 128 := by omega
  have h2 : x / 128 % 2 = 0 ∨ x / 128 % 2 = 1 := by omega
  have h3 : x % 128 < 2 ^ 7 := by omega
  have h4 : 128 + x % 128 = 128 ||| x % 128 := Nat.two_pow_add_eq_or_of_lt (i := 7) h3 1
  rcases h2 with h | h
  · rw [e, h, Nat.mul_zero, Nat.zero_add, ← h4]
    omega
  · rw [e, h, Nat.mul_one, h4, ← Nat.or_assoc, Nat.or_self, ← h4]
    omega

theorem andNot128 (b : Nat) (h : b < 256) : bits .andNot .u8 (b : Int) 128 = ((b % 128 : Nat) : Int) := by
  rw [show (128 : Int) = ((128 : Nat) : Int) from rfl, u8_andNot_nat _ _ h (by omega)]
  congr 1
  exact Nat.and_two_pow_sub_one_eq_mod b 7

theorem and128 (b : Nat) (h : b < 256) : bits .and .u8 (b : Int) 128 = ((b / 128 % 2 * 128 : Nat) : Int) := by
  rw [show (128 : Int) = ((128 : Nat) : Int) from rfl, u8_and_nat _ _ h (by omega)]
  congr 1
  exact nat_bit 7 b

theorem and128_yes {b : Nat} (h : b < 256) (h' : ¬ b < 128) : (bits .and .u8 (b : Int) 128 != 0) = true := by
  rw [and128 b h, show b / 128 % 2 = 1 by omega]; rfl

theorem and128_no {b : Nat} (h : b < 256) (h' : b < 128) : (bits .and .u8 (b : Int) 128 != 0) = false := by
  rw [and128 b h, show b / 128 % 2 = 0 by omega]; rfl

theorem pow7 (i : Nat) : 2 ^ (7 * i) = 128 ^ i := by rw [Nat.pow_mul]

theorem pow_split (i : Nat) (h : i ≤ 8) : ∃ c, 18446744073709551616 = c * (128 ^ i * 128) := by
  have hi8 : i = 0 ∨ i = 1 ∨ i = 2 ∨ i = 3 ∨ i = 4 ∨ i = 5 ∨ i = 6 ∨ i = 7 ∨ i = 8 := by omega
  rcases hi8 with rfl | rfl | rfl | rfl | rfl | rfl | rfl | rfl | rfl
  · exact ⟨2 ^ 57, by decide⟩
  · exact ⟨2 ^ 50, by decide⟩
  · exact ⟨2 ^ 43, by decide⟩
  · exact ⟨2 ^ 36, by decide⟩
  · exact ⟨2 ^ 29, by decide⟩
  · exact ⟨2 ^ 22, by decide⟩
  · exact ⟨2 ^ 15, by decide⟩
  · exact ⟨2 ^ 8, by decide⟩
  · exact ⟨2, by decide⟩

theorem sum_lt (acc x i : Nat) (ha : acc < 128 ^ i) (hx : x < 128) (hi : i ≤ 9) (h9 : i = 9 → x ≤ 1) : acc + x * 128 ^ i < 18446744073709551616 := by
  by_cases h : i = 9
  · subst h
    have := h9 rfl
    have h2 : x * 128 ^ 9 ≤ 1 * 128 ^ 9 := Nat.mul_le_mul_right _ this
    have h3 : 1 * 128 ^ 9 = 9223372036854775808 := by decide
    have h4 : 128 ^ 9 = 9223372036854775808 := by decide
    omega
  · obtain ⟨c, hc⟩ := pow_split i (by omega)
    rw [hc]
    have hc0 : 0 < c := by
      rcases Nat.eq_zero_or_pos c with h0 | h0
      · subst h0; simp at hc
      · exact h0
    have h1 : (x + 1) * 128 ^ i ≤ 128 ^ i * 128 := by rw [Nat.mul_comm (128 ^ i) 128]; exact Nat.mul_le_mul_right _ (by omega)
    have h2 : 128 ^ i * 128 ≤ c * (128 ^ i * 128) := Nat.le_mul_of_pos_left _ hc0
    rw [Nat.add_mul] at h1
    omega

theorem orShift (acc x i sh : Nat) (hs : sh = 7 * i) (ha : acc < 128 ^ i) (hx : x < 128) (hi : i ≤ 9) (h9 : i = 9 → x ≤ 1) :
    bits .or .u64 (acc : Int) (IntKind.u64.wrap (IntKind.u64.wrap (x : Int) * 2 ^ min sh 64)) = ((acc + x * 128 ^ i : Nat) : Int) := by
  have hlt := sum_lt acc x i ha hx hi h9
  subst hs
  have e0 : min (7 * i) 64 = 7 * i := by omega
  have e1 : IntKind.u64.wrap (x : Int) = (x : Int) := by rw [IntKind.wrap_u64]; omega
  have e2 : (2 : Int) ^ (7 * i) = ((128 ^ i : Nat) : Int) := by rw [← pow7]; exact (Int.natCast_pow 2 (7 * i)).symm
  rw [e0, e1, e2, ← Int.natCast_mul]
  have e3 : IntKind.u64.wrap ((x * 128 ^ i : Nat) : Int) = ((x * 128 ^ i : Nat) : Int) := by rw [IntKind.wrap_u64]; omega
  rw [e3, u64_or_nat _ _ (by omega) (by omega), Nat.or_comm, nat_join (7 * i) _ _ (by rw [pow7]; exact Nat.mul_mod_left _ _) (by rw [pow7]; exact ha), Nat.add_comm]

theorem orShift' (acc x i sh : Nat) (hs : sh = 7 * i) (ha : acc < 128 ^ i) (hx : x < 128) (hi : i ≤ 9) (h9 : i = 9 → x ≤ 1) :
    bits .or .u64 (acc : Int) (IntKind.u64.wrap (IntKind.u64.wrap (x : Int) * 2 ^ sh)) = ((acc + x * 128 ^ i : Nat) : Int) := by
  have := orShift acc x i sh hs ha hx hi h9
  rwa [show min sh 64 = sh by omega] at this

theorem or0 (x : Nat) (hx : x < 128) : bits .or .u64 0 (x : Int) = (x : Int) := by
  rw [show (0 : Int) = ((0 : Nat) : Int) from rfl, u64_or_nat _ _ (by omega) (by omega), Nat.zero_or]

theorem bytes_at (l : List UInt8) (p : Nat) (h : p < (⟨l.toArray⟩ : ByteArray).size) : l[p]? = some ((⟨l.toArray⟩ : ByteArray)[p]'h) := by
  have h' : p < l.length := by
    have : (⟨l.toArray⟩ : ByteArray).size = l.length := by show l.toArray.size = _; simp
    omega
  rw [List.getElem?_eq_getElem h']
  rfl

theorem size_bytes (l : List UInt8) : (⟨l.toArray⟩ : ByteArray).size = l.length := by show l.toArray.size = _; simp

/-- s[i:j], s a text as a list of bytes, i and j whatever the walk calls them. -/
theorem run_slice_bytes {P : Program} (w : World) (t : TypeId) (l : List UInt8) (i j : Nat) (I J : Int) (hI : I = (i : Int)) (hJ : J = (j : Int)) (h : P.underlying t = some .string)
    (h1 : i ≤ j) (h2 : j ≤ l.length) :
    (Instr.slice t (.string ⟨l.toArray⟩) (some (.int .i64 I)) (some (.int .i64 J)) none).run P w = .ok (.string ⟨((l.drop i).take (j - i)).toArray⟩) w := by
  subst hI
  subst hJ
  rw [run_slice_string w t _ .i64 .i64 i j h (by omega) (by omega) (by rw [size_bytes]; omega), ByteArray.extract_mk]
  simp

/-- s[:j]. -/
theorem run_slice_bytes_to {P : Program} (w : World) (t : TypeId) (l : List UInt8) (j : Nat) (J : Int) (hJ : J = (j : Int)) (h : P.underlying t = some .string) (h2 : j ≤ l.length) :
    (Instr.slice t (.string ⟨l.toArray⟩) none (some (.int .i64 J)) none).run P w = .ok (.string ⟨(l.take j).toArray⟩) w := by
  subst hJ
  rw [run_slice_string_to_if w t _ .i64 j h, if_pos (by rw [size_bytes]; omega), ByteArray.extract_mk]
  simp

/-- s[i:]. -/
theorem run_slice_bytes_from {P : Program} (w : World) (t : TypeId) (l : List UInt8) (i : Nat) (I : Int) (hI : I = (i : Int)) (h : P.underlying t = some .string) (h2 : i ≤ l.length) :
    (Instr.slice t (.string ⟨l.toArray⟩) (some (.int .i64 I)) none none).run P w = .ok (.string ⟨(l.drop i).toArray⟩) w := by
  subst hI
  rw [run_slice_string_from_if w t _ .i64 i h, if_pos (by rw [size_bytes]; omega), ByteArray.extract_mk, size_bytes]
  simp only [Int.toNat_natCast]
  rw [List.take_of_length_le (by simp)]

theorem below3 {w a b c : World} (h1 : Below w.heap.size w a) (h2 : Below a.heap.size a b) (h3 : Below b.heap.size b c) : Below w.heap.size w c :=
  h1.trans ((h2.mono h1.size).trans (h3.mono (Nat.le_trans h1.size h2.size)))

theorem below2' {w a b : World} (h1 : Below w.heap.size w a) (h2 : Below a.heap.size a b) : Below w.heap.size w b := h1.trans (h2.mono h1.size)

/-- A contract that ends in 'Below', met inside a region that draws its order. -/
theorem rgB {P : Program} {f : FuncId} {args : Array Value} {v : Value} (h : ∀ w, Calls P f args w fun e w' => e = .returned v ∧ Below w.heap.size w w') (w : World) (d : Nat) (os : Array Obj) :
    Calls P f args (Sort.grow (redrawn w d) os) fun e w'' => e = .returned v ∧ ∃ p : Regrown, w'' = Sort.grow (redrawn w p.d) p.os := Calls.regrown_of (h _)

/-- .. one that leaves the world alone. -/
theorem rgS {P : Program} {f : FuncId} {args : Array Value} {v : Value} (h : ∀ w, Calls P f args w fun e w' => e = .returned v ∧ w = w') (w : World) (d : Nat) (os : Array Obj) :
    Calls P f args (Sort.grow (redrawn w d) os) fun e w'' => e = .returned v ∧ ∃ p : Regrown, w'' = Sort.grow (redrawn w p.d) p.os :=
  Calls.regrown_of ((h _).mono fun _ _ ⟨he, hw⟩ => ⟨he, hw ▸ Below.refl _ _⟩)

/-- A slice of integers that came in: nil, or a row of 'cap' cells, the numbers 'zs' (the first 'len' are its elements). -/
def IsRow (k : IntKind) (w : World) (a : Option Addr) (len cap : Nat) (zs : List Int) : Prop :=
  (a = none ∧ len = 0 ∧ cap = 0 ∧ zs = []) ∨
  ∃ x, a = some x ∧ len ≤ cap ∧ cap ≤ maxLen ∧ zs.length = cap ∧ (∀ i, i < zs.length → w.cell? (x.add i) = some (.int k (zs.getD i 0))) ∧ ∀ n ∈ zs, (Lit.int k n).wf = true

/-- A slice of texts that came in. -/
def IsStrs (w : World) (a : Option Addr) (len cap : Nat) (ss : List ByteArray) : Prop :=
  (a = none ∧ len = 0 ∧ cap = 0 ∧ ss = []) ∨
  ∃ x, a = some x ∧ len ≤ cap ∧ cap ≤ maxLen ∧ ss.length = cap ∧ (∀ i, i < ss.length → w.cell? (x.add i) = some (.string (ss.getD i ByteArray.empty))) ∧ ∀ s ∈ ss, s.size ≤ maxLen

/-- string(b), b a new block of bytes, all of it. -/
theorem run_convert_new {P : Program} (w : World) (src e dst : TypeId) (hs : P.underlying src = some (.slice e)) (he : P.underlying e = some (.int .u8)) (hd : P.underlying dst = some .string)
    (cs : Array Value) (xs : List UInt8) (h : cs = (bvals xs).toArray) (n : Nat) (hn : n = xs.length) (hm : n ≤ maxLen) :
    (convert src dst (.slice (some ⟨w.heap.size, 0, none⟩) n n)).run P (w.alloc (.cells cs e)) = .ok (.string ⟨xs.toArray⟩) (w.alloc (.cells cs e)) := by
  subst h
  subst hn
  refine run_convert_owned src e dst hs he hd (base := 0) (n := xs.length) (xs := xs) ⟨by simp [bvals], .inr ⟨w.heap.size, xs.length, (bvals xs).toArray, rfl, Nat.zero_le _, heap_alloc_new w _, Nat.le_refl _, hm, by simp [bvals], ?_⟩⟩
  simp only [Nat.mul_one]
  exact List.take_of_length_le (by simp [bvals])

end Go.Proofs.YthfkfonfiejbmaaGreat

end

section

/-
  ROWS OF STRUCTS, OVER ANY PROGRAM AND ANY ELEMENT OF A FEW CELLS: slices that are read, or owned, appended to, copied, cleared, grown by zero rows.
-/
namespace Go.Proofs.YthfkfonfiejbmaaGreat
open Go.RowKit

/-- The cells of elements, one behind the other. -/
def cellsS {α : Type} (vals : α → List Value) (t : List α) : List Value := (t.map vals).flatten

/-- What is to be known of an element's type T, and of its slice's S. -/
structure RowOK {α : Type} (P : Program) (vals : α → List Value) (sz : Nat) (zero : α) (T S : TypeId) (Z : Value) (bytes : Nat) : Prop where
  len : ∀ a, (vals a).length = sz
  one : ∀ a, ∀ u ∈ vals a, u.oneCell' = true
  pos : 0 < sz
  small : sz ≤ 100
  under : P.underlying S = some (.slice T)
  info : (P.info? T).map (fun i => (i.zero, i.size, i.bytes)) = some (some Z, sz, bytes)
  zvals : Z.cells.toList = vals zero
  fits : bytes ≤ 4096

section pure
variable {α : Type} {vals : α → List Value} {sz : Nat}

theorem cellsS_nil : cellsS vals [] = [] := rfl
theorem cellsS_cons (r : α) (t : List α) : cellsS vals (r :: t) = vals r ++ cellsS vals t := rfl
theorem cellsS_append (a b : List α) : cellsS vals (a ++ b) = cellsS vals a ++ cellsS vals b := by simp [cellsS]
theorem cellsS_one (r : α) : cellsS vals [r] = vals r := by simp [cellsS]

theorem cellsS_len (hl : ∀ a, (vals a).length = sz) : ∀ t : List α, (cellsS vals t).length = t.length * sz
  | [] => by simp [cellsS]
  | r :: t => by rw [cellsS_cons, List.length_append, hl, cellsS_len hl t, List.length_cons, Nat.add_mul, Nat.one_mul, Nat.add_comm]

theorem cellsS_at (hl : ∀ a, (vals a).length = sz) (zero : α) : ∀ (t : List α) (i j : Nat), i < t.length → j < sz → (cellsS vals t)[i * sz + j]? = (vals (t.getD i zero))[j]?
  | [], i, j, h, _ => by simp at h
  | r :: t, 0, j, _, hj => by
    rw [cellsS_cons, Nat.zero_mul, Nat.zero_add, List.getElem?_append_left (by rw [hl]; exact hj)]
    rfl
  | r :: t, i + 1, j, h, hj => by
    rw [cellsS_cons, List.getElem?_append_right (by rw [hl, Nat.add_mul]; omega), hl, show (i + 1) * sz + j - sz = i * sz + j by rw [Nat.add_mul]; omega, cellsS_at hl zero t i j (by simpa using h) hj]
    rfl

theorem cellsS_single (ho : ∀ a, ∀ u ∈ vals a, u.oneCell' = true) (t : List α) : ∀ u ∈ cellsS vals t, u.oneCell' = true := by
  intro u hu
  obtain ⟨l, hl, hu⟩ := List.mem_flatten.1 hu
  obtain ⟨r, _, rfl⟩ := List.mem_map.1 hl
  exact ho r u hu

theorem cellsS_take (hl : ∀ a, (vals a).length = sz) (u : List α) (o : Nat) : (cellsS vals u).take (o * sz) = cellsS vals (u.take o) := by
  have h := cellsS_append (vals := vals) (u.take o) (u.drop o)
  rw [List.take_append_drop] at h
  rw [h]
  by_cases ho : o ≤ u.length
  · rw [List.take_left' (by rw [cellsS_len hl, List.length_take, Nat.min_eq_left ho])]
  · have e1 : u.drop o = [] := List.drop_of_length_le (by omega)
    have e2 : u.take o = u := List.take_of_length_le (by omega)
    rw [e1, e2, cellsS_nil, List.append_nil, List.take_of_length_le (by rw [cellsS_len hl]; exact Nat.mul_le_mul_right _ (by omega))]

theorem cellsS_drop (hl : ∀ a, (vals a).length = sz) (u : List α) (o : Nat) : (cellsS vals u).drop (o * sz) = cellsS vals (u.drop o) := by
  have h := cellsS_append (vals := vals) (u.take o) (u.drop o)
  rw [List.take_append_drop] at h
  by_cases ho : o ≤ u.length
  · rw [h, List.drop_left' (by rw [cellsS_len hl, List.length_take, Nat.min_eq_left ho])]
  · have e1 : u.drop o = [] := List.drop_of_length_le (by omega)
    rw [e1, cellsS_nil, List.drop_of_length_le (by rw [cellsS_len hl]; exact Nat.mul_le_mul_right _ (by omega))]

/-- 'ms' laid over 'u' from place 'o' on. -/
def layS {β : Type} (u : List β) (o : Nat) (ms : List β) : List β := u.take o ++ (ms ++ u.drop (o + ms.length))

theorem layS_len {β : Type} {u : List β} {o : Nat} {ms : List β} (h : o + ms.length ≤ u.length) : (layS u o ms).length = u.length := by
  unfold layS
  simp
  omega

theorem layS_nil {β : Type} (u : List β) (o : Nat) : layS u o [] = u := by simp [layS]

theorem layS_cons {β : Type} (u : List β) (o : Nat) (x : β) (r : List β) (h : o < u.length) : layS (u.set o x) (o + 1) r = layS u o (x :: r) := by
  unfold layS
  have h1 : (u.set o x).take (o + 1) = u.take o ++ [x] := by
    rw [List.take_set, List.set_eq_take_append_cons_drop]
    rw [if_pos (by rw [List.length_take]; omega)]
    rw [List.take_take, List.drop_of_length_le (by rw [List.length_take]; omega), show min o (o + 1) = o by omega]
  have h2 : (u.set o x).drop (o + 1 + r.length) = u.drop (o + (x :: r).length) := by
    rw [List.drop_set, if_pos (by omega)]
    congr 1
    simp only [List.length_cons]
    omega
  rw [h1, h2]
  simp

theorem layS_one {β : Type} {u : List β} {i : Nat} (hi : i < u.length) (r : β) : layS u i [r] = u.set i r := by
  unfold layS
  rw [List.set_eq_take_append_cons_drop, if_pos hi]
  rfl

theorem cellsS_lay (hl : ∀ a, (vals a).length = sz) (u : List α) (o : Nat) (ms : List α) : layS (cellsS vals u) (o * sz) (cellsS vals ms) = cellsS vals (layS u o ms) := by
  unfold layS
  rw [cellsS_append, cellsS_append, cellsS_take hl, cellsS_len hl, ← Nat.add_mul, cellsS_drop hl]

/-- One put in at i. -/
def putS {β : Type} (t : List β) (i : Nat) (r : β) : List β := t.take i ++ ([r] ++ t.drop i)

theorem putS_len {β : Type} (t : List β) (i : Nat) (r : β) : (putS t i r).length = t.length + 1 := by
  unfold putS
  rw [List.length_append, List.length_append, List.length_singleton, List.length_take, List.length_drop]
  omega

theorem layS_grow {β : Type} (z : β) {t : List β} {i : Nat} (hi : i < t.length) (r : β) :
    layS (layS (t.take i ++ List.replicate (t.length + 1 - i) z) i [r]) (i + 1) (t.drop i) = putS t i r := by
  have h1 : (t.take i).length = i := by rw [List.length_take]; omega
  have e2 : (t.take i ++ List.replicate (t.length + 1 - i) z).drop (i + 1) = List.replicate (t.length - i) z := by
    rw [List.drop_append, List.drop_of_length_le (by omega), h1, show i + 1 - i = 1 by omega, List.drop_replicate, List.nil_append]
    congr 1
    omega
  have e3 : layS (t.take i ++ List.replicate (t.length + 1 - i) z) i [r] = (t.take i ++ [r]) ++ List.replicate (t.length - i) z := by
    unfold layS
    rw [List.take_left' h1, List.length_singleton, e2]
    simp
  have h4 : (t.take i ++ [r]).length = i + 1 := by rw [List.length_append, h1]; rfl
  have h5 : ((t.take i ++ [r]) ++ List.replicate (t.length - i) z).length ≤ i + 1 + (t.drop i).length := by
    rw [List.length_append, h4, List.length_replicate, List.length_drop]
    omega
  rw [e3]
  unfold layS putS
  rw [List.take_left' h4, List.drop_of_length_le h5]
  simp

theorem layS_room (hl : ∀ a, (vals a).length = sz) {t : List α} {i : Nat} (hi : i < t.length) (r : α) (z : List Value) (hz : z.length = sz) :
    layS (layS (cellsS vals t ++ z) ((i + 1) * sz) (cellsS vals (t.drop i))) (i * sz) (cellsS vals [r]) = cellsS vals (putS t i r) := by
  have hi' : i * sz + (t.length - i) * sz = t.length * sz := by rw [← Nat.add_mul]; congr 1; omega
  have e1 : (cellsS vals t ++ z).drop ((i + 1) * sz + (cellsS vals (t.drop i)).length) = [] := by
    apply List.drop_of_length_le
    rw [List.length_append, cellsS_len hl, cellsS_len hl, List.length_drop, hz, Nat.add_mul]
    omega
  have e2 : layS (cellsS vals t ++ z) ((i + 1) * sz) (cellsS vals (t.drop i)) = (cellsS vals t ++ z).take ((i + 1) * sz) ++ cellsS vals (t.drop i) := by
    unfold layS
    rw [e1, List.append_nil]
  have hle : (i + 1) * sz ≤ t.length * sz + sz := by rw [Nat.add_mul, Nat.one_mul]; have := Nat.mul_le_mul_right sz (show i ≤ t.length by omega); omega
  have hlt : ((cellsS vals t ++ z).take ((i + 1) * sz)).length = (i + 1) * sz := by
    rw [List.length_take, List.length_append, cellsS_len hl, hz]
    omega
  have e3 : ((cellsS vals t ++ z).take ((i + 1) * sz)).take (i * sz) = cellsS vals (t.take i) := by
    rw [List.take_take, show min (i * sz) ((i + 1) * sz) = i * sz by rw [Nat.add_mul]; omega, List.take_append_of_le_length (by rw [cellsS_len hl]; exact Nat.mul_le_mul_right _ (by omega)), cellsS_take hl]
  rw [e2]
  unfold layS putS
  rw [List.take_append_of_le_length (by rw [hlt]; exact Nat.mul_le_mul_right _ (by omega)), e3, List.drop_left' (by rw [hlt, cellsS_len hl, List.length_singleton, Nat.add_mul, Nat.one_mul])]
  rw [cellsS_append, cellsS_append]

end pure

theorem own_setCellsS {e size base g n cap : Nat} : ∀ (vs : List Value) (o : Nat) (w : World) (xs : List Value), w.ownsRow base e size (.slice (some ⟨g, 0, none⟩) n cap) n xs → o + vs.length ≤ xs.length →
    (w.setCells g o vs).ownsRow base e size (.slice (some ⟨g, 0, none⟩) n cap) n (layS xs o vs)
  | [], o, w, xs, h, _ => by rw [layS_nil]; exact h
  | v :: r, o, w, xs, h, hl => by
    rw [World.setCells, ← layS_cons xs o v r (by simp at hl; omega)]
    exact own_setCellsS r (o + 1) _ _ (h.stored o v).1 (by simp at hl ⊢; omega)

theorem below_setCellsS {B g : Nat} {w0 : World} (hB : B ≤ g) : ∀ (vs : List Value) (o : Nat) (w : World), Below B w0 w → Below B w0 (w.setCells g o vs)
  | [], _, _, h => h
  | v :: r, o, w, h => by
    rw [World.setCells]
    exact below_setCellsS hB r (o + 1) _ (h.setCell hB v)

section rows
variable {α : Type} {P : Program} {vals : α → List Value} {sz : Nat} {zero : α} {T S : TypeId} {Z : Value} {bytes : Nat}

/-- A slice of the call's own. -/
def OwnS (vals : α → List Value) (sz : Nat) (T : TypeId) (w : World) (base : Nat) (v : Value) (t : List α) : Prop := w.ownsRow base T sz v t.length (cellsS vals t)

/-- Its cells, whatever they hold. -/
def OwnCS (sz : Nat) (T : TypeId) (w : World) (base g n cap : Nat) (xs : List Value) : Prop := w.ownsRow base T sz (.slice (some ⟨g, 0, none⟩) n cap) n xs

/-- The cells that a slice reads. -/
def SrcS (vals : α → List Value) (w : World) (ad : Addr) (ms : List α) : Prop := ∀ j u, (cellsS vals ms)[j]? = some u → w.cell? (ad.add j) = some u

/-- The cells of one element. -/
def CellsAt (w : World) (b o : Nat) (vs : List Value) : Prop := ∀ j u, vs[j]? = some u → w.cell? ⟨b, o + j, none⟩ = some u

theorem CellsAt.later {w w' : World} {b o : Nat} {vs : List Value} (h : CellsAt w b o vs) (hb : Below w.heap.size w w') : CellsAt w' b o vs := by
  intro j u hu
  have := h j u hu
  rw [hb.cell (World.block_lt_of_cell? w _ this)]
  exact this

/-- A slice that may be read. -/
def RdS (vals : α → List Value) (sz : Nat) (zero : α) (w : World) (v : Value) (l : List α) : Prop :=
  ∃ a cap, v = .slice a l.length cap ∧ l.length ≤ cap ∧ cap ≤ maxLen ∧ (a = none → cap = 0) ∧
    (l = [] ∨ ∃ b off, a = some ⟨b, off, none⟩ ∧ b < w.heap.size ∧ ∀ i, i < l.length → CellsAt w b (off + i * sz) (vals (l.getD i zero)))

theorem RdS.later {w w' : World} {v : Value} {l : List α} (h : RdS vals sz zero w v l) (hb : Below w.heap.size w w') : RdS vals sz zero w' v l := by
  obtain ⟨a, cap, h1, h2, h3, h4, h5⟩ := h
  refine ⟨a, cap, h1, h2, h3, h4, ?_⟩
  rcases h5 with h5 | ⟨b, off, e, hlt, hc⟩
  · exact .inl h5
  · exact .inr ⟨b, off, e, Nat.lt_of_lt_of_le hlt hb.size, fun i hi => (hc i hi).later hb⟩

theorem rdS_nil (w : World) : RdS vals sz zero w (.slice none 0 0) [] := ⟨none, 0, rfl, by simp, by simp, fun _ => rfl, .inl rfl⟩

theorem RdS.row {w wr : World} {a : Option Addr} {n cap : Nat} {l : List α} (h : RdS vals sz zero w (.slice a n cap) l) (hb : Below w.heap.size w wr) (k : Nat) (hk : k < l.length) :
    ∃ b off, a = some ⟨b, off, none⟩ ∧ CellsAt wr b (off + k * sz) (vals (l.getD k zero)) := by
  obtain ⟨a', cap', e, _, _, _, h⟩ := h.later hb
  simp only [Value.slice.injEq] at e
  rcases h with h | ⟨b, off, e', _, hc⟩
  · rw [h] at hk; simp at hk
  · exact ⟨b, off, e.1.trans e', hc k hk⟩

theorem RdS.open' {w : World} {v : Value} {l : List α} (h : RdS vals sz zero w v l) : ∃ a cap, v = .slice a l.length cap ∧ l.length ≤ 9223372036854775807 := by
  obtain ⟨a, cap, e, h1, h2, _⟩ := h
  unfold maxLen at h2
  exact ⟨a, cap, e, by omega⟩

theorem OwnS.alloc {w : World} {base : Nat} {v : Value} {t : List α} (h : OwnS vals sz T w base v t) (o : Obj) : OwnS vals sz T (w.alloc o) base v t := World.ownsRow.alloc h o

theorem OwnS.drew {w : World} {base : Nat} {v : Value} {t : List α} (h : OwnS vals sz T w base v t) : OwnS vals sz T w.drew base v t := World.ownsRow.drew h

theorem ownS_nil (w : World) (base : Nat) : OwnS vals sz T w base (.slice none 0 0) [] := World.ownsRow_nil w base _ _

theorem ownS_made (w : World) : OwnS vals sz T (w.alloc (.cells #[] T)) w.heap.size (.slice (some ⟨w.heap.size, 0, none⟩) 0 0) [] :=
  World.ownsRow_made w #[] 0 (Nat.le_refl _) (by decide) (by simp)

theorem OwnS.later {w w' : World} {base : Nat} {v : Value} {t : List α} (h : OwnS vals sz T w base v t) (hb : Below w.heap.size w w') : OwnS vals sz T w' base v t := by
  refine ⟨h.1, ?_⟩
  rcases h.2 with h' | ⟨g, cap, cur, h1, h2, h3, h4⟩
  · exact .inl h'
  · exact .inr ⟨g, cap, cur, h1, h2, by rw [hb.block g (Array.getElem?_eq_some_iff.1 h3).1]; exact h3, h4⟩

theorem ownS_low {w : World} {base base' : Nat} {v : Value} {t : List α} (h : OwnS vals sz T w base v t) (hb : base' ≤ base) : OwnS vals sz T w base' v t := by
  refine ⟨h.1, ?_⟩
  rcases h.2 with h' | ⟨g, cap, cur, h1, h2, h3⟩
  · exact .inl h'
  · exact .inr ⟨g, cap, cur, h1, by omega, h3⟩

theorem ltS {i n j sz : Nat} (hi : i < n) (hj : j < sz) : i * sz + j < n * sz := by
  have := Nat.mul_le_mul_right sz (show i + 1 ≤ n by omega)
  rw [Nat.add_mul, Nat.one_mul] at this
  omega

theorem OwnS.rd (D : RowOK P vals sz zero T S Z bytes) {w : World} {base : Nat} {v : Value} {t : List α} (h : OwnS vals sz T w base v t) : RdS vals sz zero w v t := by
  rcases h with ⟨_, ⟨rfl, h0⟩ | ⟨g, cap, cur, rfl, hb, hg, hn, hc, hsz, htk⟩⟩
  · obtain rfl : t = [] := List.length_eq_zero_iff.1 h0
    exact rdS_nil w
  · refine ⟨some ⟨g, 0, none⟩, cap, rfl, hn, hc, (fun e => by cases e), .inr ⟨g, 0, rfl, (Array.getElem?_eq_some_iff.1 hg).1, fun i hi => ?_⟩⟩
    intro j u hu
    have hj : j < sz := by have := (List.getElem?_eq_some_iff.1 hu).1; rwa [D.len] at this
    rw [Nat.zero_add, cell_of_row w g (i * sz + j) cur _ (0, 0) hg]
    have h1 : cur.toList[i * sz + j]? = (cellsS vals t)[i * sz + j]? := by
      rw [← htk, List.getElem?_take, if_pos (ltS hi hj)]
    rw [← hu, ← cellsS_at D.len zero t i j hi hj, ← h1]
    simp

theorem OwnS.head {w : World} {base g n cap : Nat} {u : List α} (h : OwnS vals sz T w base (.slice (some ⟨g, 0, none⟩) n cap) u) : n = u.length ∧ base ≤ g ∧ g < w.heap.size ∧ n ≤ cap ∧ cap ≤ maxLen ∧ ∃ cur : Array Value, w.heap[g]? = some (.cells cur T (0, 0)) ∧ cur.size = cap * sz := by
  rcases h with ⟨_, ⟨h', _⟩ | ⟨g', cap', cur, h', hb, hg, hnc, hcm, hcs, _⟩⟩
  · simp at h'
  · simp only [Value.slice.injEq, Option.some.injEq, Addr.mk.injEq, and_true] at h'
    obtain ⟨rfl, h2, rfl⟩ := h'
    exact ⟨h2, hb, (Array.getElem?_eq_some_iff.1 hg).1, by omega, hcm, cur, hg, hcs⟩

theorem OwnS.cellAt (_D : RowOK P vals sz zero T S Z bytes) {w : World} {base g n cap : Nat} {u : List α} (h : OwnS vals sz T w base (.slice (some ⟨g, 0, none⟩) n cap) u) (j : Nat) (hj : j < u.length * sz) : w.cell? ⟨g, j, none⟩ = (cellsS vals u)[j]? := by
  have hn := h.head.1
  subst hn
  exact World.ownsRow.cellAt h j hj

theorem OwnS.frozenAt {w : World} {base g n cap : Nat} {u : List α} (h : OwnS vals sz T w base (.slice (some ⟨g, 0, none⟩) n cap) u) (j : Nat) : w.frozen? ⟨g, j, none⟩ = false := by
  have hn := h.head.1
  subst hn
  exact World.ownsRow.frozenAt h j

theorem OwnS.someAt (D : RowOK P vals sz zero T S Z bytes) {w : World} {base g n cap : Nat} {u : List α} (h : OwnS vals sz T w base (.slice (some ⟨g, 0, none⟩) n cap) u) (j : Nat) (hj : j < u.length * sz) : (w.cell? ⟨g, j, none⟩).isSome = true := by
  rw [h.cellAt D j hj, List.getElem?_eq_getElem (by rw [cellsS_len D.len]; exact hj)]
  rfl

/-- What an element of the call's own slice holds, at its cells. -/
theorem OwnS.row (D : RowOK P vals sz zero T S Z bytes) {w : World} {base g n cap : Nat} {u : List α} (h : OwnS vals sz T w base (.slice (some ⟨g, 0, none⟩) n cap) u) {k : Nat} (hk : k < u.length) : CellsAt w g (k * sz) (vals (u.getD k zero)) := by
  intro j x hx
  have hj : j < sz := by have := (List.getElem?_eq_some_iff.1 hx).1; rwa [D.len] at this
  rw [h.cellAt D _ (ltS hk hj), cellsS_at D.len zero u k j hk hj, hx]

/-- Elements laid over a slice of the call's own. -/
theorem ownS_lay (D : RowOK P vals sz zero T S Z bytes) {w : World} {base g n cap : Nat} {u : List α} (h : OwnS vals sz T w base (.slice (some ⟨g, 0, none⟩) n cap) u) (o : Nat) (ms : List α) (ho : o + ms.length ≤ u.length) :
    OwnS vals sz T (w.setCells g (o * sz) (cellsS vals ms)) base (.slice (some ⟨g, 0, none⟩) n cap) (layS u o ms) := by
  have hn := h.head.1
  subst hn
  unfold OwnS at h ⊢
  rw [layS_len ho, ← cellsS_lay D.len]
  exact own_setCellsS _ _ _ _ h (by rw [cellsS_len D.len, cellsS_len D.len, ← Nat.add_mul]; exact Nat.mul_le_mul_right _ ho)

/-- One stored, whole. -/
theorem ownS_set (D : RowOK P vals sz zero T S Z bytes) {w : World} {base g n cap : Nat} {u : List α} (h : OwnS vals sz T w base (.slice (some ⟨g, 0, none⟩) n cap) u) {i : Nat} (hi : i < u.length) (r : α) :
    OwnS vals sz T (w.setCells g (i * sz) (vals r)) base (.slice (some ⟨g, 0, none⟩) n cap) (u.set i r) := by
  have := ownS_lay D h i [r] (by simp; omega)
  rwa [cellsS_one, layS_one hi] at this

theorem OwnS.src (D : RowOK P vals sz zero T S Z bytes) {w : World} {base g n cap : Nat} {u : List α} (h : OwnS vals sz T w base (.slice (some ⟨g, 0, none⟩) n cap) u) (o k : Nat) (hk : o + k ≤ u.length) : SrcS vals w ⟨g, o * sz, none⟩ ((u.drop o).take k) := by
  intro j x hx
  have hj := (List.getElem?_eq_some_iff.1 hx).1
  rw [cellsS_len D.len, List.length_take, List.length_drop] at hj
  have h1 : min k (u.length - o) * sz ≤ k * sz := Nat.mul_le_mul_right _ (Nat.min_le_left _ _)
  have h2 : o * sz + k * sz ≤ u.length * sz := by rw [← Nat.add_mul]; exact Nat.mul_le_mul_right _ hk
  rw [Addr.add_lit, h.cellAt D _ (by omega), ← hx]
  rw [← cellsS_take D.len, ← cellsS_drop D.len, List.getElem?_take, if_pos (by omega), List.getElem?_drop]

/-- The cells of a slice, at its address. -/
theorem RdS.src (D : RowOK P vals sz zero T S Z bytes) {w : World} {ad : Addr} {n cap : Nat} {t : List α} (h : RdS vals sz zero w (.slice (some ad) n cap) t) : SrcS vals w ad t := by
  obtain ⟨a', cap', e, _, _, _, h⟩ := h
  simp only [Value.slice.injEq] at e
  intro j u hu
  have hj := (List.getElem?_eq_some_iff.1 hu).1
  rw [cellsS_len D.len] at hj
  rcases h with h | ⟨b, off, e', _, hc⟩
  · rw [h] at hj; simp at hj
  · have e2 := e.1.trans e'
    injection e2 with e2
    subst e2
    have hm : j % sz < sz := Nat.mod_lt _ D.pos
    have hd : j = j / sz * sz + j % sz := by have := Nat.div_add_mod j sz; rw [Nat.mul_comm] at this; omega
    have hq : j / sz < t.length := (Nat.div_lt_iff_lt_mul D.pos).2 hj
    rw [hd, cellsS_at D.len zero t (j / sz) (j % sz) hq hm] at hu
    have := hc (j / sz) hq (j % sz) u hu
    rw [Addr.add_lit, hd, ← Nat.add_assoc]
    exact this

theorem ownS_cut (D : RowOK P vals sz zero T S Z bytes) {w : World} {base g n cap : Nat} {u : List α} (h : OwnS vals sz T w base (.slice (some ⟨g, 0, none⟩) n cap) u) {i : Nat} (hi : i ≤ u.length) : OwnS vals sz T w base (.slice (some ⟨g, 0, none⟩) i cap) (u.take i) := by
  rcases h with ⟨h1, ⟨h', _⟩ | ⟨g', cap', cur, h', hb, hg, hnc, hcm, hcs, htk⟩⟩
  · simp at h'
  · simp only [Value.slice.injEq, Option.some.injEq, Addr.mk.injEq, and_true] at h'
    obtain ⟨rfl, h2, rfl⟩ := h'
    have hl : (u.take i).length = i := by rw [List.length_take]; omega
    refine ⟨by rw [cellsS_len D.len], .inr ⟨g, cap, cur, by rw [hl], hb, hg, by omega, hcm, hcs, ?_⟩⟩
    rw [hl, ← cellsS_take D.len, ← htk, List.take_take, show min (i * sz) (u.length * sz) = i * sz from Nat.min_eq_left (Nat.mul_le_mul_right _ hi)]

/-- 'out = append(out, src...)', out nil or of the call's own, src whatever. -/
theorem wpList_append_S (D : RowOK P vals sz zero T S Z bytes) {w : World} {ops : Array Oper} {rest : List Oper} {o : Oper} {a : Act} {Q : Exit → Act → World → Prop}
    (hgd : o.guard = none) (s x : Operand) (ho : o.op = .call { callee := .builtin .append, args := #[s, x], argTypes := #[S, S] })
    (base : Nat) (v : Value) (t : List α) (hs : a.eval s = v) (hown : OwnS vals sz T w base v t)
    (ao : Option Addr) (m c : Nat) (ms : List α) (hx : a.eval x = .slice ao m c) (hm : m = ms.length) (hnone : ao = none → c = 0 ∧ ms = [])
    (hsome : ∀ ad, ao = some ad → SrcS vals w ad ms)
    (hlen : t.length + ms.length < 4294967296) (hbase : base ≤ w.heap.size)
    (h : ∀ v' w', OwnS vals sz T w' base v' (t ++ ms) → Below base w w' → wpList P ops Q rest (a.put o.dst v') w') :
    wpList P ops Q (o :: rest) a w := by
  obtain ⟨i, hi, hz, hsize, hby⟩ := info_parts D.info
  cases ao with
  | none =>
    obtain ⟨rfl, rfl⟩ := hnone rfl
    simp only [List.length_nil] at hm
    subst hm
    exact wpList_append_own_none hgd s x S ho base T i sz D.under hi v t.length (cellsS vals t) hs hown hx (h v w (by simpa using hown) (Below.refl _ _))
  | some ad =>
    subst hm
    have hzl : Z.cells.size = sz := by have := congrArg List.length D.zvals; rwa [Array.length_toList, D.len] at this
    refine wpList_append_own _ hgd s x S ho base T i _ sz bytes D.under hi hz hsize hby hzl D.pos v t.length (cellsS vals t) hs hown ad ms.length c (cellsS vals ms) hx (cellsS_len D.len ms) (hsome ad rfl) (cellsS_single D.one ms)
      (by unfold maxLen; omega) (Nat.le_trans (Nat.mul_le_mul (show t.length + ms.length ≤ 4294967296 by omega) D.fits) (by decide)) hbase ?_
    intro v' w' hown' hgrow _
    refine h v' w' ?_ ((Below.refl base w).grown hgrow hbase (fun k hk => (World.ownsRow.lt hown k hk).1))
    unfold OwnS
    rw [cellsS_append, List.length_append]
    exact hown'

/-- A new block of one element. -/
theorem srcS_new {w : World} {r : α} {cs : Array Value} (hcs : cs.toList = vals r) {e : TypeId} {B : Nat} (hB : B = w.heap.size) : ∀ ad, some (⟨B, 0, none⟩ : Addr) = some ad → SrcS vals (w.alloc (.cells cs e)) ad [r] := by
  intro ad had j u hu
  subst hB
  obtain rfl := Option.some.inj had
  rw [cellsS_one, ← hcs] at hu
  rw [Addr.add_lit, Nat.zero_add, World.cell?_alloc_at _ _ _ _ rfl, ← hu]
  simp

theorem run_copy_S (D : RowOK P vals sz zero T S Z bytes) {w : World} (base g n cap : Nat) (xs : List Value) (h : OwnCS sz T w base g n cap xs) (o dl dc : Nat) (ad : Addr) (sl sc : Nat) (ms : List α) (hn : ms.length = Nat.min sl dl) (hsrc : SrcS vals w ad ms) (ho : o + ms.length ≤ n) (ty : TypeId) :
    (Builtin.copy_ #[S, S] ty #[.slice (some ⟨g, o * sz, none⟩) dl dc, .slice (some ad) sl sc]).run P w = .ok (goInt ms.length) (w.setCells g (o * sz) (cellsS vals ms)) := by
  obtain ⟨i, hi, hz, hsize, hby⟩ := info_parts D.info
  have hl := run_loadCells_list (P := P) w ad (cellsS vals ms) hsrc
  rw [cellsS_len D.len] at hl
  have hxl : xs.length = n * sz := h.1
  have hle : o * sz + ms.length * sz ≤ n * sz := by rw [← Nat.add_mul]; exact Nat.mul_le_mul_right _ ho
  have hst := run_storeCells_cells (P := P) g (o * sz) (cellsS vals ms) 0 w (fun j hj => by
    rw [cellsS_len D.len] at hj
    rw [Nat.add_zero, World.ownsRow.cellAt h _ (by omega), List.getElem?_eq_getElem (by omega)]
    rfl) (fun j _ => World.ownsRow.frozenAt h _) (cellsS_single D.one ms)
  rw [Nat.add_zero] at hst
  simp [Builtin.copy_, run_underlying D.under, Builtin.lenOf, Builtin.firstCells, sizeOf, typeInfo, hi, hsize, ← hn, hl, hst]

/-- 'copy(dst, src)', dst within a slice of the call's own: the cells. -/
theorem wp_copy_C (D : RowOK P vals sz zero T S Z bytes) {w : World} {o : Oper} {a : Act} {K : Act → World → Prop} {Q : Exit → Act → World → Prop} (d s : Operand)
    (ho : o.op = .call { callee := .builtin .copy, args := #[d, s], argTypes := #[S, S] })
    (base g n cap : Nat) (xs : List Value) (h : OwnCS sz T w base g n cap xs) (p dl dc : Nat) (ad : Addr) (sl sc : Nat)
    (hd : a.eval d = .slice (some ⟨g, p * sz, none⟩) dl dc) (hs : a.eval s = .slice (some ad) sl sc) (ms : List α) (hn : ms.length = Nat.min sl dl) (hsrc : SrcS vals w ad ms) (hp : p + ms.length ≤ n)
    (hK : ∀ w', OwnCS sz T w' base g n cap (layS xs (p * sz) (cellsS vals ms)) → Below g w w' → (∀ x : Addr, x.block ≠ g → w'.cell? x = w.cell? x) → K (a.put o.dst (goInt ms.length)) w') : o.wp P a w K Q := by
  have hr := run_copy_S D base g n cap xs h p dl dc ad sl sc ms hn hsrc hp o.type
  have hxl : xs.length = n * sz := h.1
  unfold Oper.wp execOp
  simp only [ho, resolve, invoke, builtin, Sem.run_bind, Sem.run_pure, Result.andThen_ok, List.map_toArray, List.map_cons, List.map_nil, hd, hs, hr]
  refine hK _ (own_setCellsS _ _ _ _ h (by rw [cellsS_len D.len, hxl, ← Nat.add_mul]; exact Nat.mul_le_mul_right _ hp)) (below_setCellsS (Nat.le_refl _) _ _ _ (Below.refl _ _)) (fun x hx => ?_)
  exact World.cell?_setCells_out g _ _ _ _ (fun hb _ => absurd hb hx)

theorem wpList_copy_C (D : RowOK P vals sz zero T S Z bytes) {w : World} {ops : Array Oper} {rest : List Oper} {o : Oper} {a : Act} {Q : Exit → Act → World → Prop} (hgd : o.guard = none) (d s : Operand)
    (ho : o.op = .call { callee := .builtin .copy, args := #[d, s], argTypes := #[S, S] })
    (base g n cap : Nat) (xs : List Value) (h : OwnCS sz T w base g n cap xs) (p dl dc : Nat) (ad : Addr) (sl sc : Nat)
    (hd : a.eval d = .slice (some ⟨g, p * sz, none⟩) dl dc) (hs : a.eval s = .slice (some ad) sl sc) (ms : List α) (hn : ms.length = Nat.min sl dl) (hsrc : SrcS vals w ad ms) (hp : p + ms.length ≤ n)
    (hK : ∀ w', OwnCS sz T w' base g n cap (layS xs (p * sz) (cellsS vals ms)) → Below g w w' → (∀ x : Addr, x.block ≠ g → w'.cell? x = w.cell? x) → wpList P ops Q rest (a.put o.dst (goInt ms.length)) w') : wpList P ops Q (o :: rest) a w :=
  wpList_plain hgd fun _ hK' => wp_copy_C D d s ho base g n cap xs h p dl dc ad sl sc hd hs ms hn hsrc hp fun w' h1 h2 h3 => hK' _ _ (hK w' h1 h2 h3)

theorem step_copy_C (D : RowOK P vals sz zero T S Z bytes) {w : World} {ops : Array Oper} {o : Oper} {a : Act} {K : Act → World → Prop} {Q : Exit → Act → World → Prop} {E : Prop} (hgd : o.guard = none) (d s : Operand)
    (ho : o.op = .call { callee := .builtin .copy, args := #[d, s], argTypes := #[S, S] })
    (base g n cap : Nat) (xs : List Value) (h : OwnCS sz T w base g n cap xs) (p dl dc : Nat) (ad : Addr) (sl sc : Nat)
    (hd : a.eval d = .slice (some ⟨g, p * sz, none⟩) dl dc) (hs : a.eval s = .slice (some ad) sl sc) (ms : List α) (hn : ms.length = Nat.min sl dl) (hsrc : SrcS vals w ad ms) (hp : p + ms.length ≤ n)
    (hK : ∀ w', OwnCS sz T w' base g n cap (layS xs (p * sz) (cellsS vals ms)) → Below g w w' → (∀ x : Addr, x.block ≠ g → w'.cell? x = w.cell? x) → K (a.put o.dst (goInt ms.length)) w') :
    if Region.wanted o (yielded ops a.tmps) = true then Oper.wp P o a w K Q else E := by
  have hw : Region.wanted o (yielded ops a.tmps) = true := by simp [Region.wanted, hgd]
  rw [if_pos hw]
  exact wp_copy_C D d s ho base g n cap xs h p dl dc ad sl sc hd hs ms hn hsrc hp hK

theorem OwnCS.drew {w : World} {base g n cap : Nat} {xs : List Value} (h : OwnCS sz T w base g n cap xs) : OwnCS sz T w.drew base g n cap xs := World.ownsRow.drew h

theorem OwnS.raw {w : World} {base g n cap : Nat} {t : List α} (h : OwnS vals sz T w base (.slice (some ⟨g, 0, none⟩) n cap) t) : OwnCS sz T w base g n cap (cellsS vals t) := by
  have hn := h.head.1
  subst hn
  exact h

theorem OwnCS.rows {w : World} {base g cap n : Nat} {t : List α} (h : OwnCS sz T w base g n cap (cellsS vals t)) (hn : n = t.length) : OwnS vals sz T w base (.slice (some ⟨g, 0, none⟩) n cap) t := by
  subst hn
  exact h

/-- The row behind the last one, taken in. -/
theorem ownS_wider {w : World} {base g cap : Nat} {t : List α} (h : OwnS vals sz T w base (.slice (some ⟨g, 0, none⟩) t.length cap) t) (hc : t.length < cap) : ∃ z : List Value, z.length = sz ∧ OwnCS sz T w base g (t.length + 1) cap (cellsS vals t ++ z) := by
  rcases h with ⟨h0, ⟨h', _⟩ | ⟨g', cap', cur, h', hb, hg, hnc, hcm, hcs, htk⟩⟩
  · simp at h'
  · simp only [Value.slice.injEq, Option.some.injEq, Addr.mk.injEq, and_true, true_and] at h'
    obtain ⟨rfl, rfl⟩ := h'
    have hlen : cur.toList.length = cap * sz := by rw [Array.length_toList]; exact hcs
    have hm : t.length * sz + sz ≤ cap * sz := by have := Nat.mul_le_mul_right sz (show t.length + 1 ≤ cap by omega); rwa [Nat.add_mul, Nat.one_mul] at this
    have e : cur.toList.take ((t.length + 1) * sz) = cellsS vals t ++ (cur.toList.drop (t.length * sz)).take sz := by
      rw [← htk, show (t.length + 1) * sz = t.length * sz + sz by rw [Nat.add_mul, Nat.one_mul], List.take_add]
    refine ⟨(cur.toList.drop (t.length * sz)).take sz, by rw [List.length_take, List.length_drop, hlen]; omega, ?_, .inr ⟨g, cap, cur, rfl, hb, hg, by omega, hcm, hcs, e⟩⟩
    rw [← e, List.length_take, hlen, Nat.add_mul, Nat.one_mul]
    omega

theorem zeroS (D : RowOK P vals sz zero T S Z bytes) (n : Nat) : (Builtin.zeroCells Z.cells n).toList = cellsS vals (List.replicate n zero) := by
  have hzl : Z.cells.size = sz := by have := congrArg List.length D.zvals; rwa [Array.length_toList, D.len] at this
  apply List.ext_getElem?
  intro j
  by_cases hj : j < n * sz
  · have hm : j % sz < sz := Nat.mod_lt _ D.pos
    have hd : j = j / sz * sz + j % sz := by have := Nat.div_add_mod j sz; rw [Nat.mul_comm] at this; omega
    have hq : j / sz < n := (Nat.div_lt_iff_lt_mul D.pos).2 hj
    have h1 : (cellsS vals (List.replicate n zero))[j]? = (vals zero)[j % sz]? := by
      conv => lhs; rw [hd]
      rw [cellsS_at D.len zero _ _ _ (by rw [List.length_replicate]; exact hq) hm]
      simp [List.getD, hq]
    rw [h1, ← D.zvals]
    simp [Builtin.zeroCells, hzl, hj, hm]
  · rw [List.getElem?_eq_none (by simp [Builtin.zeroCells, hzl]; omega), List.getElem?_eq_none (by rw [cellsS_len D.len, List.length_replicate]; omega)]

/-- 'append(s[:i], make([]E, k)...)' where there is no room for k more. -/
theorem wpList_append_zero_S (D : RowOK P vals sz zero T S Z bytes) {TI : TypeId} (hI : P.underlying TI = some (.int .i64)) {w : World} {ops : Array Oper} {rest : List Oper} {o : Oper} {a : Act} {Q : Exit → Act → World → Prop} (hgd : o.guard = none) (s x : Operand)
    (ho : o.op = .call { callee := .builtin .append, args := #[s, x], argTypes := #[S, TI] })
    (base g n cap : Nat) (u : List α) (h : OwnS vals sz T w base (.slice (some ⟨g, 0, none⟩) n cap) u) (i k L : Nat) (K : Int) (hs : a.eval s = .slice (some ⟨g, 0, none⟩) i cap) (hx : a.eval x = .int .i64 K) (hKk : K = (k : Int)) (hL : L = i + k) (hi : i ≤ u.length) (h0 : 0 < k) (hno : cap < i + k) (hsm : i + k ≤ 4294967)
    (hK : ∀ w' G, OwnS vals sz T w' w.heap.size (.slice (some ⟨w.heap.size, 0, none⟩) L G) (u.take i ++ List.replicate k zero) → L ≤ G → G ≤ 9223372036854775807 → Below w.heap.size w w' → wpList P ops Q rest (a.put o.dst (.slice (some ⟨w.heap.size, 0, none⟩) L G)) w') :
    wpList P ops Q (o :: rest) a w := by
  obtain ⟨i0, hi0, hz0, hzs, hzb⟩ := info_parts D.info
  subst hKk
  subst hL
  have hzc : Z.cells.size = sz := by have := congrArg List.length D.zvals; rwa [Array.length_toList, D.len] at this
  have hold : (Builtin.firstCells i0.size i (.slice (some ⟨g, 0, none⟩) i cap)).run P w.drew = .ok (cellsS vals (u.take i)).toArray w.drew := by
    rw [hzs]
    refine run_firstCells_some w.drew sz i ⟨g, 0, none⟩ i cap (cellsS vals (u.take i)) (by rw [cellsS_len D.len, List.length_take, Nat.min_eq_left hi]) (fun j v hj => ?_)
    have := (h.src D 0 i (by omega)) j v (by simpa using hj)
    rw [Nat.zero_mul] at this
    exact this
  have hbig : (i + k) * bytes ≤ 4294967 * 4096 := Nat.mul_le_mul hsm D.fits
  have hbig2 : k * bytes ≤ 4294967 * 4096 := Nat.mul_le_mul (by omega) D.fits
  have hr := Lib.run_append_grow_zeros w S TI o.type T i0 _ .i64 .i64 D.under hI hi0 hz0 (some ⟨g, 0, none⟩) i cap (cellsS vals (u.take i)) hold k h0 (by rw [hzs]; exact D.pos) hno (by omega) (by rw [hzb]; omega) (by rw [hzb]; exact growslice_fits hno (by omega))
  have hG := grownCap_ge w (i + k) cap T
  have hGm := grownCap_le_maxLen w (i + k) cap T (by unfold maxLen; omega)
  refine Lib.wpList_append_run w hgd s x _ _ ho _ _ hs hx _ _ hr ?_
  obtain ⟨G, hG'⟩ : ∃ G, G = grownCap w (i + k) cap T := ⟨_, rfl⟩
  rw [← hG'] at hG hGm ⊢
  have hb : Below w.heap.size w (w.drew.alloc (.cells ((cellsS vals (u.take i)).toArray ++ Builtin.zeroCells Z.cells k ++ Builtin.zeroCells Z.cells (G - (i + k))) T)) := ((Below.refl _ _).drew).alloc (by simp) _
  refine hK _ G ?_ hG (by unfold maxLen at hGm; omega) hb
  have hl1 : (u.take i ++ List.replicate k zero).length = i + k := by rw [List.length_append, List.length_take, List.length_replicate]; omega
  have hzl : ∀ m, (Builtin.zeroCells Z.cells m).size = m * sz := fun m => by simp [Builtin.zeroCells, hzc]
  have hsum : i * sz + k * sz + (G - (i + k)) * sz = G * sz := by rw [← Nat.add_mul, ← Nat.add_mul]; congr 1; omega
  refine ⟨by rw [cellsS_len D.len], .inr ⟨w.heap.size, G, _, by rw [hl1], Nat.le_refl _, heap_alloc_new w.drew _, by rw [hl1]; exact hG, hGm, ?_, ?_⟩⟩
  · rw [Array.size_append, Array.size_append, hzl, hzl, List.size_toArray, cellsS_len D.len, List.length_take, Nat.min_eq_left hi]
    omega
  · have e0 : (cellsS vals (u.take i)).toArray.toList = cellsS vals (u.take i) := rfl
    rw [hl1, Array.toList_append, Array.toList_append, zeroS D, cellsS_append, e0]
    have e : (cellsS vals (u.take i)).length + (cellsS vals (List.replicate k zero)).length = (i + k) * sz := by rw [cellsS_len D.len, cellsS_len D.len, List.length_take, List.length_replicate, Nat.min_eq_left hi, Nat.add_mul]
    rw [List.take_append_of_le_length (by rw [List.length_append]; omega)]
    rw [List.take_of_length_le (by rw [List.length_append]; omega)]

theorem layS_front {β : Type} {A B : List β} {o : Nat} {ms : List β} (h : o + ms.length ≤ A.length) : layS (A ++ B) o ms = layS A o ms ++ B := by
  unfold layS
  rw [List.take_append_of_le_length (by omega), List.drop_append_of_le_length h]
  simp

theorem layS_take {β : Type} {u : List β} {o N : Nat} {ms : List β} (h : o + ms.length ≤ N) (hN : N ≤ u.length) : (layS u o ms).take N = layS (u.take N) o ms := by
  have hl : (u.take N).length = N := by rw [List.length_take]; omega
  conv => lhs; rw [← List.take_append_drop N u]
  rw [layS_front (by rw [hl]; exact h), List.take_left' (by rw [layS_len (by rw [hl]; exact h), hl])]

/-- 'append(s[:i], src...)' where what is appended lies within s. -/
theorem run_append_in_S (D : RowOK P vals sz zero T S Z bytes) {w : World} (base g n cap : Nat) (t : List α) (h : OwnS vals sz T w base (.slice (some ⟨g, 0, none⟩) n cap) t) (i m c : Nat) (ad : Addr) (ms : List α) (hm : m = ms.length) (hsrc : SrcS vals w ad ms) (hin : i + ms.length ≤ n) (ty : TypeId) :
    ∃ w', (Builtin.append_ #[S, S] ty #[.slice (some ⟨g, 0, none⟩) i cap, .slice (some ad) m c]).run P w = .ok (.slice (some ⟨g, 0, none⟩) (i + m) cap) w' ∧ OwnS vals sz T w' base (.slice (some ⟨g, 0, none⟩) n cap) (layS t i ms) ∧ w.grownBy w' (some g) := by
  obtain ⟨i0, hi0, hz, hsize, hby⟩ := info_parts D.info
  have hn := h.head.1
  subst hn
  subst hm
  rcases h with ⟨h0, ⟨h', _⟩ | ⟨g', cap', cur, h', hb, hg, hnc, hcm, hcs, htk⟩⟩
  · simp at h'
  · simp only [Value.slice.injEq, Option.some.injEq, Addr.mk.injEq, and_true, true_and] at h'
    obtain ⟨rfl, rfl⟩ := h'
    have hlm := cellsS_len D.len ms
    have hle : i * sz + ms.length * sz ≤ t.length * sz := by rw [← Nat.add_mul]; exact Nat.mul_le_mul_right _ hin
    have hle2 : t.length * sz ≤ cap * sz := Nat.mul_le_mul_right _ hnc
    have hr := run_append_room (P := P) w S ty T i0 D.under hi0 g i cap cur hg ad ms.length c (cellsS vals ms) (by rw [hlm, hsize]) hsrc (cellsS_single D.one ms) (by omega) (by rw [hsize, hlm, hcs]; omega)
    rw [hsize, hlm] at hr
    refine ⟨_, hr, ⟨by rw [cellsS_len D.len], .inr ⟨g, cap, _, by rw [layS_len hin], hb, setRow_heap w g cur _ T _ hg, by rw [layS_len hin]; exact hnc, hcm, ?_, ?_⟩⟩, ⟨rfl, rfl, rfl, by simp, fun k _ hk => setRow_other w g k _ (fun e => hk (by simp [e]))⟩⟩
    · simp only [List.size_toArray, List.length_append, List.length_take, List.length_drop, Array.length_toList, hlm, hcs]
      omega
    · rw [layS_len hin, ← cellsS_lay D.len, ← htk, ← layS_take (by rw [hlm]; exact hle) (by show _ ≤ cur.size; rw [hcs]; exact hle2)]
      unfold layS
      rw [hlm, List.append_assoc]

theorem wp_append_in_S (D : RowOK P vals sz zero T S Z bytes) {w : World} {o : Oper} {a : Act} {K : Act → World → Prop} {Q : Exit → Act → World → Prop} (s x : Operand)
    (ho : o.op = .call { callee := .builtin .append, args := #[s, x], argTypes := #[S, S] })
    (base g n cap : Nat) (t : List α) (h : OwnS vals sz T w base (.slice (some ⟨g, 0, none⟩) n cap) t) (i m c : Nat) (ad : Addr) (hs : a.eval s = .slice (some ⟨g, 0, none⟩) i cap) (hx : a.eval x = .slice (some ad) m c) (ms : List α) (hm : m = ms.length) (hsrc : SrcS vals w ad ms) (hin : i + ms.length ≤ n)
    (hK : ∀ w', OwnS vals sz T w' base (.slice (some ⟨g, 0, none⟩) n cap) (layS t i ms) → Below g w w' → (∀ x : Addr, x.block < w.heap.size → x.block ≠ g → w'.cell? x = w.cell? x) → K (a.put o.dst (.slice (some ⟨g, 0, none⟩) (i + m) cap)) w') : o.wp P a w K Q := by
  obtain ⟨w', hr, h1, h2⟩ := run_append_in_S D base g n cap t h i m c ad ms hm hsrc hin o.type
  have hgw := h.head.2.2.1
  unfold Oper.wp execOp
  simp only [ho, resolve, invoke, builtin, Sem.run_bind, Sem.run_pure, Result.andThen_ok, List.map_toArray, List.map_cons, List.map_nil, hs, hx, hr]
  refine hK _ h1 ((Below.refl g w).grown h2 (by omega) (fun k hk => by obtain rfl := Option.some.inj hk; exact Nat.le_refl _)) (fun x hl hx => World.cell?_of_block (h2.block x.block hl (fun e => hx (Option.some.inj e))))

theorem step_append_in_S (D : RowOK P vals sz zero T S Z bytes) {w : World} {ops : Array Oper} {o : Oper} {a : Act} {K : Act → World → Prop} {Q : Exit → Act → World → Prop} {E : Prop} (hgd : o.guard = none) (s x : Operand)
    (ho : o.op = .call { callee := .builtin .append, args := #[s, x], argTypes := #[S, S] })
    (base g n cap : Nat) (t : List α) (h : OwnS vals sz T w base (.slice (some ⟨g, 0, none⟩) n cap) t) (i m c : Nat) (ad : Addr) (hs : a.eval s = .slice (some ⟨g, 0, none⟩) i cap) (hx : a.eval x = .slice (some ad) m c) (ms : List α) (hm : m = ms.length) (hsrc : SrcS vals w ad ms) (hin : i + ms.length ≤ n)
    (hK : ∀ w', OwnS vals sz T w' base (.slice (some ⟨g, 0, none⟩) n cap) (layS t i ms) → Below g w w' → (∀ x : Addr, x.block < w.heap.size → x.block ≠ g → w'.cell? x = w.cell? x) → K (a.put o.dst (.slice (some ⟨g, 0, none⟩) (i + m) cap)) w') :
    if Region.wanted o (yielded ops a.tmps) = true then Oper.wp P o a w K Q else E := by
  have hw : Region.wanted o (yielded ops a.tmps) = true := by simp [Region.wanted, hgd]
  rw [if_pos hw]
  exact wp_append_in_S D s x ho base g n cap t h i m c ad hs hx ms hm hsrc hin hK

/-- 'clear(s[p:])' of a slice of the call's own. -/
theorem wpList_clear_S (D : RowOK P vals sz zero T S Z bytes) {w : World} {ops : Array Oper} {rest : List Oper} {o : Oper} {a : Act} {Q : Exit → Act → World → Prop} (hgd : o.guard = none) (x : Operand)
    (ho : o.op = .call { callee := .builtin .clear, args := #[x], argTypes := #[S] })
    (base g n cap : Nat) (u : List α) (h : OwnS vals sz T w base (.slice (some ⟨g, 0, none⟩) n cap) u) (p : Nat) (ad : Option Addr) (m c : Nat) (hx : a.eval x = .slice ad m c) (hpos : 0 < m → ad = some ⟨g, p * sz, none⟩) (hm : p + m = u.length)
    (hK : ∀ w', OwnS vals sz T w' base (.slice (some ⟨g, 0, none⟩) n cap) (u.take p ++ List.replicate m zero) → Below g w w' → wpList P ops Q rest (a.put o.dst (.tuple #[])) w') : wpList P ops Q (o :: rest) a w := by
  refine wpList_plain hgd fun K hK' => ?_
  rcases Nat.eq_zero_or_pos m with rfl | hp
  · have hrun : (Builtin.clear_ #[S] o.type #[.slice ad 0 c]).run P w = .ok (.tuple #[]) w := by
      cases ad <;> simp [Builtin.clear_, run_underlying D.under]
    unfold Oper.wp
    simp [execOp, ho, resolve, invoke, builtin, hx, hrun, Result.andThen]
    refine hK' _ _ (hK w ?_ (Below.refl _ _))
    rw [List.take_of_length_le (by omega)]
    simpa using h
  · obtain rfl := hpos hp
    obtain ⟨i0, hi0, hz0, hzs, hzb⟩ := info_parts D.info
    have hle : p * sz + m * sz = u.length * sz := by rw [← Nat.add_mul, hm]
    have hst := run_storeCells_cells (P := P) g (p * sz) (cellsS vals (List.replicate m zero)) 0 w (fun j hj => by
      rw [cellsS_len D.len, List.length_replicate] at hj
      exact h.someAt D _ (by omega)) (fun j _ => h.frozenAt _) (cellsS_single D.one _)
    rw [Nat.add_zero, ← zeroS D] at hst
    have hrun : (Builtin.clear_ #[S] o.type #[.slice (some ⟨g, p * sz, none⟩) m c]).run P w = .ok (.tuple #[]) (w.setCells g (p * sz) (cellsS vals (List.replicate m zero))) := by
      obtain ⟨m', rfl⟩ : ∃ m', m = m' + 1 := ⟨m - 1, by omega⟩
      rw [← zeroS D]
      simp [Builtin.clear_, run_underlying D.under, zeroValue, typeInfo, hi0, hz0, hst]
    unfold Oper.wp
    simp [execOp, ho, resolve, invoke, builtin, hx, hrun, Result.andThen]
    refine hK' _ _ (hK _ ?_ (below_setCellsS (Nat.le_refl _) _ _ _ (Below.refl _ _)))
    have := ownS_lay D h p (List.replicate m zero) (by rw [List.length_replicate]; omega)
    have e : layS u p (List.replicate m zero) = u.take p ++ List.replicate m zero := by
      unfold layS
      rw [List.length_replicate, List.drop_of_length_le (by omega), List.append_nil]
    rwa [e] at this

/-- Block B holds one element, and nothing else. -/
def LoneS (vals : α → List Value) (T : TypeId) (w : World) (B : Nat) (r : α) : Prop := ∃ cs : Array Value, cs.toList = vals r ∧ w.heap[B]? = some (.cells cs T (0, 0))

theorem LoneS.later {w w' : World} {B : Nat} {r : α} (h : LoneS vals T w B r) (hb : Below w.heap.size w w') : LoneS vals T w' B r := by
  obtain ⟨cs, h1, h2⟩ := h
  exact ⟨cs, h1, (hb.block B (Array.getElem?_eq_some_iff.1 h2).1).trans h2⟩

theorem LoneS.lt {w : World} {B : Nat} {r : α} (h : LoneS vals T w B r) : B < w.heap.size := by
  obtain ⟨cs, h1, h2⟩ := h
  exact (Array.getElem?_eq_some_iff.1 h2).1

theorem LoneS.src {w : World} {B : Nat} {r : α} (h : LoneS vals T w B r) : SrcS vals w ⟨B, 0, none⟩ [r] := by
  obtain ⟨cs, h1, h2⟩ := h
  intro j u hu
  rw [cellsS_one, ← h1] at hu
  rw [Addr.add_lit, Nat.zero_add, cell_of_row w B j _ _ (0, 0) h2, ← hu]
  simp

theorem LoneS.free {w : World} {B : Nat} {r : α} (h : LoneS vals T w B r) (j : Nat) : w.frozen? ⟨B, j, none⟩ = false := by
  obtain ⟨cs, h1, h2⟩ := h
  exact frozen_of_row w B j _ _ h2

theorem LoneS.shape (hl : ∀ a, (vals a).length = sz) {w : World} {B : Nat} {r : α} (h : LoneS vals T w B r) : w.shape? B = some (T, sz) := by
  obtain ⟨cs, h1, h2⟩ := h
  have hs : cs.size = sz := by rw [← Array.length_toList, h1, hl]
  simp only [World.shape?, h2, hs]

theorem ownS_shape {w : World} {g : Nat} {cur : Array Value} (h : w.heap[g]? = some (.cells cur T (0, 0))) : w.shape? g = some (T, cur.size) := by
  simp only [World.shape?, h]

theorem loneS_new {w : World} {r : α} {cs : Array Value} (hcs : cs.toList = vals r) {B : Nat} (hB : B = w.heap.size) : LoneS vals T (w.alloc (.cells cs T)) B r := by
  subst hB
  exact ⟨cs, hcs, heap_alloc_new w _⟩

theorem sizeS (D : RowOK P vals sz zero T S Z bytes) (w : World) : (Go.sizeOf T).run P w = .ok sz w := by
  obtain ⟨i, hi, hz, hsize, hby⟩ := info_parts D.info
  simp [sizeOf, typeInfo, hi, hsize]

theorem eqlS_nil_some (D : RowOK P vals sz zero T S Z bytes) (w : World) (x : Addr) (n c : Nat) : (binOp .eql S (.slice (some x) n c) (.slice none 0 0)).run P w = .ok (.bool false) w := by
  rw [Lib.run_eql_slice_nil w _ _ _ _ _ _ _ D.under]
  rfl

theorem eqlS_nil_nil (D : RowOK P vals sz zero T S Z bytes) (w : World) (n c : Nat) : (binOp .eql S (.slice none n c) (.slice none 0 0)).run P w = .ok (.bool true) w := by
  rw [Lib.run_eql_slice_nil w _ _ _ _ _ _ _ D.under]
  rfl

end rows

end Go.Proofs.YthfkfonfiejbmaaGreat

end

section

/-
  PLAIN: lists that rise by an order of keys: where one belongs, one put in or taken out, what stands in them then.
-/
namespace Go.Proofs.YthfkfonfiejbmaaGreat

/-- An order: of two just one stands ahead, or they are alike. -/
structure OrdOK {α : Type} (lt eq : α → α → Bool) : Prop where
  irrefl : ∀ a, lt a a = false
  trans : ∀ a b c, lt a b = true → lt b c = true → lt a c = true
  tri : ∀ a b, (lt a b = true ∧ lt b a = false ∧ eq a b = false) ∨ (lt a b = false ∧ lt b a = true ∧ eq a b = false) ∨ (lt a b = false ∧ lt b a = false ∧ eq a b = true)
  same : ∀ a b x, eq a b = true → lt a x = lt b x ∧ lt x a = lt x b

section
variable {α : Type} {lt eq : α → α → Bool} {zero : α}

theorem OrdOK.refl (O : OrdOK lt eq) (a : α) : eq a a = true := by
  rcases O.tri a a with ⟨h, _, _⟩ | ⟨_, h, _⟩ | ⟨_, _, h⟩
  · rw [O.irrefl] at h; cases h
  · rw [O.irrefl] at h; cases h
  · exact h

theorem OrdOK.eq_of (O : OrdOK lt eq) {a b : α} (h1 : lt a b = false) (h2 : lt b a = false) : eq a b = true := by
  rcases O.tri a b with ⟨h, _, _⟩ | ⟨_, h, _⟩ | ⟨_, _, h⟩
  · rw [h1] at h; cases h
  · rw [h2] at h; cases h
  · exact h

theorem OrdOK.eq_no (O : OrdOK lt eq) {a b : α} (h : eq a b = true) : lt a b = false ∧ lt b a = false := by
  rcases O.tri a b with ⟨_, _, g⟩ | ⟨_, _, g⟩ | ⟨g1, g2, _⟩
  · rw [h] at g; cases g
  · rw [h] at g; cases g
  · exact ⟨g1, g2⟩

theorem OrdOK.symm (O : OrdOK lt eq) (a b : α) : eq a b = eq b a := by
  rcases O.tri a b with ⟨h1, h2, h3⟩ | ⟨h1, h2, h3⟩ | ⟨h1, h2, h3⟩
  all_goals rcases O.tri b a with ⟨g1, g2, g3⟩ | ⟨g1, g2, g3⟩ | ⟨g1, g2, g3⟩
  all_goals simp_all

theorem OrdOK.eq_trans (O : OrdOK lt eq) {a b c : α} (h1 : eq a b = true) (h2 : eq b c = true) : eq a c = true := by
  have e1 := O.same a b c h1
  have e2 := O.eq_no h2
  exact O.eq_of (by rw [e1.1]; exact e2.1) (by rw [e1.2]; exact e2.2)

theorem OrdOK.asymm (O : OrdOK lt eq) {a b : α} (h : lt a b = true) : lt b a = false := by
  rcases O.tri a b with ⟨_, g, _⟩ | ⟨g, _, _⟩ | ⟨g, _, _⟩
  · exact g
  · rw [h] at g; cases g
  · rw [h] at g; cases g

/-- A list that rises. -/
def RiseO (lt : α → α → Bool) (l : List α) : Prop := l.Pairwise fun a b => lt a b = true

/-- How many stand ahead of x. -/
def placeO (lt : α → α → Bool) (l : List α) (x : α) : Nat := (l.takeWhile fun e => lt e x).length

/-- Where the first one like x stands. -/
def findO (eq : α → α → Bool) (l : List α) (x : α) : Option Nat := l.findIdx? fun e => eq e x

/-- x at its place, instead of the one like it. -/
def putO (lt eq : α → α → Bool) (l : List α) (x : α) : List α :=
  match findO eq l x with
  | some i => l.set i x
  | none => putS l (placeO lt l x) x

/-- All but such as are like x. -/
def dropO (eq : α → α → Bool) (l : List α) (x : α) : List α := l.filter fun e => !eq e x

theorem placeO_le (l : List α) (x : α) : placeO lt l x ≤ l.length := by
  unfold placeO
  exact (List.takeWhile_sublist _).length_le

theorem findO_some {l : List α} {x : α} {i : Nat} (h : findO eq l x = some i) : ∃ hi : i < l.length, eq l[i] x = true ∧ ∀ j (hj : j < i), eq (l[j]'(by omega)) x = false := by
  unfold findO at h
  rw [List.findIdx?_eq_some_iff_getElem] at h
  obtain ⟨hi, h2, h3⟩ := h
  exact ⟨hi, h2, fun j hj => by simpa using h3 j hj⟩

theorem findO_none {l : List α} {x : α} (h : findO eq l x = none) : ∀ y ∈ l, eq y x = false := by
  unfold findO at h
  rw [List.findIdx?_eq_none_iff] at h
  intro y hy
  simpa using h y hy

theorem findO_of {l : List α} {x : α} {i : Nat} (hi : i < l.length) (h : eq l[i] x = true) (hn : ∀ j (hj : j < i), eq (l[j]'(by omega)) x = false) : findO eq l x = some i := by
  unfold findO
  rw [List.findIdx?_eq_some_iff_getElem]
  exact ⟨hi, h, fun j hj => by simpa using hn j hj⟩

theorem findO_of_none {l : List α} {x : α} (h : ∀ y ∈ l, eq y x = false) : findO eq l x = none := by
  unfold findO
  rw [List.findIdx?_eq_none_iff]
  intro y hy
  simpa using h y hy

theorem rise_get {l : List α} (h : RiseO lt l) {i j : Nat} (hj : j < l.length) (hij : i < j) : lt (l[i]'(by omega)) l[j] = true :=
  List.pairwise_iff_getElem.1 h i j (by omega) hj hij

theorem placeO_ahead {l : List α} {x : α} {k : Nat} (h : k < placeO lt l x) : lt (l[k]'(Nat.lt_of_lt_of_le h (placeO_le l x))) x = true := by
  unfold placeO at h
  have h1 : (l.takeWhile fun e => lt e x)[k] ∈ l.takeWhile fun e => lt e x := List.getElem_mem h
  have h2 := List.all_takeWhile (l := l) (p := fun e => lt e x)
  rw [List.all_eq_true] at h2
  have h3 := h2 _ h1
  have h4 := (List.takeWhile_prefix (fun e => lt e x) (l := l)).getElem h
  rwa [h4] at h3

theorem takeWhile_stop {p : α → Bool} : ∀ {l : List α} (h : (l.takeWhile p).length < l.length), p (l[(l.takeWhile p).length]'h) = false
  | [], h => by simp at h
  | a :: l, h => by
    by_cases hp : p a = true
    · have e : (a :: l).takeWhile p = a :: l.takeWhile p := by rw [List.takeWhile_cons, if_pos hp]
      simp only [e, List.length_cons, List.getElem_cons_succ]
      exact takeWhile_stop (l := l) (by simpa [e] using h)
    · have e : (a :: l).takeWhile p = [] := by rw [List.takeWhile_cons, if_neg hp]
      simp only [e, List.length_nil, List.getElem_cons_zero]
      simpa using hp

theorem placeO_behind (O : OrdOK lt eq) {l : List α} (hr : RiseO lt l) {x : α} {k : Nat} (hk : k < l.length) (h : placeO lt l x ≤ k) : lt l[k] x = false := by
  have hp : placeO lt l x < l.length := by omega
  have h0 : lt (l[placeO lt l x]'hp) x = false := takeWhile_stop hp
  by_cases e : placeO lt l x = k
  · simp only [← e]; exact h0
  · have h1 := rise_get hr hk (show placeO lt l x < k by omega)
    rw [Bool.eq_false_iff]
    intro h2
    rw [O.trans _ _ _ h1 h2] at h0
    cases h0

/-- What stands at its place is like x, if any is. -/
theorem findO_place (O : OrdOK lt eq) {l : List α} (hr : RiseO lt l) {x : α} {i : Nat} (h : findO eq l x = some i) : i = placeO lt l x := by
  obtain ⟨hi, he, _⟩ := findO_some h
  rcases Nat.lt_trichotomy i (placeO lt l x) with hlt | he2 | hlt
  · have := placeO_ahead hlt
    rw [(O.eq_no he).1] at this; cases this
  · exact he2
  · have hp : placeO lt l x < l.length := by omega
    have h1 := rise_get hr hi hlt
    have h2 := placeO_behind O hr hp (Nat.le_refl _)
    rw [← (O.same _ _ (l[placeO lt l x]) he).2, h1] at h2
    cases h2

theorem rise_one (O : OrdOK lt eq) {l : List α} (hr : RiseO lt l) {i j : Nat} (hi : i < l.length) (hj : j < l.length) (h : eq l[i] l[j] = true) : i = j := by
  rcases Nat.lt_trichotomy i j with hlt | he | hlt
  · have := rise_get hr hj hlt
    rw [(O.eq_no h).1] at this; cases this
  · exact he
  · have := rise_get hr hi hlt
    rw [(O.eq_no h).2] at this; cases this

theorem rise_mem (O : OrdOK lt eq) {l : List α} (hr : RiseO lt l) {a b : α} (ha : a ∈ l) (hb : b ∈ l) (h : eq a b = true) : a = b := by
  obtain ⟨i, hi, rfl⟩ := List.getElem_of_mem ha
  obtain ⟨j, hj, rfl⟩ := List.getElem_of_mem hb
  have := rise_one O hr hi hj h
  subst this
  rfl

/-- Two lists that rise, of the same ones, are the same. -/
theorem rise_unique (O : OrdOK lt eq) : ∀ {l m : List α}, RiseO lt l → RiseO lt m → (∀ x, x ∈ l ↔ x ∈ m) → l = m
  | [], [], _, _, _ => rfl
  | [], b :: m, _, _, h => by have := (h b).2 (by simp); simp at this
  | a :: l, [], _, _, h => by have := (h a).1 (by simp); simp at this
  | a :: l, b :: m, hl, hm, h => by
    obtain ⟨l1, l2⟩ := List.pairwise_cons.1 hl
    obtain ⟨m1, m2⟩ := List.pairwise_cons.1 hm
    have hab : a = b := by
      have ha := (h a).1 (by simp)
      have hb := (h b).2 (by simp)
      rcases List.mem_cons.1 ha with e | ha'
      · exact e
      · rcases List.mem_cons.1 hb with e | hb'
        · exact e.symm
        · have x1 := m1 a ha'
          have x2 := l1 b hb'
          rw [O.asymm x1] at x2; cases x2
    subst hab
    have hn : ∀ x, x ∈ l ↔ x ∈ m := by
      intro x
      constructor
      · intro hx
        rcases List.mem_cons.1 ((h x).1 (List.mem_cons_of_mem _ hx)) with e | h'
        · have := l1 x hx
          rw [e, O.irrefl] at this; cases this
        · exact h'
      · intro hx
        rcases List.mem_cons.1 ((h x).2 (List.mem_cons_of_mem _ hx)) with e | h'
        · have := m1 x hx
          rw [e, O.irrefl] at this; cases this
        · exact h'
    rw [rise_unique O l2 m2 hn]

theorem mem_putS {l : List α} {i : Nat} {x y : α} : y ∈ putS l i x ↔ y = x ∨ y ∈ l := by
  unfold putS
  constructor
  · intro h
    rcases List.mem_append.1 h with h | h
    · exact .inr (List.mem_of_mem_take h)
    · rcases List.mem_append.1 h with h | h
      · exact .inl (by simpa using h)
      · exact .inr (List.mem_of_mem_drop h)
  · rintro (rfl | h)
    · exact List.mem_append.2 (.inr (by simp))
    · rw [← List.take_append_drop i l] at h
      rcases List.mem_append.1 h with h | h
      · exact List.mem_append.2 (.inl h)
      · exact List.mem_append.2 (.inr (List.mem_append.2 (.inr h)))

theorem rise_putS (O : OrdOK lt eq) {l : List α} (hr : RiseO lt l) {x : α} (hn : ∀ y ∈ l, eq y x = false) : RiseO lt (putS l (placeO lt l x) x) := by
  have hb : ∀ y ∈ l.drop (placeO lt l x), lt x y = true := by
    intro y hy
    obtain ⟨j, hj, rfl⟩ := List.getElem_of_mem hy
    rw [List.getElem_drop]
    rw [List.length_drop] at hj
    have h1 := placeO_behind O hr (x := x) (k := placeO lt l x + j) (by omega) (by omega)
    have h2 := hn _ (List.getElem_mem (show placeO lt l x + j < l.length by omega))
    rcases O.tri l[placeO lt l x + j] x with ⟨g, _, _⟩ | ⟨_, g, _⟩ | ⟨_, _, g⟩
    · rw [h1] at g; cases g
    · exact g
    · rw [h2] at g; cases g
  have ha : ∀ y ∈ l.take (placeO lt l x), lt y x = true := by
    intro y hy
    obtain ⟨j, hj, rfl⟩ := List.getElem_of_mem hy
    rw [List.getElem_take]
    rw [List.length_take] at hj
    exact placeO_ahead (by omega)
  have hr' := hr
  unfold RiseO at hr' ⊢
  unfold putS
  rw [← List.take_append_drop (placeO lt l x) l] at hr'
  obtain ⟨h1, h2, h3⟩ := List.pairwise_append.1 hr'
  rw [List.pairwise_append]
  refine ⟨h1, ?_, ?_⟩
  · rw [List.singleton_append, List.pairwise_cons]
    exact ⟨hb, h2⟩
  · intro a ha' b hb'
    rcases List.mem_append.1 hb' with hb' | hb'
    · obtain rfl : b = x := by simpa using hb'
      exact ha a ha'
    · exact h3 a ha' b hb'

theorem rise_set (O : OrdOK lt eq) {l : List α} (hr : RiseO lt l) {x : α} {i : Nat} (hi : i < l.length) (he : eq l[i] x = true) : RiseO lt (l.set i x) := by
  unfold RiseO
  rw [List.pairwise_iff_getElem]
  intro j k hj hk hjk
  rw [List.length_set] at hj hk
  have h := rise_get hr hk hjk
  rw [List.getElem_set, List.getElem_set]
  by_cases e1 : i = j
  · rw [if_pos e1, if_neg (by omega)]
    subst e1
    rw [← (O.same _ _ _ he).1]; exact h
  · rw [if_neg e1]
    by_cases e2 : i = k
    · rw [if_pos e2]
      subst e2
      rw [← (O.same _ _ _ he).2]; exact h
    · rw [if_neg e2]; exact h

theorem mem_set_rise (O : OrdOK lt eq) {l : List α} (hr : RiseO lt l) {x y : α} {i : Nat} (hi : i < l.length) (he : eq l[i] x = true) : y ∈ l.set i x ↔ y = x ∨ (y ∈ l ∧ eq y x = false) := by
  rw [List.mem_iff_getElem]
  constructor
  · rintro ⟨j, hj, rfl⟩
    rw [List.length_set] at hj
    rw [List.getElem_set]
    by_cases e : i = j
    · rw [if_pos e]; exact .inl rfl
    · rw [if_neg e]
      refine .inr ⟨List.getElem_mem hj, ?_⟩
      rw [Bool.eq_false_iff]
      intro h
      have h2 : eq l[i] l[j] = true := O.eq_trans he (by rw [O.symm]; exact h)
      exact e (rise_one O hr hi hj h2)
  · rintro (rfl | ⟨h, hne⟩)
    · exact ⟨i, by simpa using hi, by simp⟩
    · obtain ⟨j, hj, rfl⟩ := List.getElem_of_mem h
      refine ⟨j, by simpa using hj, ?_⟩
      rw [List.getElem_set]
      by_cases e : i = j
      · subst e
        rw [he] at hne; cases hne
      · rw [if_neg e]

theorem rise_putO (O : OrdOK lt eq) {l : List α} (hr : RiseO lt l) (x : α) : RiseO lt (putO lt eq l x) := by
  unfold putO
  cases h : findO eq l x with
  | some i => obtain ⟨hi, he, _⟩ := findO_some h; exact rise_set O hr hi he
  | none => exact rise_putS O hr (findO_none h)

theorem mem_putO (O : OrdOK lt eq) {l : List α} (hr : RiseO lt l) (x y : α) : y ∈ putO lt eq l x ↔ y = x ∨ (y ∈ l ∧ eq y x = false) := by
  unfold putO
  cases h : findO eq l x with
  | some i => obtain ⟨hi, he, _⟩ := findO_some h; exact mem_set_rise O hr hi he
  | none =>
    show y ∈ putS l (placeO lt l x) x ↔ _
    rw [mem_putS]
    constructor
    · rintro (h' | h')
      · exact .inl h'
      · exact .inr ⟨h', findO_none h y h'⟩
    · rintro (h' | h')
      · exact .inl h'
      · exact .inr h'.1

theorem putO_len (l : List α) (x : α) : (putO lt eq l x).length = if (findO eq l x).isSome then l.length else l.length + 1 := by
  unfold putO
  cases findO eq l x with
  | some i => simp
  | none => simp [putS_len]

theorem rise_dropO {l : List α} (hr : RiseO lt l) (x : α) : RiseO lt (dropO eq l x) := List.Pairwise.filter _ hr

theorem mem_dropO (l : List α) (x y : α) : y ∈ dropO eq l x ↔ y ∈ l ∧ eq y x = false := by
  unfold dropO
  rw [List.mem_filter]
  simp

/-- In a list that rises one alone is taken out. -/
theorem dropO_at (O : OrdOK lt eq) {l : List α} (hr : RiseO lt l) {x : α} {i : Nat} (h : findO eq l x = some i) : dropO eq l x = l.take i ++ l.drop (i + 1) := by
  obtain ⟨hi, he, _⟩ := findO_some h
  refine rise_unique O (rise_dropO hr x) ?_ (fun y => ?_)
  · have h2 : (l.take i ++ l.drop (i + 1)).Sublist l := by
      conv => rhs; rw [← List.take_append_drop i l]
      exact List.Sublist.append (List.Sublist.refl _) (by rw [List.drop_eq_getElem_cons hi]; exact List.sublist_cons_self _ _)
    exact hr.sublist h2
  · rw [mem_dropO]
    constructor
    · rintro ⟨hy, hne⟩
      rw [← List.take_append_drop i l] at hy
      rcases List.mem_append.1 hy with hy | hy
      · exact List.mem_append.2 (.inl hy)
      · rw [List.drop_eq_getElem_cons hi] at hy
        rcases List.mem_cons.1 hy with e | hy
        · rw [e, he] at hne; cases hne
        · exact List.mem_append.2 (.inr hy)
    · intro hy
      have key : ∀ j (hj : j < l.length), j ≠ i → eq l[j] x = false := by
        intro j hj hne
        rw [Bool.eq_false_iff]
        intro h3
        exact hne (rise_one O hr hj hi (O.eq_trans h3 (by rw [O.symm]; exact he)))
      rcases List.mem_append.1 hy with hy | hy
      · obtain ⟨j, hj, rfl⟩ := List.getElem_of_mem hy
        rw [List.length_take] at hj
        rw [List.getElem_take]
        exact ⟨List.getElem_mem _, key j (by omega) (by omega)⟩
      · obtain ⟨j, hj, rfl⟩ := List.getElem_of_mem hy
        rw [List.length_drop] at hj
        rw [List.getElem_drop]
        exact ⟨List.getElem_mem _, key (i + 1 + j) (by omega) (by omega)⟩

theorem findO_isSome {l : List α} {x : α} : (findO eq l x).isSome = l.any fun e => eq e x := by
  cases h : findO eq l x with
  | some i =>
    obtain ⟨hi, he, _⟩ := findO_some h
    symm
    show (l.any fun e => eq e x) = true
    rw [List.any_eq_true]
    exact ⟨_, List.getElem_mem hi, he⟩
  | none =>
    symm
    show l.any _ = false
    rw [List.any_eq_false]
    intro y hy
    rw [findO_none h y hy]
    simp

end

end Go.Proofs.YthfkfonfiejbmaaGreat

end

section

/-
  PLAIN, OVER ANY ORDER OF KEYS: one walk through a list that rises, which puts one in at its place, or leaves it out (the document's set).
-/
namespace Go.Proofs.YthfkfonfiejbmaaGreat

section
variable {α : Type} {lt eq : α → α → Bool}

/-- What is left to be told, from here on. -/
def rsO (lt eq : α → α → Bool) (x : α) : List α → Bool → List α
  | [], d => if d = true then [] else [x]
  | e :: t, d => if eq e x = true then rsO lt eq x t d else if (!d && lt x e) = true then x :: e :: rsO lt eq x t true else e :: rsO lt eq x t d

theorem rsO_drop (l : List α) (x : α) : rsO lt eq x l true = dropO eq l x := by
  induction l with
  | nil => rfl
  | cons e t ih =>
    unfold rsO dropO
    rw [List.filter_cons]
    cases h : eq e x with
    | true => simp only [if_true, ih, Bool.not_true]; rfl
    | false => simp only [Bool.not_true, Bool.false_and, Bool.false_eq_true, if_false, Bool.not_false, if_true, ih]; rfl

theorem rsO_mem (l : List α) (x y : α) : y ∈ rsO lt eq x l false ↔ y = x ∨ (y ∈ l ∧ eq y x = false) := by
  induction l with
  | nil => simp [rsO]
  | cons e t ih =>
    unfold rsO
    cases h : eq e x with
    | true =>
      rw [if_pos rfl, ih]
      constructor
      · rintro (h1 | ⟨h1, h2⟩)
        · exact .inl h1
        · exact .inr ⟨List.mem_cons_of_mem _ h1, h2⟩
      · rintro (h1 | ⟨h1, h2⟩)
        · exact .inl h1
        · rcases List.mem_cons.1 h1 with rfl | h1
          · rw [h] at h2; cases h2
          · exact .inr ⟨h1, h2⟩
    | false =>
      rw [if_neg (by simp)]
      split
      · rw [List.mem_cons, List.mem_cons, rsO_drop, mem_dropO]
        constructor
        · rintro (h1 | rfl | ⟨h1, h2⟩)
          · exact .inl h1
          · exact .inr ⟨List.mem_cons_self, h⟩
          · exact .inr ⟨List.mem_cons_of_mem _ h1, h2⟩
        · rintro (h1 | ⟨h1, h2⟩)
          · exact .inl h1
          · rcases List.mem_cons.1 h1 with rfl | h1
            · exact .inr (.inl rfl)
            · exact .inr (.inr ⟨h1, h2⟩)
      · rw [List.mem_cons, ih]
        constructor
        · rintro (rfl | h1 | ⟨h1, h2⟩)
          · exact .inr ⟨List.mem_cons_self, h⟩
          · exact .inl h1
          · exact .inr ⟨List.mem_cons_of_mem _ h1, h2⟩
        · rintro (h1 | ⟨h1, h2⟩)
          · exact .inr (.inl h1)
          · rcases List.mem_cons.1 h1 with rfl | h1
            · exact .inl rfl
            · exact .inr (.inr ⟨h1, h2⟩)

theorem rsO_rise (O : OrdOK lt eq) {l : List α} (hr : RiseO lt l) (x : α) : RiseO lt (rsO lt eq x l false) := by
  induction l with
  | nil => exact List.pairwise_singleton _ _
  | cons e t ih =>
    have hp := List.pairwise_cons.1 hr
    unfold rsO
    cases h : eq e x with
    | true => rw [if_pos rfl]; exact ih hp.2
    | false =>
      rw [if_neg (by simp)]
      cases h2 : lt x e with
      | true =>
        rw [if_pos (by simp)]
        refine List.pairwise_cons.2 ⟨fun y hy => ?_, List.pairwise_cons.2 ⟨fun y hy => ?_, ?_⟩⟩
        · rcases List.mem_cons.1 hy with rfl | hy
          · exact h2
          · rw [rsO_drop, mem_dropO] at hy
            exact O.trans _ _ _ h2 (hp.1 y hy.1)
        · rw [rsO_drop, mem_dropO] at hy
          exact hp.1 y hy.1
        · rw [rsO_drop]
          exact rise_dropO hp.2 x
      | false =>
        rw [if_neg (by simp)]
        refine List.pairwise_cons.2 ⟨fun y hy => ?_, ih hp.2⟩
        rcases (rsO_mem t x y).1 hy with rfl | ⟨hy, _⟩
        · rcases O.tri e y with ⟨h3, _, _⟩ | ⟨_, h3, _⟩ | ⟨_, _, h3⟩
          · exact h3
          · rw [h2] at h3; cases h3
          · rw [h] at h3; cases h3
        · exact hp.1 y hy

theorem rsO_put (O : OrdOK lt eq) {l : List α} (hr : RiseO lt l) (x : α) : rsO lt eq x l false = putO lt eq l x :=
  rise_unique O (rsO_rise O hr x) (rise_putO O hr x) (fun y => (rsO_mem l x y).trans (mem_putO O hr x y).symm)

end

end Go.Proofs.YthfkfonfiejbmaaGreat

end

section

/-
  LAYER 8, PLAIN: what rosters may be, as the document asks it entry by entry, and as the code asks it: the same. Set, put and dropped.
-/
namespace Go.Proofs.YthfkfonfiejbmaaGreat

theorem entOrd : OrdOK entLt entIs where
  irrefl := entLt_irrefl
  trans _ _ _ := entLt_trans
  tri := entLt_tri
  same _ _ _ h := entLt_same h

/-- An entry is of two names, and stands behind the one ahead (the same words as riseAt). -/
def roRiseAt (l : List Ent) (i : Nat) : Bool :=
  idIs (l.getD i Ent.zero).o && (idIs (l.getD i Ent.zero).c && (!decide ((l.getD i Ent.zero).o = (l.getD i Ent.zero).c) && (decide (i = 0) || entLt (l.getD (i - 1) Ent.zero) (l.getD i Ent.zero))))

def roIt (l : List Ent) (o c : List UInt8) : It := match l.find? fun e => entIs e ⟨o, c, It.zero⟩ with
  | some e => e.it
  | none => It.zero

/-- Has it a counterpart that it may face, and not both empty? -/
def roPaired (l : List Ent) (e : Ent) : Bool :=
  (l.any fun x => entIs x ⟨e.c, e.o, It.zero⟩) && (suMay e.it (roIt l e.c e.o) && !(suEmpty e.it && suEmpty (roIt l e.c e.o)))

def roCodeAt (l : List Ent) (i : Nat) : Bool := !roOver l i && roPaired l (l.getD i Ent.zero)

/-- The code's May. -/
def roMayC (l : List Ent) : Bool := (List.range l.length).all (roRiseAt l) && (List.range l.length).all (roCodeAt l)

def roDocAt (l : List Ent) (i : Nat) : Bool := roRiseAt l i && (decide ((roOf l (l.getD i Ent.zero).o).length ≤ 16) && roPaired l (l.getD i Ent.zero))

/-- The document's May. -/
def roMayD (l : List Ent) : Bool := (List.range l.length).all (roDocAt l)

theorem roRise_rise {l : List Ent} (h : (List.range l.length).all (roRiseAt l) = true) : Rise l := by
  rw [List.all_eq_true] at h
  have step : ∀ k, k + 1 < l.length → entLt (l.getD k Ent.zero) (l.getD (k + 1) Ent.zero) = true := by
    intro k hk
    have := h (k + 1) (List.mem_range.2 hk)
    unfold roRiseAt at this
    simp only [Bool.and_eq_true, Bool.or_eq_true, decide_eq_true_eq] at this
    rcases this.2.2.2 with h0 | h0
    · omega
    · rwa [show k + 1 - 1 = k by omega] at h0
  have far : ∀ d i, i + (d + 1) < l.length → entLt (l.getD i Ent.zero) (l.getD (i + (d + 1)) Ent.zero) = true := by
    intro d
    induction d with
    | zero => intro i hi; exact step i hi
    | succ d ih =>
      intro i hi
      exact entLt_trans (ih i (by omega)) (step (i + (d + 1)) (by omega))
  refine List.pairwise_iff_getElem.2 fun i j hi hj hij => ?_
  obtain ⟨d, rfl⟩ : ∃ d, j = i + (d + 1) := ⟨j - i - 1, by omega⟩
  have := far d i hj
  rwa [getD_at hi, getD_at hj] at this

theorem roMay_same (l : List Ent) : roMayD l = roMayC l := by
  rw [Bool.eq_iff_iff]
  unfold roMayD roMayC
  rw [Bool.and_eq_true, List.all_eq_true, List.all_eq_true, List.all_eq_true]
  constructor
  · intro h
    have h1 : ∀ i ∈ List.range l.length, roRiseAt l i = true := fun i hi => by
      have := h i hi
      unfold roDocAt at this
      simp only [Bool.and_eq_true] at this
      exact this.1
    have hr : Rise l := roRise_rise (by rw [List.all_eq_true]; exact h1)
    have hov := (over_iff hr).1 (fun i hi => by
      have := h i (List.mem_range.2 hi)
      unfold roDocAt at this
      simp only [Bool.and_eq_true, decide_eq_true_eq] at this
      exact this.2.1)
    refine ⟨h1, fun i hi => ?_⟩
    have := h i hi
    unfold roDocAt at this
    simp only [Bool.and_eq_true] at this
    unfold roCodeAt
    rw [hov i (List.mem_range.1 hi), this.2.2]
    rfl
  · rintro ⟨h1, h2⟩ i hi
    have hr : Rise l := roRise_rise (by rw [List.all_eq_true]; exact h1)
    have hov := (over_iff hr).2 (fun i hi => by
      have := h2 i (List.mem_range.2 hi)
      unfold roCodeAt at this
      simp only [Bool.and_eq_true, Bool.not_eq_true'] at this
      exact this.1)
    have hc := h2 i hi
    unfold roCodeAt at hc
    simp only [Bool.and_eq_true] at hc
    unfold roDocAt
    rw [h1 i hi, hc.2, Bool.true_and, Bool.and_true]
    simpa using hov i (List.mem_range.1 hi)

theorem roMay_rise {l : List Ent} (h : roMayC l = true) : Rise l := by
  unfold roMayC at h
  rw [Bool.and_eq_true] at h
  exact roRise_rise h.1

/-- With it at its place, or without it. -/
def roSet (l : List Ent) (x : Ent) (keep : Bool) : List Ent := rsO entLt entIs x l (!keep)

theorem roSet_keep {l : List Ent} (hr : Rise l) (x : Ent) : roSet l x true = putO entLt entIs l x := rsO_put entOrd hr x
theorem roSet_drop (l : List Ent) (x : Ent) : roSet l x false = dropO entIs l x := rsO_drop l x

theorem roSet_rise {l : List Ent} (hr : Rise l) (x : Ent) (keep : Bool) : Rise (roSet l x keep) := by
  cases keep with
  | true => rw [roSet_keep hr]; exact rise_putO entOrd hr x
  | false => rw [roSet_drop]; exact rise_dropO hr x

/-- P8.2. -/
def roDo (l : List Ent) (k : Int) (u o : List UInt8) : List Ent × Nat :=
  if (roMayC l && (idIs u && (idIs o && (!decide (u = o) && (decide (1 ≤ k) && decide (k ≤ 6)))))) = true then
    (match suAct (roIt l u o) (roIt l o u) k with
    | (a, b, e) =>
      if e ≠ 0 then (l, e)
      else if (!(l.any fun x => entIs x ⟨u, o, It.zero⟩) && (decide (16 ≤ (roOf l u).length) || decide (16 ≤ (roOf l o).length))) = true then (l, 5)
      else (roSet (roSet l ⟨u, o, a⟩ (!(suEmpty a && suEmpty b))) ⟨o, u, b⟩ (!(suEmpty a && suEmpty b)), 0))
  else (l, 1)

end Go.Proofs.YthfkfonfiejbmaaGreat

end

section

/-
  LAYER 8, PLAIN: of rosters that may be come rosters that may be; nobody else's items turn.
-/
namespace Go.Proofs.YthfkfonfiejbmaaGreat

/-- What rosters may be, entry by entry. -/
def RoM (l : List Ent) : Prop := Rise l ∧ ∀ e ∈ l, idIs e.o = true ∧ idIs e.c = true ∧ e.o ≠ e.c ∧ (roOf l e.o).length ≤ 16 ∧ ∃ f ∈ l, f.o = e.c ∧ f.c = e.o ∧ suMay e.it f.it = true ∧ (suEmpty e.it && suEmpty f.it) = false

theorem roIt_mem {l : List Ent} (hr : Rise l) {f : Ent} (hf : f ∈ l) : roIt l f.o f.c = f.it := by
  unfold roIt
  cases h : l.find? (fun e => entIs e ⟨f.o, f.c, It.zero⟩) with
  | none =>
    exact absurd (entIs_iff.2 ⟨rfl, rfl⟩ : entIs f ⟨f.o, f.c, It.zero⟩ = true) ((List.find?_eq_none.1 h) f hf)
  | some e =>
    have h1 := List.find?_some h
    have h2 := List.mem_of_find?_eq_some h
    have h3 : entIs e f = true := entIs_iff.2 (entIs_iff.1 h1)
    rw [rise_mem entOrd hr h2 hf h3]

theorem roIt_none {l : List Ent} {o c : List UInt8} (h : ∀ e ∈ l, ¬ (e.o = o ∧ e.c = c)) : roIt l o c = It.zero := by
  unfold roIt
  rw [List.find?_eq_none.2 (fun e he => by
    intro h'
    exact h e he (entIs_iff.1 h'))]

theorem roAny {l : List Ent} {o c : List UInt8} : (l.any fun x => entIs x ⟨o, c, It.zero⟩) = true ↔ ∃ f ∈ l, f.o = o ∧ f.c = c := by
  rw [List.any_eq_true]
  constructor
  · rintro ⟨f, hf, h⟩
    exact ⟨f, hf, entIs_iff.1 h⟩
  · rintro ⟨f, hf, h⟩
    exact ⟨f, hf, entIs_iff.2 h⟩

theorem roPaired_iff {l : List Ent} (hr : Rise l) (e : Ent) : roPaired l e = true ↔ ∃ f ∈ l, f.o = e.c ∧ f.c = e.o ∧ suMay e.it f.it = true ∧ (suEmpty e.it && suEmpty f.it) = false := by
  unfold roPaired
  rw [Bool.and_eq_true, roAny]
  constructor
  · rintro ⟨⟨f, hf, h1, h2⟩, h⟩
    rw [← h1, ← h2, roIt_mem hr hf, Bool.and_eq_true, Bool.not_eq_true'] at h
    exact ⟨f, hf, h1, h2, h.1, h.2⟩
  · rintro ⟨f, hf, h1, h2, h3, h4⟩
    refine ⟨⟨f, hf, h1, h2⟩, ?_⟩
    rw [← h1, ← h2, roIt_mem hr hf, h3, h4]
    rfl

theorem roMay_iff {l : List Ent} : roMayC l = true ↔ RoM l := by
  rw [← roMay_same]
  unfold roMayD RoM
  rw [List.all_eq_true]
  constructor
  · intro h
    have hr : Rise l := roRise_rise (by
      rw [List.all_eq_true]
      intro i hi
      have := h i hi
      unfold roDocAt at this
      rw [Bool.and_eq_true] at this
      exact this.1)
    refine ⟨hr, fun e he => ?_⟩
    obtain ⟨i, hi, rfl⟩ := List.getElem_of_mem he
    have := h i (List.mem_range.2 hi)
    unfold roDocAt roRiseAt at this
    rw [getD_at hi] at this
    simp only [Bool.and_eq_true, decide_eq_true_eq, Bool.not_eq_true', decide_eq_false_iff_not] at this
    exact ⟨this.1.1, this.1.2.1, this.1.2.2.1, this.2.1, (roPaired_iff hr _).1 this.2.2⟩
  · rintro ⟨hr, h⟩ i hi
    have hi' := List.mem_range.1 hi
    obtain ⟨h1, h2, h3, h4, h5⟩ := h _ (List.getElem_mem hi')
    unfold roDocAt roRiseAt
    rw [getD_at hi', h1, h2, (roPaired_iff hr _).2 h5]
    simp only [h3, h4, decide_true, decide_false, Bool.not_false, Bool.true_and, Bool.and_true]
    by_cases h0 : i = 0
    · simp [h0]
    · have h6 : entLt (l.getD (i - 1) Ent.zero) l[i] = true := by
        rw [getD_at (by omega)]
        exact rise_get hr hi' (by omega)
      rw [h6]
      simp

/-- How many entries one owner has. -/
def cntO (l : List Ent) (p : List UInt8) : Nat := (l.filter (ofOwner p)).length

end Go.Proofs.YthfkfonfiejbmaaGreat

end

section

/-
  PLAIN MATHEMATICS OF LAYER 4 (value): what may be, its bytes, and how they are read. No program in sight.
-/
namespace Go.Proofs.YthfkfonfiejbmaaGreat

/-- A value as its fields. -/
structure Val where
  sh : Int
  pr : Int
  si : Int
  st : List UInt8

def Val.zero : Val := ⟨0, 0, 0, []⟩

/-- A byte that can be shown. -/
def chOk (b : UInt8) : Bool := decide (32 ≤ b.toNat) && decide (b.toNat ≤ 126)

def stOk (l : List UInt8) : Bool := decide (l.length ≤ 32) && l.all chOk

def numsOk (a b c : Int) : Bool := decide (1 ≤ a ∧ a ≤ 4 ∧ -128 ≤ b ∧ b ≤ 127 ∧ 0 ≤ c ∧ c ≤ 1099511627776)

/-- May it be? -/
def vaMay (v : Val) : Bool := numsOk v.sh v.pr v.si && stOk v.st

/-- Its bytes. -/
def vaBytes (v : Val) : List UInt8 := [u8of v.sh.toNat, u8of (v.pr + 128).toNat] ++ (vput v.si.toNat ++ (vput v.st.length ++ v.st))

def vaTwo (l : List UInt8) (p : Int) (n : Nat) (t : List UInt8) : Val := ⟨(l.getD p.toNat 0).toNat, (l.getD (p.toNat + 1) 0).toNat - 128, n, t⟩

/-- The value at a place of bytes: value, place behind it, error. -/
def vaTake (l : List UInt8) (p : Int) : Val × Nat × Nat :=
  if p < 0 ∨ (l.length : Int) < p then (Val.zero, 0, 1)
  else if (l.length : Int) - p < 2 then (Val.zero, 0, 2)
  else if (vget l (p + 2)).2.2 ≠ 0 then (Val.zero, 0, (vget l (p + 2)).2.2)
  else if (vtake l (vget l (p + 2)).2.1 32).2.2 ≠ 0 then (Val.zero, 0, (vtake l (vget l (p + 2)).2.1 32).2.2)
  else if vaMay (vaTwo l p (vget l (p + 2)).1 (vtake l (vget l (p + 2)).2.1 32).1) = false then (Val.zero, 0, 3)
  else (vaTwo l p (vget l (p + 2)).1 (vtake l (vget l (p + 2)).2.1 32).1, (vtake l (vget l (p + 2)).2.1 32).2.1, 0)

theorem vaMay_parts {v : Val} (h : vaMay v = true) : 1 ≤ v.sh ∧ v.sh ≤ 4 ∧ -128 ≤ v.pr ∧ v.pr ≤ 127 ∧ 0 ≤ v.si ∧ v.si ≤ 1099511627776 ∧ v.st.length ≤ 32 := by
  unfold vaMay numsOk stOk at h
  simp at h
  omega

/-- The bytes of a number, at a place. -/
theorem vget_bytes {l : List UInt8} {p : Nat} {n f : Nat} (h : vget l p = (n, f, 0)) : p ≤ f ∧ f ≤ l.length ∧ vput n = (l.drop p).take (f - p) := by
  have hf := vget_facts h
  have hp := (hf.2.2 rfl).2
  have hle : p ≤ l.length := by simp at hp; omega
  unfold vget at h
  rw [if_neg (by omega)] at h
  simp only [Int.toNat_natCast] at h hp
  by_cases he : (vgetF 0 (l.drop p)).2.2 = 0
  · rw [if_pos he] at h
    simp only [Prod.mk.injEq] at h
    have := vputF_vgetF (l.drop p) 9 0 rfl he
    refine ⟨by omega, hf.2.1, ?_⟩
    rw [← h.1]
    unfold vput
    rw [this.1]
    congr 1
    omega
  · rw [if_neg he] at h
    simp only [Prod.mk.injEq] at h
    exact absurd h.2.2 he

/-- The bytes of a text behind its length, at a place. -/
theorem vtake_bytes {l : List UInt8} {p : Nat} {m : Int} {t : List UInt8} {f : Nat} (h : vtake l p m = (t, f, 0)) : p ≤ f ∧ f ≤ l.length ∧ vput t.length ++ t = (l.drop p).take (f - p) ∧ (t.length : Int) ≤ m := by
  obtain ⟨n, g, e, hg⟩ : ∃ n g e, vget l p = (n, g, e) := ⟨_, _, _, rfl⟩
  unfold vtake at h
  rw [hg] at h
  simp only at h
  by_cases he : e = 0
  · subst he
    rw [if_neg (by simp)] at h
    have hb := vget_bytes hg
    by_cases h1 : m < 0 ∨ m < (n : Int)
    · rw [if_pos h1] at h; simp at h
    · rw [if_neg h1] at h
      by_cases h2 : l.length - g < n
      · rw [if_pos h2] at h; simp at h
      · rw [if_neg h2] at h
        simp only [Prod.mk.injEq] at h
        obtain ⟨rfl, rfl, _⟩ := h
        have hl : ((l.drop g).take n).length = n := by simp; omega
        refine ⟨by omega, by omega, ?_, by rw [hl]; omega⟩
        rw [hl, hb.2.2]
        have e1 : g + n - p = (g - p) + n := by omega
        have e2 : l.drop g = (l.drop p).drop (g - p) := by rw [List.drop_drop]; congr 1; omega
        rw [e1, e2, List.take_add]
  · rw [if_pos he] at h
    simp only [Prod.mk.injEq] at h
    exact absurd h.2.2 he

/-- What is put is taken, wherever it stands. -/
theorem vaTake_put {v : Val} (hv : vaMay v = true) (a r : List UInt8) : vaTake (a ++ (vaBytes v ++ r)) (a.length : Int) = (v, a.length + (vaBytes v).length, 0) := by
  obtain ⟨h1, h2, h3, h4, h5, h6, h7⟩ := vaMay_parts hv
  obtain ⟨sh, pr, si, st⟩ := v
  simp only at h1 h2 h3 h4 h5 h6 h7
  obtain ⟨n, rfl⟩ := Int.eq_ofNat_of_zero_le h5
  have e1 : a ++ (vaBytes ⟨sh, pr, n, st⟩ ++ r) = (a ++ [u8of sh.toNat, u8of (pr + 128).toNat]) ++ (vput n ++ (vput st.length ++ st ++ r)) := by
    simp [vaBytes]
  have e2 : ((a.length : Int) + 2) = (((a ++ [u8of sh.toNat, u8of (pr + 128).toNat]).length : Nat) : Int) := by simp
  have g := vget_vput n (by omega) (a ++ [u8of sh.toNat, u8of (pr + 128).toNat]) (vput st.length ++ st ++ r)
  have e3 : (a ++ [u8of sh.toNat, u8of (pr + 128).toNat]).length + (vput n).length = ((a ++ [u8of sh.toNat, u8of (pr + 128).toNat]) ++ vput n).length := (List.length_append ..).symm
  have t := vtake_text ((a ++ [u8of sh.toNat, u8of (pr + 128).toNat]) ++ vput n) st r 32 (by omega) (by omega)
  rw [List.append_assoc _ (vput n)] at t
  rw [e3] at g
  have b1 : ((a ++ [u8of sh.toNat, u8of (pr + 128).toNat]) ++ (vput n ++ (vput st.length ++ st ++ r))).getD a.length 0 = u8of sh.toNat := by simp [List.getD]
  have b2 : ((a ++ [u8of sh.toNat, u8of (pr + 128).toNat]) ++ (vput n ++ (vput st.length ++ st ++ r))).getD (a.length + 1) 0 = u8of (pr + 128).toNat := by
    have : a.length + 1 - a.length = 1 := by omega
    simp [List.getD, this]
  have htwo : vaTwo ((a ++ [u8of sh.toNat, u8of (pr + 128).toNat]) ++ (vput n ++ (vput st.length ++ st ++ r))) a.length n st = ⟨sh, pr, n, st⟩ := by
    unfold vaTwo
    simp only [Int.toNat_natCast]
    rw [b1, b2, u8of_toNat (by omega), u8of_toNat (by omega)]
    rw [show ((sh.toNat : Nat) : Int) = sh by omega, show (((pr + 128).toNat : Nat) : Int) - 128 = pr by omega]
  unfold vaTake
  rw [e1, if_neg (by simp; omega), if_neg (by simp; omega), e2, g]
  simp only [ne_eq, not_true_eq_false, if_false]
  rw [t]
  simp only [not_true_eq_false, if_false]
  rw [htwo, hv]
  simp only [Bool.true_eq_false, if_false]
  simp [vaBytes]
  omega

/-- What is taken is what was put. -/
theorem vaPut_take {l : List UInt8} {p : Nat} {v : Val} {f : Nat} (h : vaTake l p = (v, f, 0)) : vaMay v = true ∧ p ≤ f ∧ f ≤ l.length ∧ vaBytes v = (l.drop p).take (f - p) := by
  unfold vaTake at h
  by_cases h1 : (p : Int) < 0 ∨ (l.length : Int) < p
  · rw [if_pos h1] at h; simp at h
  rw [if_neg h1] at h
  by_cases h2 : (l.length : Int) - p < 2
  · rw [if_pos h2] at h; simp at h
  rw [if_neg h2] at h
  obtain ⟨n, g, e, hg⟩ : ∃ n g e, vget l ((p : Int) + 2) = (n, g, e) := ⟨_, _, _, rfl⟩
  rw [hg] at h
  simp only at h
  by_cases he : e = 0
  · subst he
    simp only [ne_eq, not_true_eq_false, if_false] at h
    obtain ⟨t, k, e', ht⟩ : ∃ t k e', vtake l g 32 = (t, k, e') := ⟨_, _, _, rfl⟩
    rw [ht] at h
    simp only at h
    by_cases he' : e' = 0
    · subst he'
      simp only [not_true_eq_false, if_false] at h
      by_cases hm : vaMay (vaTwo l p n t) = false
      · rw [if_pos hm] at h; simp at h
      · rw [if_neg hm] at h
        simp only [Prod.mk.injEq] at h
        obtain ⟨rfl, rfl, _⟩ := h
        have hg' : vget l ((p + 2 : Nat) : Int) = (n, g, 0) := by rw [← hg]; rfl
        obtain ⟨a1, a2, a3⟩ := vget_bytes hg'
        obtain ⟨b1, b2, b3, b4⟩ := vtake_bytes ht
        refine ⟨by simpa using hm, by omega, b2, ?_⟩
        unfold vaBytes vaTwo
        simp only [Int.toNat_natCast]
        rw [show ((((l.getD (p + 1) 0).toNat : Nat) : Int) - 128 + 128).toNat = (l.getD (p + 1) 0).toNat by omega, u8of_of_toNat, u8of_of_toNat, a3, b3]
        have e1 : k - p = 2 + ((g - (p + 2)) + (k - g)) := by omega
        have e2 : (l.drop p).take 2 = [l.getD p 0, l.getD (p + 1) 0] := by
          rw [List.drop_eq_getElem_cons (show p < l.length by omega), List.drop_eq_getElem_cons (show p + 1 < l.length by omega)]
          rw [show l.getD p 0 = l[p]'(by omega) by simp [List.getD, List.getElem?_eq_getElem (show p < l.length by omega)], show l.getD (p + 1) 0 = l[p + 1]'(by omega) by simp [List.getD, List.getElem?_eq_getElem (show p + 1 < l.length by omega)]]
          rfl
        rw [e1, List.take_add, e2, List.take_add, List.drop_drop, List.drop_drop]
        congr 4
        omega
    · rw [if_pos he'] at h
      simp only [Prod.mk.injEq] at h
      exact absurd h.2.2 he'
  · rw [if_pos he] at h
    simp only [Prod.mk.injEq] at h
    exact absurd h.2.2 he

/-- A length below 128 takes one byte. -/
theorem vput_small_len {n : Nat} (h : n < 128) : (vput n).length = 1 := by rw [vput_lt h]; rfl

theorem vaBytes_len {v : Val} (hv : vaMay v = true) : (vaBytes v).length = 3 + (vput v.si.toNat).length + v.st.length := by
  have h := (vaMay_parts hv).2.2.2.2.2.2
  have := vput_small_len (show v.st.length < 128 by omega)
  unfold vaBytes
  simp only [List.length_append, List.length_cons, List.length_nil]
  omega

/-- The words of the shows. -/
def shows : List (List UInt8) := [[111, 102, 102], [103, 111, 110, 101], [97, 119, 97, 121], [98, 117, 115, 121], [111, 110, 108, 105, 110, 101]]

def vaSay (n : Int) : List UInt8 × Bool := if n < 0 ∨ 4 < n then ([], false) else (shows.getD n.toNat [], true)

def vaHear (l : List UInt8) : Nat × Bool :=
  if l = [111, 102, 102] then (0, true) else if l = [103, 111, 110, 101] then (1, true) else if l = [97, 119, 97, 121] then (2, true)
  else if l = [98, 117, 115, 121] then (3, true) else if l = [111, 110, 108, 105, 110, 101] then (4, true) else (0, false)

/-- Are two values the same? -/
def vaEq (x y : Val) : Bool := (x.sh == y.sh && (x.pr == y.pr && (x.si == y.si && x.st == y.st)))

theorem vaEq_iff {x y : Val} : vaEq x y = true ↔ x = y := by
  obtain ⟨a, b, c, s⟩ := x
  obtain ⟨a', b', c', s'⟩ := y
  simp [vaEq]

end Go.Proofs.YthfkfonfiejbmaaGreat

end

section

/-
  SESSIONS, PLAIN: what one is; when two are the same.
-/
namespace Go.Proofs.YthfkfonfiejbmaaGreat

structure Ses where
  u : List UInt8
  id : Int
  v : Val

def Ses.zero : Ses := ⟨[], 0, Val.zero⟩

def valSame (a b : Val) : Bool := decide (a.sh = b.sh) && (decide (a.pr = b.pr) && (decide (a.si = b.si) && decide (a.st = b.st)))
def sesSame (a b : Ses) : Bool := decide (a.u = b.u) && (decide (a.id = b.id) && valSame a.v b.v)

theorem valSame_iff {a b : Val} : valSame a b = true ↔ a = b := by
  obtain ⟨a1, a2, a3, a4⟩ := a
  obtain ⟨b1, b2, b3, b4⟩ := b
  simp [valSame]

theorem sesSame_iff {a b : Ses} : sesSame a b = true ↔ a = b := by
  obtain ⟨a1, a2, a3⟩ := a
  obtain ⟨b1, b2, b3⟩ := b
  simp [sesSame, valSame_iff]

theorem sesSame_self (a : Ses) : sesSame a a = true := sesSame_iff.2 rfl

end Go.Proofs.YthfkfonfiejbmaaGreat

end

section

/-
  LAYER 9, PLAIN: sessions, their order, what may be; one put, one dropped; whose they are.
-/
namespace Go.Proofs.YthfkfonfiejbmaaGreat

/-- May it be? -/
def seOne (s : Ses) : Bool := idIs s.u && (decide (0 ≤ s.id) && (decide (s.id < 4) && vaMay s.v))

/-- One's place is ahead of the other one's. -/
def seLt (a b : Ses) : Bool := idLess a.u b.u || (decide (a.u = b.u) && decide (a.id < b.id))

/-- The same User and Id. -/
def seIs (a b : Ses) : Bool := decide (a.u = b.u) && decide (a.id = b.id)

theorem seIs_iff {a b : Ses} : seIs a b = true ↔ a.u = b.u ∧ a.id = b.id := by unfold seIs; simp

theorem seOrd : OrdOK seLt seIs where
  irrefl a := by unfold seLt; rw [idLess_irrefl]; simp
  trans a b c h1 h2 := by
    unfold seLt at *
    simp only [Bool.or_eq_true, Bool.and_eq_true, decide_eq_true_eq] at *
    rcases h1 with h1 | ⟨e1, h1⟩
    · rcases h2 with h2 | ⟨e2, h2⟩
      · exact .inl (idLess_trans h1 h2)
      · rw [← e2]; exact .inl h1
    · rcases h2 with h2 | ⟨e2, h2⟩
      · rw [e1]; exact .inl h2
      · exact .inr ⟨e1.trans e2, by omega⟩
  tri a b := by
    unfold seLt seIs
    rcases idLess_tri a.u b.u with ⟨h1, h2, h3⟩ | ⟨h1, h2, h3⟩ | ⟨h1, h2, h3⟩
    · have h3' : ¬ b.u = a.u := fun e => h3 e.symm
      exact .inl ⟨by simp [h1], by simp [h2, h3'], by simp [h3]⟩
    · have h3' : ¬ b.u = a.u := fun e => h3 e.symm
      exact .inr (.inl ⟨by simp [h1, h3], by simp [h2], by simp [h3]⟩)
    · rcases Int.lt_trichotomy a.id b.id with h | h | h
      · exact .inl ⟨by simp [h3, h], by simp [h3, idLess_irrefl]; omega, by simp [h3]; omega⟩
      · exact .inr (.inr ⟨by simp [h3, idLess_irrefl, h], by simp [h3, idLess_irrefl, h], by simp [h3, h]⟩)
      · exact .inr (.inl ⟨by simp [h3, idLess_irrefl]; omega, by simp [h3, h], by simp [h3]; omega⟩)
  same a b x h := by
    obtain ⟨h1, h2⟩ := seIs_iff.1 h
    unfold seLt
    rw [h1, h2]
    exact ⟨rfl, rfl⟩

theorem sgetD {l : List Ses} {i : Nat} (h : i < l.length) : l.getD i Ses.zero = l[i] := by
  rw [List.getD_eq_getElem?_getD, List.getElem?_eq_getElem h]; rfl

/-- What May asks at a place. -/
def seAt (l : List Ses) (i : Nat) : Bool := seOne (l.getD i Ses.zero) && (decide (i = 0) || seLt (l.getD (i - 1) Ses.zero) (l.getD i Ses.zero))

def seMay (l : List Ses) : Bool := decide (l.length ≤ 32) && (List.range l.length).all (seAt l)

theorem all_next {p : Nat → Bool} {k : Nat} (h : (List.range k).all p = true) (hk : p k = true) : (List.range (k + 1)).all p = true := by
  rw [List.range_succ, List.all_append, h]
  simpa using hk

theorem all_off {p : Nat → Bool} {k n : Nat} (hk : k < n) (h : p k = false) : (List.range n).all p = false := by
  rw [List.all_eq_false]
  exact ⟨k, List.mem_range.2 hk, by rw [h]; simp⟩

theorem all_get {p : Nat → Bool} {n k : Nat} (h : (List.range n).all p = true) (hk : k < n) : p k = true := by
  rw [List.all_eq_true] at h
  exact h k (List.mem_range.2 hk)

theorem seMay_off {l : List Ses} {k : Nat} (hk : k < l.length) (h : seAt l k = false) : seMay l = false := by
  unfold seMay
  rw [all_off hk h]
  simp

theorem seMay_long {l : List Ses} (h : ¬ l.length ≤ 32) : seMay l = false := by
  unfold seMay
  simp [h]

theorem seMay_all {l : List Ses} (h : l.length ≤ 32) (ha : (List.range l.length).all (seAt l) = true) : seMay l = true := by
  unfold seMay
  rw [ha]
  simp [h]

theorem seMay_rise {l : List Ses} (h : seMay l = true) : l.length ≤ 32 ∧ RiseO seLt l ∧ ∀ s ∈ l, seOne s = true := by
  unfold seMay at h
  simp only [Bool.and_eq_true, decide_eq_true_eq] at h
  obtain ⟨h1, h2⟩ := h
  have hn : ∀ i (hi : i + 1 < l.length), seLt l[i] l[i + 1] = true := by
    intro i hi
    have := all_get h2 hi
    unfold seAt at this
    rw [sgetD hi, show i + 1 - 1 = i by omega, sgetD (by omega)] at this
    simp only [Bool.and_eq_true, Bool.or_eq_true, decide_eq_true_eq] at this
    rcases this.2 with h' | h'
    · omega
    · exact h'
  refine ⟨h1, ?_, fun s hs => ?_⟩
  · unfold RiseO
    rw [List.pairwise_iff_getElem]
    intro i j hi hj hij
    have : ∀ d (hd : i + d + 1 < l.length), seLt l[i] l[i + d + 1] = true := by
      intro d
      induction d with
      | zero => intro hd; exact hn i hd
      | succ d ih => intro hd; exact seOrd.trans _ _ _ (ih (by omega)) (hn (i + d + 1) hd)
    have := this (j - i - 1) (by omega)
    simpa [show i + (j - i - 1) + 1 = j by omega] using this
  · obtain ⟨i, hi, rfl⟩ := List.getElem_of_mem hs
    have := all_get h2 hi
    unfold seAt at this
    rw [sgetD hi] at this
    simp only [Bool.and_eq_true] at this
    exact this.1

/-- P9.2. -/
def sePut (l : List Ses) (s : Ses) : List Ses × Nat :=
  if seMay l = true ∧ seOne s = true then
    (if (findO seIs l s).isSome = true ∨ l.length < 32 then (putO seLt seIs l s, 0) else (l, 5))
  else (l, 1)

/-- The key of a session. -/
def keyS (u : List UInt8) (id : Int) : Ses := ⟨u, id, Val.zero⟩

/-- P9.3. -/
def seDrop (l : List Ses) (u : List UInt8) (id : Int) : List Ses × Nat :=
  if seMay l = true then
    (if (findO seIs l (keyS u id)).isSome = true then (dropO seIs l (keyS u id), 0) else (l, 6))
  else (l, 1)

/-- P9.1. -/
def seOf (l : List Ses) (u : List UInt8) : List Ses := l.filter fun s => decide (s.u = u)
def seNames (l : List Ses) : List (List UInt8) := l.map Ses.u

theorem sePut_arg {l : List Ses} {s : Ses} (h : seMay l = false ∨ seOne s = false) : sePut l s = (l, 1) := by
  unfold sePut
  rw [if_neg]
  rintro ⟨h1, h2⟩
  rcases h with h | h
  · rw [h] at h1; cases h1
  · rw [h] at h2; cases h2

theorem sePut_set {l : List Ses} {s : Ses} (h1 : seMay l = true) (h2 : seOne s = true) {i : Nat} (h : findO seIs l s = some i) : sePut l s = (l.set i s, 0) := by
  unfold sePut
  rw [if_pos ⟨h1, h2⟩, if_pos (.inl (by rw [h]; rfl))]
  unfold putO
  rw [h]

theorem sePut_full {l : List Ses} {s : Ses} (h1 : seMay l = true) (h2 : seOne s = true) (h : findO seIs l s = none) (h3 : ¬ l.length < 32) : sePut l s = (l, 5) := by
  unfold sePut
  rw [if_pos ⟨h1, h2⟩, if_neg]
  rw [h]
  rintro (h4 | h4)
  · cases h4
  · exact h3 h4

theorem sePut_new {l : List Ses} {s : Ses} (h1 : seMay l = true) (h2 : seOne s = true) (h : findO seIs l s = none) (h3 : l.length < 32) : sePut l s = (putS l (placeO seLt l s) s, 0) := by
  unfold sePut
  rw [if_pos ⟨h1, h2⟩, if_pos (.inr h3)]
  unfold putO
  rw [h]

theorem seDrop_arg {l : List Ses} {u : List UInt8} {id : Int} (h : seMay l = false) : seDrop l u id = (l, 1) := by
  unfold seDrop
  rw [if_neg]
  rw [h]; simp

theorem seDrop_none {l : List Ses} {u : List UInt8} {id : Int} (h : seMay l = true) (hn : findO seIs l (keyS u id) = none) : seDrop l u id = (l, 6) := by
  unfold seDrop
  rw [if_pos h, if_neg]
  rw [hn]; simp

theorem seDrop_at {l : List Ses} {u : List UInt8} {id : Int} (h : seMay l = true) {i : Nat} (hn : findO seIs l (keyS u id) = some i) : seDrop l u id = (l.take i ++ l.drop (i + 1), 0) := by
  unfold seDrop
  rw [if_pos h, if_pos (by rw [hn]; rfl), dropO_at seOrd (seMay_rise h).2.1 hn]

end Go.Proofs.YthfkfonfiejbmaaGreat

end

section

/-
  EVENTS, PLAIN. No program in sight.
-/
namespace Go.Proofs.YthfkfonfiejbmaaGreat

structure Ev where
  k : Int
  u : List UInt8
  o : List UInt8
  id : Int
  v : Val

def Ev.zero : Ev := ⟨0, [], [], 0, Val.zero⟩

/-- Texts that the contracts serve. -/
def evShort (e : Ev) : Prop := e.u.length ≤ 4294967296 ∧ e.o.length ≤ 4294967296 ∧ e.v.st.length ≤ 4294967296

theorem evgetD {l : List Ev} {i : Nat} (h : i < l.length) : l.getD i Ev.zero = l[i] := by
  rw [List.getD_eq_getElem?_getD, List.getElem?_eq_getElem h]; rfl

/-- Short texts. -/
def shortEv (e : Ev) : Bool := decide (e.u.length ≤ 40) && (decide (e.o.length ≤ 40) && decide (e.v.st.length ≤ 60))

theorem shortEv_get {e : Ev} (h : shortEv e = true) : e.u.length ≤ 40 ∧ e.o.length ≤ 40 ∧ e.v.st.length ≤ 60 := by
  unfold shortEv at h
  simpa only [Bool.and_eq_true, decide_eq_true_eq] using h

def evsShort (n : Nat) (l : List Ev) : Bool := decide (l.length ≤ n) && l.all shortEv

end Go.Proofs.YthfkfonfiejbmaaGreat

end

section

/-
  LAYER 14, PLAIN: a state, an event, what an event makes of a state.
-/
namespace Go.Proofs.YthfkfonfiejbmaaGreat

structure Sta where
  e : List Ent
  s : List Ses

def stMay (t : Sta) : Bool := roMayC t.e && seMay t.s

def stApply (t : Sta) (e : Ev) : Sta × Nat :=
  if (stMay t && (decide (1 ≤ e.k) && decide (e.k ≤ 8))) = true then
    if e.k ≤ 6 then (⟨(roDo t.e e.k e.u e.o).1, t.s⟩, (roDo t.e e.k e.u e.o).2)
    else if e.k = 7 then (⟨t.e, (sePut t.s ⟨e.u, e.id, e.v⟩).1⟩, (sePut t.s ⟨e.u, e.id, e.v⟩).2)
    else (⟨t.e, (seDrop t.s e.u e.id).1⟩, (seDrop t.s e.u e.id).2)
  else (t, 1)

theorem stApply_bad {t : Sta} {e : Ev} (h : stMay t = false ∨ e.k < 1 ∨ 8 < e.k) : stApply t e = (t, 1) := by
  unfold stApply
  rw [if_neg]
  rcases h with h | h | h
  · simp [h]
  · have : ¬ 1 ≤ e.k := by omega
    simp [this]
  · have : ¬ e.k ≤ 8 := by omega
    simp [this]

theorem stApply_do {t : Sta} {e : Ev} (h : stMay t = true) (h1 : 1 ≤ e.k) (h6 : e.k ≤ 6) {m : List Ent} {n : Nat} (hd : roDo t.e e.k e.u e.o = (m, n)) : stApply t e = (⟨m, t.s⟩, n) := by
  unfold stApply
  have : e.k ≤ 8 := by omega
  rw [if_pos (by simp [h, h1, this]), if_pos h6, hd]

theorem stApply_put {t : Sta} {e : Ev} (h : stMay t = true) (h7 : e.k = 7) {m : List Ses} {n : Nat} (hd : sePut t.s ⟨e.u, e.id, e.v⟩ = (m, n)) : stApply t e = (⟨t.e, m⟩, n) := by
  unfold stApply
  rw [if_pos (by simp [h, h7]), if_neg (by omega), if_pos h7, hd]

theorem stApply_drop {t : Sta} {e : Ev} (h : stMay t = true) (h8 : e.k = 8) {m : List Ses} {n : Nat} (hd : seDrop t.s e.u e.id = (m, n)) : stApply t e = (⟨t.e, m⟩, n) := by
  unfold stApply
  rw [if_pos (by simp [h, h8]), if_neg (by omega), if_neg (by omega), hd]

/-- All events, one behind the other. -/
def stAll (t : Sta) : List Ev → Sta × List Nat
  | [] => (t, [])
  | e :: l => ((stAll (stApply t e).1 l).1, (stApply t e).2 :: (stAll (stApply t e).1 l).2)

/-- Whom an event touches. -/
def stTouch (e : Ev) : List (List UInt8) :=
  if 1 ≤ e.k ∧ e.k ≤ 6 then mrg [e.o, e.u] else if e.k = 7 ∨ e.k = 8 then [e.u] else []

end Go.Proofs.YthfkfonfiejbmaaGreat

end

section

/-
  THE CONTRACTS OF varint.Put, Size, Text AND OF THE DOCUMENT'S ANSWERS TO THEM: each returns what the plain mathematics says, and writes nothing that was there.
-/
namespace Go.Proofs.YthfkfonfiejbmaaGreat
open Go.RowKit

theorem Tryz.info5 : (Tryz.prog.info? 5).map (fun i => (i.zero, i.size, i.bytes)) = some (some (.int .u8 0), 1, 1) := by kernel_rfl

set_option maxHeartbeats 400000 in
set_option maxRecDepth 100000 in
theorem put_any (n : Nat) (hn : n < 18446744073709551616) (w : World) :
    Calls Tryz.prog 80 #[.int .u64 n] w fun e w' => e = .returned (.string ⟨(vput n).toArray⟩) ∧ Below w.heap.size w w' := by
  obtain ⟨i0, hi, hz0, hz1, hz2⟩ := info_parts Tryz.info5
  go_enter Tryz.func80, Tryz.ntmps80
  go_wp2
  go_loopw [0, 3] (fun i v wr => ∃ (m : Nat) (xs : List UInt8), m < 18446744073709551616 ∧ xs ++ vput m = vput n ∧ i = .int .u64 m ∧ wr.ownsRow w.heap.size 5 1 v xs.length (bvals xs) ∧ Below w.heap.size w wr)
    (fun i _ _ => (intOf i).toNat)
  case atStart => exact ⟨n, [], hn, rfl, rfl, World.ownsRow_nil _ _ _ _, Below.refl _ _⟩
  case round =>
    obtain ⟨m, xs, hm, hx, rfl, hown, hnx⟩ := hrel
    have hlen : xs.length ≤ 10 := by
      have h1 := congrArg List.length hx
      have h2 := vput_len_le n
      simp at h1; omega
    have hsz := hnx.size
    by_cases hlt : m < 128
    · have hv := vput_lt hlt
      go_wp2_with (at_builtin; go_must (refine wpList_append_u8 _ m rfl (by omega) rfl _ _ 83 rfl w.heap.size 5 i0 Tryz.underlying83 hi hz0 hz1 hz2 _ xs rfl (by exact hown) rfl (by omega) hsz ?_))
      intro v' w1 hown' hb
      have hc := run_convert_owned (P := Tryz.prog) 83 5 9 Tryz.underlying83 Tryz.underlying5 Tryz.underlying9 hown'
      go_wp2
      go_ret
      exact ⟨by rw [← hx, hv]; rfl, hnx.trans hb⟩
    · have hv := vput_ge (by omega) hm
      go_wp2_with (at_builtin; go_must (refine wpList_append_u8 _ (m % 128 + 128) (or128 m) (by omega) rfl _ _ 83 rfl w.heap.size 5 i0 Tryz.underlying83 hi hz0 hz1 hz2 _ xs rfl (by exact hown) rfl (by omega) hsz ?_))
      intro v' w1 hown' hb
      go_wp2
      go_roundw
      case rel => exact ⟨m / 128, xs ++ [u8of (m % 128 + 128)], by omega, by rw [← hx, hv]; simp, by go_num, by simpa using hown', hnx.trans hb⟩
      case measure => simp [intOf]; omega

set_option maxHeartbeats 400000 in
set_option maxRecDepth 100000 in
theorem text_any (l : List UInt8) (hl : l.length ≤ 4294967296) (w : World) :
    Calls Tryz.prog 44 #[.string ⟨l.toArray⟩] w fun e w' => e = .returned (.string ⟨(vput l.length ++ l).toArray⟩) ∧ Below w.heap.size w w' := by
  go_enter Tryz.func44, Tryz.ntmps44
  have hlen := vput_len_le l.length
  go_wp2_with (go_at_call 80; go_must (refine (put_any l.length (by omega) _).mono ?_); rintro e w' ⟨rfl, hb⟩)
  go_ret
  exact ⟨rfl, hb⟩

end Go.Proofs.YthfkfonfiejbmaaGreat

end

section

/-
  THE CONTRACTS OF varint.Get, Take AND OF THE DOCUMENT'S ANSWERS TO THEM.
-/
namespace Go.Proofs.YthfkfonfiejbmaaGreat
open Go.RowKit

/-- Three results: number, place, error. -/
def triple (r : Nat × Nat × Nat) : Value := .tuple #[.int .u64 r.1, .int .i64 r.2.1, .int .i64 r.2.2]

/-- What holds at each jump back. -/
def GetJ (l : List UInt8) (q : Nat) (w : World) (a' : Act) (w' : World) : Prop := w' = w ∧ ∃ (i acc p sh : Nat) (u10 u11 u12 u13 u14 u15 u16 u17 u18 u19 u20 u21 u22 u23 u24 u25 u26 u27 u28 u29 u30 u31 u32 u33 u34 u35 u36 u37 u38 u39 u40 u41 u42 u43 u44 u45 u46 u47 u48 u49 u50 u51 u52 u53 u54 u55 u56 : Value), i ≤ 9 ∧ 1 ≤ i ∧ p ≤ l.length ∧ Hid (GetAt l q i acc p sh) ∧
      a' = { tmps := #[.string ⟨l.toArray⟩, .int .i64 q, undef, undef, .int .u64 0, .int .i64 0, .int .i64 0, .int .u64 acc, .int .u64 sh, .int .i64 p, u10, u11, u12, u13, u14, u15, u16, u17, u18, u19, u20, u21, u22, u23, u24, u25, u26, u27, u28, u29, u30, u31, u32, u33, u34, u35, u36, u37, u38, u39, u40, u41, u42, u43, u44, u45, u46, u47, u48, u49, u50, u51, u52, u53, u54, u55, u56], defers := [] }

def GetM (l : List UInt8) (a' : Act) (_ : World) : Nat := l.length - (intOf (a'.tmps.getD 9 undef)).toNat

set_option maxHeartbeats 400000 in
set_option maxRecDepth 1000000 in
theorem get_in (l : List UInt8) (hl : l.length ≤ 4294967296) (q : Nat) (hq : q ≤ l.length) (w : World) :
    Calls Tryz.prog 105 #[.string ⟨l.toArray⟩, .int .i64 q] w fun e w' => e = .returned (triple (vget l q)) ∧ w = w' := by
  go_enter Tryz.func105, Tryz.ntmps105
  go_wp2
  refine wp_scope_jumps 0 (GetJ l q w) (GetM l) rfl ?_ ?_
  · have Hall := Lib.hid (getAt_start l q)
    by_cases hend : q = l.length
    · have t1 : ((q : Int) == (l.length : Int)) = true := by rw [hend]; simp
      have HR := Lib.hid (getAt_end Hall.out hq hend)
      clear hend
      go_wp2
      go_step3
      go_wp2
      simp only [Exit.jump]
      go_ret3
      exact ⟨by rw [HR.out]; rfl, rfl⟩
    · have t1 : ((q : Int) == (l.length : Int)) = false := by simp; omega
      have hlt : q < l.length := by omega
      have hlt' : q < (⟨l.toArray⟩ : ByteArray).size := by show _ < l.toArray.size; simpa using hlt
      obtain ⟨b, hb⟩ : ∃ b : UInt8, (⟨l.toArray⟩ : ByteArray)[q]'hlt' = b := ⟨_, rfl⟩
      have HB : Hid (l[q]? = some b) := by rw [← hb]; exact bytes_at l q hlt'
      have h256 := b.toNat_lt
      have t5 := andNot128 b.toNat (by omega)
      have t6 := or0 (b.toNat % 128) (by omega)
      obtain ⟨x, hx⟩ : ∃ x, x = b.toNat % 128 := ⟨_, rfl⟩
      have hxl : x < 128 := by omega
      rw [← hx] at t5 t6
      have HX := Lib.hid hx
      clear hx hend
      by_cases h0 : b.toNat < 128
      · have t4 := and128_no (by omega) h0
        have HR := Lib.hid (getAt_last Hall.out hq HB.out (by omega) h0 (by omega))
        have Hf : Hid (0 + b.toNat % 128 * 128 ^ 0 = x) := by show _ = _; rw [← HX.out]; simp
        clear h0
        by_cases hz : b.toNat = 0
        · have t7 : ((b.toNat : Int) == 0) = true := by simp; omega
          clear hz
          go_wp2
          go_step3
          go_wp2
          simp only [Exit.jump]
          go_ret3
          exact ⟨by rw [HR.out, Hf.out]; rfl, rfl⟩
        · have t7 : ((b.toNat : Int) == 0) = false := by simp; omega
          clear hz
          go_wp2
          go_step3
          go_wp2
          simp only [Exit.jump]
          go_ret3
          exact ⟨by rw [HR.out, Hf.out]; rfl, rfl⟩
      · have t4 := and128_yes (by omega) h0
        have HN := Lib.hid (getAt_next Hall.out HB.out (by omega) h0)
        have Hf : Hid (0 + b.toNat % 128 * 128 ^ 0 = x) := by show _ = _; rw [← HX.out]; simp
        clear h0
        go_wp2
        go_step3
        go_wp2
        go_step3
        exact ⟨rfl, rfl, 1, x, q + 1, 7, _, _, _, _, _, _, _, _, _, _, _, _, _, _, _, _, _, _, _, _, _, _, _, _, _, _, _, _, _, _, _, _, _, _, _, _, _, _, _, _, _, _, _, _, _, _, _, by omega, by omega, by omega, by rw [← Hf.out]; exact HN.out, rfl⟩
  · rintro a' w' ⟨rfl, i, acc, p, sh, u10, u11, u12, u13, u14, u15, u16, u17, u18, u19, u20, u21, u22, u23, u24, u25, u26, u27, u28, u29, u30, u31, u32, u33, u34, u35, u36, u37, u38, u39, u40, u41, u42, u43, u44, u45, u46, u47, u48, u49, u50, u51, u52, u53, u54, u55, u56, hi9, hi1, hpl, Hall, rfl⟩
    by_cases hend : p = l.length
    · have t1 : ((p : Int) == (l.length : Int)) = true := by rw [hend]; simp
      have R := getAt_end Hall.out hq hend
      have HR := Lib.hid R
      clear hend R
      go_wp2
      simp only [Exit.jump]
      go_ret3
      exact ⟨by rw [HR.out]; rfl, rfl⟩
    · have t1 : ((p : Int) == (l.length : Int)) = false := by simp; omega
      have hlt : p < l.length := by omega
      have hlt' : p < (⟨l.toArray⟩ : ByteArray).size := by show _ < l.toArray.size; simpa using hlt
      obtain ⟨b, hb⟩ : ∃ b : UInt8, (⟨l.toArray⟩ : ByteArray)[p]'hlt' = b := ⟨_, rfl⟩
      have HB : Hid (l[p]? = some b) := by rw [← hb]; exact bytes_at l p hlt'
      have h256 := b.toNat_lt
      clear hend
      by_cases h91 : i = 9 ∧ 1 < b.toNat
      · have t2 : ((sh : Int) == 63) = true := by have := Hall.out.2.2.1; simp; omega
        have t3 : (1 : Int) < b.toNat := by omega
        have HR := Lib.hid (getAt_form Hall.out hq HB.out (.inl h91))
        clear h91
        go_wp2
        simp only [Exit.jump]
        go_ret3
        exact ⟨by rw [HR.out]; rfl, rfl⟩
      · have H91 := Lib.hid h91
        clear h91
        have t5 := andNot128 b.toNat (by omega)
        have t6 := orShift' acc (b.toNat % 128) i sh Hall.out.2.2.1 Hall.out.1 (by omega) hi9 (fun h => by have := H91.out; omega)
        have hs := sum_lt acc (b.toNat % 128) i Hall.out.1 (by omega) hi9 (fun h => by have := H91.out; omega)
        obtain ⟨acc', Hacc'⟩ : ∃ acc', Hid (acc' = acc + b.toNat % 128 * 128 ^ i) := ⟨_, rfl⟩
        rw [← Hacc'.out] at t6 hs
        obtain ⟨x, hx⟩ : ∃ x, x = b.toNat % 128 := ⟨_, rfl⟩
        rw [← hx] at t5 t6
        have HX := Lib.hid hx
        clear hx
        have hsh : sh ≤ 63 := by have := Hall.out.2.2.1; omega
        by_cases h0 : b.toNat < 128
        · have t4 := and128_no (by omega) h0
          by_cases hz : b.toNat = 0
          · have t7 : ((b.toNat : Int) == 0) = true := by simp; omega
            have t8 : ((p : Int) + 1 != (q : Int) + 1) = true := by have := Hall.out.2.1; simp; omega
            have HR := Lib.hid (getAt_form Hall.out hq HB.out (.inr ⟨h0, hz, by omega⟩))
            clear hz h0
            by_cases h9 : i = 9
            · have t2 : ((sh : Int) == 63) = true := by have := Hall.out.2.2.1; simp; omega
              have t3 : ¬ (1 : Int) < b.toNat := by have := H91.out; omega
              clear h9
              go_wp2
              simp only [Exit.jump]
              go_ret3
              exact ⟨by rw [HR.out]; rfl, rfl⟩
            · have t2 : ((sh : Int) == 63) = false := by have := Hall.out.2.2.1; simp; omega
              clear h9
              go_wp2
              simp only [Exit.jump]
              go_ret3
              exact ⟨by rw [HR.out]; rfl, rfl⟩
          · have t7 : ((b.toNat : Int) == 0) = false := by simp; omega
            have HR := Lib.hid (getAt_last Hall.out hq HB.out H91.out h0 (by omega))
            clear hz h0
            by_cases h9 : i = 9
            · have t2 : ((sh : Int) == 63) = true := by have := Hall.out.2.2.1; simp; omega
              have t3 : ¬ (1 : Int) < b.toNat := by have := H91.out; omega
              clear h9
              go_wp2
              simp only [Exit.jump]
              go_ret3
              exact ⟨by rw [HR.out, ← Hacc'.out]; rfl, rfl⟩
            · have t2 : ((sh : Int) == 63) = false := by have := Hall.out.2.2.1; simp; omega
              clear h9
              go_wp2
              simp only [Exit.jump]
              go_ret3
              exact ⟨by rw [HR.out, ← Hacc'.out]; rfl, rfl⟩
        · have t4 := and128_yes (by omega) h0
          have hi8 : i ≤ 8 := by have := H91.out; omega
          have t2 : ((sh : Int) == 63) = false := by have := Hall.out.2.2.1; simp; omega
          have HN := Lib.hid (getAt_next Hall.out HB.out H91.out h0)
          clear h0
          go_wp2
          go_step3
          refine ⟨rfl, ⟨rfl, i + 1, acc', p + 1, sh + 7, _, _, _, _, _, _, _, _, _, _, _, _, _, _, _, _, _, _, _, _, _, _, _, _, _, _, _, _, _, _, _, _, _, _, _, _, _, _, _, _, _, _, _, _, _, _, _, by omega, by omega, by omega, by rw [Hacc'.out]; exact HN.out, rfl⟩, ?_⟩
          simp [GetM, intOf]
          omega

theorem vget_out {l : List UInt8} {p : Int} (h : p < 0 ∨ (l.length : Int) < p) : vget l p = (0, 0, 1) := by
  unfold vget
  rw [if_pos h]

set_option maxHeartbeats 400000 in
set_option maxRecDepth 1000000 in
theorem get_any (l : List UInt8) (hl : l.length ≤ 4294967296) (p : Int) (w : World) :
    Calls Tryz.prog 105 #[.string ⟨l.toArray⟩, .int .i64 p] w fun e w' => e = .returned (triple (vget l p)) ∧ w = w' := by
  by_cases h : p < 0 ∨ (l.length : Int) < p
  · rw [vget_out h]
    by_cases h1 : p < 0
    · clear h
      go_enter Tryz.func105, Tryz.ntmps105
      go_wp2
      go_step3
      go_wp2
      rw [Exit.noGoto_ret]
      go_ret3
      exact ⟨rfl, rfl⟩
    · have h2 : (l.length : Int) < p := by omega
      clear h
      go_enter Tryz.func105, Tryz.ntmps105
      go_wp2
      go_step3
      go_wp2
      rw [Exit.noGoto_ret]
      go_ret3
      exact ⟨rfl, rfl⟩
  · obtain ⟨q, rfl⟩ := Int.eq_ofNat_of_zero_le (show 0 ≤ p by omega)
    exact get_in l hl q (by omega) w

end Go.Proofs.YthfkfonfiejbmaaGreat

end

section

/-
  THE CONTRACT OF THE DOCUMENT'S ANSWER TO varint.Get.
-/
namespace Go.Proofs.YthfkfonfiejbmaaGreat
open Go.RowKit

end Go.Proofs.YthfkfonfiejbmaaGreat

end

section

/-
  THE CONTRACTS OF varint.Take AND OF THE DOCUMENT'S ANSWER TO IT.
-/
namespace Go.Proofs.YthfkfonfiejbmaaGreat
open Go.RowKit

/-- Three results: text, place, error. -/
def tripleS (r : List UInt8 × Nat × Nat) : Value := .tuple #[.string ⟨r.1.toArray⟩, .int .i64 r.2.1, .int .i64 r.2.2]

theorem get_eq (l : List UInt8) (hl : l.length ≤ 4294967296) (p : Int) (w : World) {n f er : Nat} (h : Hid (vget l p = (n, f, er))) :
    Calls Tryz.prog 105 #[.string ⟨l.toArray⟩, .int .i64 p] w fun e w' => e = .returned (.tuple #[.int .u64 n, .int .i64 f, .int .i64 er]) ∧ w = w' := by
  have := get_any l hl p w
  rwa [h.out] at this

set_option maxHeartbeats 400000 in
set_option maxRecDepth 1000000 in
theorem take_any (l : List UInt8) (hl : l.length ≤ 4294967296) (p most : Int) (hm : most ≤ 9223372036854775807) (w : World) :
    Calls Tryz.prog 81 #[.string ⟨l.toArray⟩, .int .i64 p, .int .i64 most] w fun e w' => e = .returned (tripleS (vtake l p most)) ∧ w = w' := by
  obtain ⟨n, f, er, hg⟩ : ∃ n f er, vget l p = (n, f, er) := ⟨_, _, _, rfl⟩
  obtain ⟨hn, hf, _⟩ := vget_facts hg
  have HG := Lib.hid hg
  by_cases he : er = 0
  · subst he
    by_cases h1 : most < 0
    · have HR : Hid (vtake l p most = ([], 0, 3)) := by show _ = _; unfold vtake; rw [hg]; simp [h1]
      clear hg
      go_enter Tryz.func81, Tryz.ntmps81
      go_wp2_with (go_at_call 105; go_must (refine (get_eq l hl p _ HG).mono ?_); rintro e w' ⟨rfl, rfl⟩)
      go_ret3
      exact ⟨by rw [HR.out]; rfl, rfl⟩
    · have h1' : 0 ≤ most := by omega
      by_cases h2 : most < (n : Int)
      · have HR : Hid (vtake l p most = ([], 0, 3)) := by show _ = _; unfold vtake; rw [hg]; simp [h2]
        clear hg h1
        go_enter Tryz.func81, Tryz.ntmps81
        go_wp2_with (go_at_call 105; go_must (refine (get_eq l hl p _ HG).mono ?_); rintro e w' ⟨rfl, rfl⟩)
        go_ret3
        exact ⟨by rw [HR.out]; rfl, rfl⟩
      · by_cases h3 : l.length - f < n
        · have HR : Hid (vtake l p most = ([], 0, 2)) := by show _ = _; unfold vtake; rw [hg]; simp [h1, h2, h3]
          have h3' : (l.length : Int) - f < n := by omega
          clear hg h1 h3
          go_enter Tryz.func81, Tryz.ntmps81
          go_wp2_with (go_at_call 105; go_must (refine (get_eq l hl p _ HG).mono ?_); rintro e w' ⟨rfl, rfl⟩)
          go_ret3
          exact ⟨by rw [HR.out]; rfl, rfl⟩
        · have HR : Hid (vtake l p most = ((l.drop f).take n, f + n, 0)) := by show _ = _; unfold vtake; rw [hg]; simp [h1, h2, h3]
          have h3' : ¬ (l.length : Int) - f < n := by omega
          have hsl := fun w => run_slice_bytes (P := Tryz.prog) w 9 l f (f + n) f (f + n) rfl (by omega) Tryz.underlying9 (by omega) (by omega)
          rw [show f + n - f = n by omega] at hsl
          clear hg h1 h3
          go_enter Tryz.func81, Tryz.ntmps81
          go_wp2_with (go_at_call 105; go_must (refine (get_eq l hl p _ HG).mono ?_); rintro e w' ⟨rfl, rfl⟩)
          go_ret3
          exact ⟨by rw [HR.out]; rfl, rfl⟩
  · have HR : Hid (vtake l p most = ([], 0, er)) := by show _ = _; unfold vtake; rw [hg]; simp [he]
    have t1 : ((er : Int) != 0) = true := by simp; omega
    clear hg he
    go_enter Tryz.func81, Tryz.ntmps81
    go_wp2_with (go_at_call 105; go_must (refine (get_eq l hl p _ HG).mono ?_); rintro e w' ⟨rfl, rfl⟩)
    go_ret3
    exact ⟨by rw [HR.out]; rfl, rfl⟩

theorem take_eq (l : List UInt8) (hl : l.length ≤ 4294967296) (p most : Int) (hm : most ≤ 9223372036854775807) (w : World) {t : List UInt8} {f er : Nat} (h : Hid (vtake l p most = (t, f, er))) :
    Calls Tryz.prog 81 #[.string ⟨l.toArray⟩, .int .i64 p, .int .i64 most] w fun e w' => e = .returned (.tuple #[.string ⟨t.toArray⟩, .int .i64 f, .int .i64 er]) ∧ w = w' := by
  have := take_any l hl p most hm w
  rwa [h.out] at this

end Go.Proofs.YthfkfonfiejbmaaGreat

end

section

/-
  CONTRACTS OF GO'S OWN LIBRARY AT THIS PROGRAM, LAID WITHOUT A WALK: the tables of numbers and one application each (strings.Builder, strings.Compare, cmp.Compare, slices.Compact, slices.SortFunc).
-/
namespace Go.Proofs.YthfkfonfiejbmaaGreat
open Go.Shelf Go.RowKit

def Tryz.lays169_ren : Go.Shelf.Ren := ⟨fun | 169 => 45 | n => n, fun | 70 => 84 | 9 => 9 | 0 => 0 | 72 => 86 | 37 => 83 | 127 => 126 | 3 => 3 | 5 => 5 | n => n, fun | n => n⟩

theorem Tryz.lays169 : Go.Proofs.Lays.n169 Tryz.prog Tryz.lays169_ren := {
  mixed := by kernel_rfl
  f169 := Tryz.func45.trans (congrArg some (by kernel_rfl))
  t0 := Tryz.underlying0
  a0 := Tryz.isAgg0
  z0 := Tryz.sizeOf0
  v0 := Tryz.zeroValue0
  t3 := Tryz.underlying3
  a3 := Tryz.isAgg3
  z3 := Tryz.sizeOf3
  v3 := Tryz.zeroValue3
  t9 := Tryz.underlying9
  a9 := Tryz.isAgg9
  z9 := Tryz.sizeOf9
  v9 := Tryz.zeroValue9
  t37 := Tryz.underlying83
  a37 := Tryz.isAgg83
  z37 := Tryz.sizeOf83
  v37 := Tryz.zeroValue83
  t70 := Tryz.underlying84
  a70 := Tryz.isAgg84
  z70 := Tryz.sizeOf84
  v70 := Tryz.zeroValue84
  t72 := Tryz.underlying86
  a72 := Tryz.isAgg86
  z72 := Tryz.sizeOf86
  v72 := Tryz.zeroValue86
  t127 := Tryz.underlying126
  a127 := Tryz.isAgg126
  z127 := Tryz.sizeOf126
  v127 := Tryz.zeroValue126 }

theorem Tryz.Builder_Extra_169 : Builder.Extra Tryz.prog Tryz.lays169_ren := {
  sizeBuilder := by kernel_rfl
  liesBuilder := by kernel_rfl
  t5 := Tryz.underlying5
  a5 := Tryz.isAgg5
  z5 := Tryz.sizeOf5
  v5 := Tryz.zeroValue5
  infoByte := by kernel_rfl
  cellsByte := by kernel_rfl
  sizeByte := by kernel_rfl
  neB5 := by decide }

def Tryz.lays106_ren : Go.Shelf.Ren := ⟨fun | 106 => 128 | 213 => 131 | 265 => 132 | n => n, fun | 9 => 9 | 3 => 3 | n => n, fun | n => n⟩

theorem Tryz.lays106 : Go.Proofs.Lays.n106 Tryz.prog Tryz.lays106_ren := {
  mixed := by kernel_rfl
  f106 := Tryz.func128.trans (congrArg some (by kernel_rfl))
  f213 := Tryz.func131.trans (congrArg some (by kernel_rfl))
  f265 := Tryz.func132.trans (congrArg some (by kernel_rfl))
  t3 := Tryz.underlying3
  a3 := Tryz.isAgg3
  z3 := Tryz.sizeOf3
  v3 := Tryz.zeroValue3
  t9 := Tryz.underlying9
  a9 := Tryz.isAgg9
  z9 := Tryz.sizeOf9
  v9 := Tryz.zeroValue9 }

open Go.RowKit in
theorem Tryz.strings_Compare (a b : ByteArray) (w : World) :
    Calls Tryz.prog 128 #[.string a, .string b] w fun e w' => e = .returned (.int .i64 (Lib.compareBytes a.data.toList b.data.toList)) ∧ w' = w := Any.strings_Compare Tryz.lays106 a b w

def Tryz.lays122_ren : Go.Shelf.Ren := ⟨fun | 122 => 127 | 215 => 130 | n => n, fun | 3 => 3 | 4 => 4 | n => n, fun | n => n⟩

theorem Tryz.lays122 : Go.Proofs.Lays.n122 Tryz.prog Tryz.lays122_ren := {
  mixed := by kernel_rfl
  f122 := Tryz.func127.trans (congrArg some (by kernel_rfl))
  f215 := Tryz.func130.trans (congrArg some (by kernel_rfl))
  t3 := Tryz.underlying3
  a3 := Tryz.isAgg3
  z3 := Tryz.sizeOf3
  v3 := Tryz.zeroValue3
  t4 := Tryz.underlying4
  a4 := Tryz.isAgg4
  z4 := Tryz.sizeOf4
  v4 := Tryz.zeroValue4 }

open Go.RowKit in
theorem Tryz.cmp_Compare_int (x y : Int) (w : World) :
    Calls Tryz.prog 127 #[.int .i64 x, .int .i64 y] w fun e w' => e = .returned (.int .i64 (Lib.compareInt x y)) ∧ w' = w := Any.cmp_Compare_int Tryz.lays122 x y w

open Go.RowKit in
theorem Tryz.Builder_String_any_k (B b : Nat) (l : List UInt8) (w : World) (h : Lib.IsBuilderF 86 5 B b (Lib.byteCells l) w) (hBw : B ≤ w.heap.size) :
    Calls Tryz.prog 45 #[.pointer (some ⟨b, 0, none⟩)] w fun e w' => e = .returned (.string ⟨l.toArray⟩) ∧ (Lib.IsBuilderF 86 5 B b (Lib.byteCells l) w' ∧ Below B w w' ∧ Lib.OthersKept 5 (some b) w w') := Any.Builder_String_any_k Tryz.lays169 Tryz.Builder_Extra_169 B b l w h hBw

def Tryz.lays168_ren : Go.Shelf.Ren := ⟨fun | 168 => 52 | 240 => 79 | 242 => 85 | 276 => 104 | 278 => 107 | n => n, fun | 0 => 0 | 3 => 3 | 4 => 4 | 5 => 5 | 9 => 9 | 20 => 20 | 21 => 21 | 37 => 83 | 46 => 82 | 51 => 80 | 70 => 84 | 72 => 86 | 75 => 88 | 80 => 91 | 164 => 152 | n => n, fun | n => n⟩
theorem Tryz.lays168 : Go.Proofs.Lays.n168 Tryz.prog Tryz.lays168_ren := {
  mixed := by kernel_rfl
  f168 := Tryz.func52.trans (congrArg some (by kernel_rfl))
  f240 := Tryz.func79.trans (congrArg some (by kernel_rfl))
  f242 := Tryz.func85.trans (congrArg some (by kernel_rfl))
  f276 := Tryz.func104.trans (congrArg some (by kernel_rfl))
  f278 := Tryz.func107.trans (congrArg some (by kernel_rfl))
  t0 := Tryz.underlying0
  a0 := Tryz.isAgg0
  z0 := Tryz.sizeOf0
  v0 := Tryz.zeroValue0
  t3 := Tryz.underlying3
  a3 := Tryz.isAgg3
  z3 := Tryz.sizeOf3
  v3 := Tryz.zeroValue3
  t4 := Tryz.underlying4
  a4 := Tryz.isAgg4
  z4 := Tryz.sizeOf4
  v4 := Tryz.zeroValue4
  t5 := Tryz.underlying5
  a5 := Tryz.isAgg5
  z5 := Tryz.sizeOf5
  v5 := Tryz.zeroValue5
  t9 := Tryz.underlying9
  a9 := Tryz.isAgg9
  z9 := Tryz.sizeOf9
  v9 := Tryz.zeroValue9
  t20 := Tryz.underlying20
  a20 := Tryz.isAgg20
  z20 := Tryz.sizeOf20
  v20 := Tryz.zeroValue20
  t21 := Tryz.underlying21
  a21 := Tryz.isAgg21
  z21 := Tryz.sizeOf21
  v21 := Tryz.zeroValue21
  t37 := Tryz.underlying83
  a37 := Tryz.isAgg83
  z37 := Tryz.sizeOf83
  v37 := Tryz.zeroValue83
  t46 := Tryz.underlying82
  a46 := Tryz.isAgg82
  z46 := Tryz.sizeOf82
  v46 := Tryz.zeroValue82
  t51 := Tryz.underlying80
  a51 := Tryz.isAgg80
  z51 := Tryz.sizeOf80
  v51 := Tryz.zeroValue80
  t70 := Tryz.underlying84
  a70 := Tryz.isAgg84
  z70 := Tryz.sizeOf84
  v70 := Tryz.zeroValue84
  t72 := Tryz.underlying86
  a72 := Tryz.isAgg86
  z72 := Tryz.sizeOf86
  v72 := Tryz.zeroValue86
  t75 := Tryz.underlying88
  a75 := Tryz.isAgg88
  z75 := Tryz.sizeOf88
  v75 := Tryz.zeroValue88
  t164 := Tryz.underlying152
  a164 := Tryz.isAgg152
  z164 := Tryz.sizeOf152
  v164 := Tryz.zeroValue152 }
theorem Tryz.Builder_Extra_168 : Builder.Extra Tryz.prog Tryz.lays168_ren := {
  sizeBuilder := by kernel_rfl
  liesBuilder := by kernel_rfl
  t5 := Tryz.underlying5
  a5 := Tryz.isAgg5
  z5 := Tryz.sizeOf5
  v5 := Tryz.zeroValue5
  infoByte := by kernel_rfl
  cellsByte := by kernel_rfl
  sizeByte := by kernel_rfl
  neB5 := by decide }
open Go.RowKit in
theorem Tryz.Builder_WriteRune_k (B b : Nat) (bs : List Value) (r : Int) (hr0 : -2147483648 ≤ r) (hr1 : r ≤ 2147483647) (w : World) (h : Lib.IsBuilderF 86 5 B b bs w) (hlen : bs.length + 4 ≤ 140737488355328) (hBw : B ≤ w.heap.size) :
    Calls Tryz.prog 52 #[.pointer (some ⟨b, 0, none⟩), .int .i32 r] w fun e w' => e = .returned (.tuple #[.int .i64 (Lib.runeCells r).length, .nilIface]) ∧ (Lib.BuilderAtF 86 5 B b (.pointer (some ⟨b, 0, none⟩)) (bs ++ Lib.runeCells r) w' ∧ Below B w w' ∧ Lib.OthersKept 5 (some b) w w') := Any.Builder_WriteRune_k Tryz.lays168 Tryz.Builder_Extra_168 B b bs r hr0 hr1 w h hlen hBw

end Go.Proofs.YthfkfonfiejbmaaGreat

end

section

/-
  THE CONTRACTS OF ident.compare, Less AND OF THE DOCUMENT'S ANSWER TO Less.
-/
namespace Go.Proofs.YthfkfonfiejbmaaGreat
open Go.RowKit Go.Lib

theorem icmp (x y : Int) (w : World) : Calls Tryz.prog 127 #[.int .i64 x, .int .i64 y] w fun e w' => e = .returned (.int .i64 (compareInt x y)) ∧ w = w' :=
  (Tryz.cmp_Compare_int x y w).mono fun _ _ ⟨he, hw⟩ => ⟨he, hw.symm⟩

theorem scmp (a b : List UInt8) (w : World) : Calls Tryz.prog 128 #[.string ⟨a.toArray⟩, .string ⟨b.toArray⟩] w fun e w' => e = .returned (.int .i64 (compareBytes a b)) ∧ w = w' :=
  (Tryz.strings_Compare ⟨a.toArray⟩ ⟨b.toArray⟩ w).mono fun _ _ ⟨he, hw⟩ => ⟨by simpa using he, hw.symm⟩

/-- The first that is not nought. -/
def orI (x y : Int) : Int := if x = 0 then y else x

set_option maxHeartbeats 400000 in
set_option maxRecDepth 100000 in
theorem or_any (B : Nat) (x y : Int) (w : World) (k0 : w.cell? ⟨B, 0, none⟩ = some (.int .i64 x)) (k1 : w.cell? ⟨B, 1, none⟩ = some (.int .i64 y)) :
    Calls Tryz.prog 126 #[.slice (some ⟨B, 0, none⟩) 2 2] w fun e w' => e = .returned (.int .i64 (orI x y)) ∧ w = w' := by
  by_cases hx : x = 0
  · subst hx
    by_cases hy : y = 0
    · subst hy
      go_enter Tryz.func126, Tryz.ntmps126
      go_wp2_with fail
      refine wp_loop_rounds 3 ?_
      rw [rounds_succ]
      go_wp2_with fail
      rw [rounds_succ]
      go_wp2_with fail
      rw [rounds_succ]
      go_wp2_with fail
      go_ret
      exact ⟨rfl, rfl⟩
    · have t1 : (y != 0) = true := by simp [hy]
      clear hy
      go_enter Tryz.func126, Tryz.ntmps126
      go_wp2_with fail
      refine wp_loop_rounds 3 ?_
      rw [rounds_succ]
      go_wp2_with fail
      rw [rounds_succ]
      go_wp2_with fail
      go_ret
      exact ⟨rfl, rfl⟩
  · have t1 : (x != 0) = true := by simp [hx]
    have HX : Hid (orI x y = x) := if_neg hx
    clear hx
    go_enter Tryz.func126, Tryz.ntmps126
    go_wp2_with fail
    refine wp_loop_rounds 3 ?_
    rw [rounds_succ]
    go_wp2_with fail
    go_ret
    exact ⟨by rw [HX.out]; rfl, rfl⟩

theorem idCmp_or (a b : List UInt8) : idCmp a b = orI (compareInt a.length b.length) (compareBytes a b) := by
  unfold idCmp compareInt orI
  by_cases h1 : a.length < b.length
  · have : (a.length : Int) < b.length := by omega
    simp [h1, this]
  · by_cases h2 : b.length < a.length
    · have h1' : ¬ (a.length : Int) < b.length := by omega
      have h2' : (b.length : Int) < a.length := by omega
      simp [h1, h2, h1', h2']
    · have h1' : ¬ (a.length : Int) < b.length := by omega
      have h2' : ¬ (b.length : Int) < a.length := by omega
      simp [h1, h2, h1', h2']

set_option maxHeartbeats 400000 in
set_option maxRecDepth 100000 in
theorem compare_any (a b : List UInt8) (w : World) :
    Calls Tryz.prog 122 #[.string ⟨a.toArray⟩, .string ⟨b.toArray⟩] w fun e w' => e = .returned (.int .i64 (idCmp a b)) ∧ ∃ o, w' = w.alloc o := by
  have HI := Lib.hid (idCmp_or a b)
  have H1 := Lib.hid (icmp a.length b.length)
  have H2 := Lib.hid (scmp a b)
  obtain ⟨x, hx⟩ : ∃ x, compareInt a.length b.length = x := ⟨_, rfl⟩
  obtain ⟨y, hy⟩ : ∃ y, compareBytes a b = y := ⟨_, rfl⟩
  rw [hx] at H1 HI
  rw [hy] at H2 HI
  clear hx hy
  go_enter Tryz.func122, Tryz.ntmps122
  go_wp2_with fail
  refine (H1.out _).mono ?_
  rintro e w' ⟨rfl, rfl⟩
  go_wp2_with fail
  refine (H2.out _).mono ?_
  rintro e w' ⟨rfl, rfl⟩
  go_wp2_with fail
  refine (or_any _ x y _ (by simp) (by simp)).mono ?_
  rintro e w' ⟨rfl, rfl⟩
  go_wp2_with fail
  go_ret
  exact ⟨by rw [HI.out]; rfl, _, rfl⟩

theorem compare_eq (a b : List UInt8) {n : Int} (h : Hid (idCmp a b = n)) (w : World) :
    Calls Tryz.prog 122 #[.string ⟨a.toArray⟩, .string ⟨b.toArray⟩] w fun e w' => e = .returned (.int .i64 n) ∧ Below w.heap.size w w' := by
  have h1 := h.out
  subst h1
  exact (compare_any a b w).mono fun _ _ ⟨he, o, hw⟩ => ⟨he, by rw [hw]; exact (Below.refl _ _).alloc (Nat.le_refl _) _⟩

set_option maxHeartbeats 400000 in
set_option maxRecDepth 100000 in
theorem less_eq (a b : List UInt8) {r : Bool} (h : Hid (idLess a b = r)) (w : World) :
    Calls Tryz.prog 110 #[.string ⟨a.toArray⟩, .string ⟨b.toArray⟩] w fun e w' => e = .returned (.bool r) ∧ Below w.heap.size w w' := by
  obtain ⟨n, hn⟩ : ∃ n, Hid (idCmp a b = n) := ⟨_, rfl⟩
  have hr : Hid (decide (n < 0) = r) := by show _ = _; rw [← hn.out]; exact h.out
  go_enter Tryz.func110, Tryz.ntmps110
  go_wp2_with fail
  refine (compare_eq a b hn _).mono ?_
  rintro e w1 ⟨rfl, hb1⟩
  have B1 := Lib.hid hb1
  clear hb1
  go_wp2_with fail
  go_ret
  exact ⟨by rw [← hr.out]; rfl, B1.out⟩

set_option maxHeartbeats 400000 in
set_option maxRecDepth 100000 in
theorem rless_eq (a b : List UInt8) {r : Bool} (h : Hid (idLess a b = r)) (w : World) :
    Calls Tryz.prog 76 #[.string ⟨a.toArray⟩, .string ⟨b.toArray⟩] w fun e w' => e = .returned (.bool r) ∧ w = w' := by
  have hd := idLess_doc a b
  rw [h.out] at hd
  have HD := Lib.hid hd
  clear hd h
  by_cases h1 : a.length < b.length
  · have hr : Hid (r = true) := by show _ = _; rw [HD.out]; simp [h1]
    clear HD
    go_enter Tryz.func76, Tryz.ntmps76
    go_wp2_with fail
    go_ret
    exact ⟨by rw [hr.out]; rfl, rfl⟩
  · by_cases h2 : a.length = b.length
    · have hr : Hid (r = Op.bytesLess a b) := by show _ = _; rw [HD.out]; simp [h2]
      have t1 : ((a.length : Int) == (b.length : Int)) = true := by rw [h2]; simp
      have t2 : decide (a.length < b.length) = false := by simp; omega
      clear HD h1 h2
      go_enter Tryz.func76, Tryz.ntmps76
      go_wp2_with fail
      go_ret
      exact ⟨by rw [hr.out]; rfl, rfl⟩
    · have hr : Hid (r = false) := by show _ = _; rw [HD.out]; simp [h1, h2]
      have t1 : ((a.length : Int) == (b.length : Int)) = false := by simp; omega
      have t2 : decide (a.length < b.length) = false := by simp; omega
      clear HD h1 h2
      go_enter Tryz.func76, Tryz.ntmps76
      go_wp2_with fail
      go_ret
      exact ⟨by rw [hr.out]; rfl, rfl⟩

end Go.Proofs.YthfkfonfiejbmaaGreat

end

section

/-
  THE CONTRACTS OF ident.Is (with isLetter, isInner), Put, Take AND OF THE DOCUMENT'S ANSWERS TO THEM.
-/
namespace Go.Proofs.YthfkfonfiejbmaaGreat
open Go.RowKit

def runeLc (r : Int) : Bool := decide (97 ≤ r) && decide (r ≤ 122)
def runeIn (r : Int) : Bool := (decide (48 ≤ r) && decide (r ≤ 57)) || decide (r = 45)

set_option maxHeartbeats 400000 in
set_option maxRecDepth 100000 in
theorem letter_eq (r : Int) {b : Bool} (h : Hid (runeLc r = b)) (w : World) :
    Calls Tryz.prog 82 #[.int .i32 r] w fun e w' => e = .returned (.bool b) ∧ w = w' := by
  have h' := h.out
  unfold runeLc at h'
  clear h
  by_cases h1 : 97 ≤ r
  · by_cases h2 : r ≤ 122
    · obtain rfl : b = true := by rw [← h']; simp [h1, h2]
      clear h'
      go_enter Tryz.func82, Tryz.ntmps82
      go_wp2_with fail
      go_ret
      exact ⟨by first | rfl | simp_all, rfl⟩
    · obtain rfl : b = false := by rw [← h']; simp [h2]
      have h3 : 122 < r := by omega
      clear h' h2
      go_enter Tryz.func82, Tryz.ntmps82
      go_wp2_with fail
      go_ret
      exact ⟨by first | rfl | simp_all, rfl⟩
  · obtain rfl : b = false := by rw [← h']; simp [h1]
    have h3 : r < 97 := by omega
    clear h' h1
    go_enter Tryz.func82, Tryz.ntmps82
    go_wp2_with fail
    go_ret
    exact ⟨by first | rfl | simp_all, rfl⟩

set_option maxHeartbeats 400000 in
set_option maxRecDepth 100000 in
theorem inner_eq (r : Int) {b : Bool} (h : Hid (runeIn r = b)) (w : World) :
    Calls Tryz.prog 83 #[.int .i32 r] w fun e w' => e = .returned (.bool b) ∧ w = w' := by
  have h' := h.out
  unfold runeIn at h'
  clear h
  by_cases h0 : r = 45
  · subst h0
    obtain rfl : b = true := by rw [← h']; decide
    clear h'
    go_enter Tryz.func83, Tryz.ntmps83
    go_wp2_with fail
    go_ret
    exact ⟨rfl, rfl⟩
  · have t0 : (r == 45) = false := by simpa using h0
    by_cases h1 : 48 ≤ r
    · by_cases h2 : r ≤ 57
      · obtain rfl : b = true := by rw [← h']; simp [h1, h2]
        clear h' h0
        go_enter Tryz.func83, Tryz.ntmps83
        go_wp2_with fail
        go_ret
        exact ⟨rfl, rfl⟩
      · obtain rfl : b = false := by rw [← h']; simp [h2, h0]
        have h3 : decide (r ≤ 57) = false := by simp; omega
        clear h' h2 h0
        go_enter Tryz.func83, Tryz.ntmps83
        go_wp2_with fail
        go_ret
        exact ⟨rfl, rfl⟩
    · obtain rfl : b = false := by rw [← h']; simp [h1, h0]
      have h3 : r < 48 := by omega
      clear h' h1 h0
      go_enter Tryz.func83, Tryz.ntmps83
      go_wp2_with fail
      go_ret
      exact ⟨rfl, rfl⟩

theorem runeLc_byte (b : UInt8) : runeLc (b.toNat : Int) = lcOk b := by
  unfold runeLc lcOk
  rw [Bool.eq_iff_iff]
  simp
  omega

theorem runeIn_byte (b : UInt8) : runeIn (b.toNat : Int) = dgOk b := by
  unfold runeIn dgOk
  rw [Bool.eq_iff_iff]
  simp
  omega

theorem rune_high {r : Nat} (h : 128 ≤ r) : runeLc (r : Int) = false ∧ runeIn (r : Int) = false := by
  unfold runeLc runeIn
  constructor
  · rw [Bool.eq_false_iff]; simp; omega
  · rw [Bool.eq_false_iff]; simp; omega

theorem all_succ {l : List UInt8} {k : Nat} {b : UInt8} (hb : l[k]? = some b) (p : UInt8 → Bool) : (l.take (k + 1)).all p = ((l.take k).all p && p b) := by
  obtain ⟨h1, h2⟩ := List.getElem?_eq_some_iff.1 hb
  rw [List.take_succ_eq_append_getElem h1, h2, List.all_append]
  simp

theorem idIs_bad {l : List UInt8} {k : Nat} {b : UInt8} (hb : l[k]? = some b) (h : inOk b = false) : idIs l = false := by
  rw [Bool.eq_false_iff]
  intro h'
  have := List.all_eq_true.1 (idIs_parts h').2.2.2 b (List.mem_of_getElem? hb)
  rw [h] at this
  cases this

theorem idIs_first {l : List UInt8} {b : UInt8} (hb : l[0]? = some b) (h : lcOk b = false) : idIs l = false := by
  rw [Bool.eq_false_iff]
  intro h'
  have := (idIs_parts h').2.2.1
  rw [List.getD, hb] at this
  simp [h] at this

set_option maxHeartbeats 1600000 in
set_option maxRecDepth 100000 in
theorem is_any (l : List UInt8) (hl : l.length ≤ 4294967296) (w : World) :
    Calls Tryz.prog 48 #[.string ⟨l.toArray⟩] w fun e w' => e = .returned (.bool (idIs l)) ∧ Below w.heap.size w w' := by
  by_cases h0 : l = []
  · subst h0
    go_enter Tryz.func48, Tryz.ntmps48
    go_wp2_with fail
    go_ret
    exact ⟨rfl, Below.refl _ _⟩
  · have t0 : (l == []) = false := by simpa using h0
    have hpos : 1 ≤ l.length := by
      rcases l with _ | ⟨_, _⟩
      · exact absurd rfl h0
      · simp
    by_cases h16 : 16 < l.length
    · have HR := Lib.hid (idIs_long h16)
      have H0 := Lib.hid h0
      clear h0
      go_enter Tryz.func48, Tryz.ntmps48
      go_wp2_with fail
      go_ret
      exact ⟨by rw [HR.out]; rfl, Below.refl _ _⟩
    · have H0 := Lib.hid h0
      clear h0
      go_enter Tryz.func48, Tryz.ntmps48
      go_wp2_with fail
      go_loopw [] (fun wr => ∃ pos : Nat, pos ≤ l.length ∧ Hid (wr.heap[w.heap.size]? = some (.stringIter ⟨l.toArray⟩ pos)) ∧ Below w.heap.size w wr ∧ Hid (pos = 0 ∨ lcOk (l.getD 0 0) = true) ∧ Hid ((l.take pos).all inOk = true)) (fun wr => l.length - wr.iterPos w.heap.size)
      case atStart => exact ⟨0, by omega, World.iter_heap w _ 0, (Below.refl _ w).alloc (Nat.le_refl _) _, .inl rfl, by show _ = _; simp⟩
      case round =>
        obtain ⟨pos, hp, HI, hnx, HF, HA⟩ := hrel
        have HN := Lib.hid hnx
        have hpi : Hid (wr.iterPos w.heap.size = pos) := by show _ = _; simp only [World.iterPos, HI.out]
        by_cases hlt : pos < l.length
        · have hlt' : pos < (⟨l.toArray⟩ : ByteArray).size := by rw [size_bytes]; exact hlt
          obtain ⟨b, hb⟩ : ∃ b : UInt8, (⟨l.toArray⟩ : ByteArray)[pos]'hlt' = b := ⟨_, rfl⟩
          have HB : Hid (l[pos]? = some b) := by rw [← hb]; exact bytes_at l pos hlt'
          have hb256 := b.toNat_lt
          by_cases h128 : b.toNat < 128
          · have hnext := fun ty => Lib.run_next_ascii_at (P := Tryz.prog) wr w.heap.size ⟨l.toArray⟩ pos ty HI.out hlt' (by rw [hb]; exact h128)
            rw [hb] at hnext
            have HI2 := Lib.hid (Lib.iterAt_heap wr w.heap.size ⟨l.toArray⟩ pos (pos + 1) HI.out)
            have HN2 := Lib.hid (Lib.below_iterAt hnx (k := w.heap.size) (Nat.le_refl _) ⟨l.toArray⟩ (pos + 1))
            have hp2 : Hid ((wr.iterAt w.heap.size ⟨l.toArray⟩ (pos + 1)).iterPos w.heap.size = pos + 1) := by show _ = _; simp only [World.iterPos, HI2.out]
            clear hb hnx
            cases hl : lcOk b with
            | true =>
              have HL : Hid (runeLc (b.toNat : Int) = true) := by show _ = _; rw [runeLc_byte]; exact hl
              have HA2 : Hid ((l.take (pos + 1)).all inOk = true) := by show _ = _; rw [all_succ HB.out, HA.out]; simp [inOk, hl]
              have HF2 : Hid (pos + 1 = 0 ∨ lcOk (l.getD 0 0) = true) := by
                show _ ∨ _
                right
                rcases HF.out with h | h
                · subst h; rw [List.getD, HB.out]; exact hl
                · exact h
              clear hl
              go_wp2_with fail
              refine (letter_eq _ HL _).mono ?_
              rintro e w' ⟨rfl, rfl⟩
              go_wp2_with fail
              go_roundw
              case rel => exact ⟨pos + 1, by omega, HI2, HN2.out, HF2, HA2⟩
              case measure => rw [hp2.out, hpi.out]; omega
            | false =>
              have HL : Hid (runeLc (b.toNat : Int) = false) := by show _ = _; rw [runeLc_byte]; exact hl
              by_cases hz : pos = 0
              · have HR : Hid (idIs l = false) := by show _ = _; subst hz; exact idIs_first HB.out hl
                subst hz
                clear hl
                go_wp2_with fail
                refine (letter_eq _ HL _).mono ?_
                rintro e w' ⟨rfl, rfl⟩
                go_wp2_with fail
                go_ret
                exact ⟨by rw [HR.out]; rfl, HN2.out⟩
              · have hz' : 0 < pos := by omega
                clear hz
                cases hd : dgOk b with
                | true =>
                  have HD : Hid (runeIn (b.toNat : Int) = true) := by show _ = _; rw [runeIn_byte]; exact hd
                  have HA2 : Hid ((l.take (pos + 1)).all inOk = true) := by show _ = _; rw [all_succ HB.out, HA.out]; simp [inOk, hd]
                  have HF2 : Hid (pos + 1 = 0 ∨ lcOk (l.getD 0 0) = true) := by
                    show _ ∨ _
                    right
                    rcases HF.out with h | h
                    · omega
                    · exact h
                  clear hl hd
                  go_wp2_with fail
                  refine (letter_eq _ HL _).mono ?_
                  rintro e w' ⟨rfl, rfl⟩
                  go_wp2_with fail
                  refine (inner_eq _ HD _).mono ?_
                  rintro e w' ⟨rfl, rfl⟩
                  go_wp2_with fail
                  go_roundw
                  case rel => exact ⟨pos + 1, by omega, HI2, HN2.out, HF2, HA2⟩
                  case measure => rw [hp2.out, hpi.out]; omega
                | false =>
                  have HD : Hid (runeIn (b.toNat : Int) = false) := by show _ = _; rw [runeIn_byte]; exact hd
                  have HR : Hid (idIs l = false) := by show _ = _; exact idIs_bad HB.out (by simp [inOk, hl, hd])
                  clear hl hd
                  go_wp2_with fail
                  refine (letter_eq _ HL _).mono ?_
                  rintro e w' ⟨rfl, rfl⟩
                  go_wp2_with fail
                  refine (inner_eq _ HD _).mono ?_
                  rintro e w' ⟨rfl, rfl⟩
                  go_wp2_with fail
                  go_ret
                  exact ⟨by rw [HR.out]; rfl, HN2.out⟩
          · obtain ⟨hh1, _⟩ := decode_high ⟨l.toArray⟩ pos hlt' (by rw [hb]; omega)
            have hnext := fun ty => Lib.run_next_any_at (P := Tryz.prog) wr w.heap.size ⟨l.toArray⟩ pos ty HI.out hlt'
            have HN2 := Lib.hid (Lib.below_iterAt hnx (k := w.heap.size) (Nat.le_refl _) ⟨l.toArray⟩ (pos + (Utf8.decode ⟨l.toArray⟩ pos).2))
            have HR : Hid (idIs l = false) := by show _ = _; exact idIs_high (List.mem_of_getElem? HB.out) (by omega)
            obtain ⟨r, hr⟩ : ∃ r, (Utf8.decode ⟨l.toArray⟩ pos).1 = r := ⟨_, rfl⟩
            obtain ⟨q, hq⟩ : ∃ q, pos + (Utf8.decode ⟨l.toArray⟩ pos).2 = q := ⟨_, rfl⟩
            rw [hr, hq] at hnext
            rw [hq] at HN2
            rw [hr] at hh1
            have HL := Lib.hid (rune_high hh1).1
            have HD := Lib.hid (rune_high hh1).2
            clear hr hq hb hnx
            go_wp2_with fail
            refine (letter_eq _ HL _).mono ?_
            rintro e w' ⟨rfl, rfl⟩
            by_cases hz : pos = 0
            · subst hz
              go_wp2_with fail
              go_ret
              exact ⟨by rw [HR.out]; rfl, HN2.out⟩
            · have hz' : 0 < pos := by omega
              clear hz
              go_wp2_with fail
              refine (inner_eq _ HD _).mono ?_
              rintro e w' ⟨rfl, rfl⟩
              go_wp2_with fail
              go_ret
              exact ⟨by rw [HR.out]; rfl, HN2.out⟩
        · obtain rfl : pos = l.length := by omega
          have hnext := fun ty => Lib.run_next_end_at (P := Tryz.prog) wr w.heap.size ⟨l.toArray⟩ l.length ty HI.out (by rw [size_bytes]; omega)
          have HR : Hid (idIs l = true) := by
            show _ = _
            have ha := HA.out
            rw [List.take_length] at ha
            refine idIs_mk hpos (by omega) ?_ ha
            rcases HF.out with h | h
            · omega
            · exact h
          clear hnx
          go_wp2_with fail
          go_ret
          exact ⟨by rw [HR.out]; rfl, HN.out⟩

end Go.Proofs.YthfkfonfiejbmaaGreat

end

section

/-
  THE CONTRACT OF ident.Fold (with small): a Builder, written in a range over a string.
-/
namespace Go.Proofs.YthfkfonfiejbmaaGreat
open Go.RowKit Go.Lib

def smallR (r : Int) : Int := if 65 ≤ r ∧ r ≤ 90 then r + 32 else r

set_option maxHeartbeats 400000 in
set_option maxRecDepth 100000 in
theorem small_eq (r : Int) (h0 : 0 ≤ r) (h1 : r ≤ 2147483647) {q : Int} (h : Hid (smallR r = q)) (w : World) :
    Calls Tryz.prog 53 #[.int .i32 r] w fun e w' => e = .returned (.int .i32 q) ∧ w = w' := by
  have h' := h.out
  unfold smallR at h'
  clear h
  by_cases hb : 65 ≤ r ∧ r ≤ 90
  · rw [if_pos hb] at h'
    obtain ⟨h2, h3⟩ := hb
    have HQ : Hid (r - 65 + 97 = q) := by show _ = _; omega
    clear h'
    go_enter Tryz.func53, Tryz.ntmps53
    go_wp2_with fail
    go_ret
    exact ⟨by rw [← HQ.out]; first | rfl | exact ret_int (by omega), rfl⟩
  · rw [if_neg hb] at h'
    subst h'
    have hor : r < 65 ∨ (65 ≤ r ∧ 90 < r) := by omega
    clear hb
    rcases hor with h2 | ⟨h2, h3⟩
    all_goals
      go_enter Tryz.func53, Tryz.ntmps53
      go_wp2_with fail
      go_ret
      exact ⟨rfl, rfl⟩

/-- Where the folding of l stands: at pos; acc is what is written. -/
def FoldAt (l : List UInt8) (pos : Nat) (acc : List UInt8) : Prop :=
  (pos ≤ l.length ∧ acc = idLow (l.take pos)) ∨ ((∃ b ∈ acc, 128 ≤ b.toNat) ∧ ∃ b ∈ l, 128 ≤ b.toNat)

theorem encode_low {b : UInt8} (h : b.toNat < 128) : encodeRune (smallR (b.toNat : Int)) = [low1 b] := by
  have hs : smallR (b.toNat : Int) = ((low1 b).toNat : Int) := by
    unfold smallR low1
    by_cases hb : 65 ≤ b.toNat ∧ b.toNat ≤ 90
    · rw [if_pos (by omega), if_pos hb, u8of_toNat (by omega)]; omega
    · rw [if_neg (by omega), if_neg hb]
  have hl : (low1 b).toNat < 128 := by
    unfold low1
    by_cases hb : 65 ≤ b.toNat ∧ b.toNat ≤ 90
    · rw [if_pos hb, u8of_toNat (by omega)]; omega
    · rw [if_neg hb]; exact h
  rw [hs]
  unfold encodeRune
  rw [encodeRuneZ_one (by omega) (by omega)]
  simp

theorem encode_high {r : Nat} (h : 128 ≤ r) : ∃ b ∈ encodeRune (smallR (r : Int)), 128 ≤ b.toNat := by
  have hs : smallR (r : Int) = r := by unfold smallR; rw [if_neg (by omega)]
  rw [hs]
  have key : ∀ x, x ∈ encodeRuneZ (r : Int) → 128 ≤ x → x < 256 → ∃ b ∈ encodeRune (r : Int), 128 ≤ b.toNat := by
    intro x hx h1 h2
    refine ⟨x.toNat.toUInt8, List.mem_map.2 ⟨x, hx, rfl⟩, ?_⟩
    have : x.toNat < 256 := by omega
    simp only [Nat.toUInt8_eq, UInt8.toNat_ofNat']
    omega
  by_cases h1 : r ≤ 2047
  · exact key (192 + (r : Int) / 64) (by rw [encodeRuneZ_two (by omega) (by omega)]; simp) (by omega) (by omega)
  · by_cases h2 : (2048 ≤ r ∧ r < 55296) ∨ (57343 < r ∧ r ≤ 65535)
    · exact key (224 + (r : Int) / 4096) (by rw [encodeRuneZ_three (by omega)]; simp) (by omega) (by omega)
    · by_cases h3 : 65536 ≤ r ∧ r ≤ 1114111
      · exact key (240 + (r : Int) / 262144) (by rw [encodeRuneZ_four (by omega) (by omega)]; simp) (by omega) (by omega)
      · exact key 239 (by rw [encodeRuneZ_bad (by omega)]; simp) (by omega) (by omega)

theorem fold_next {l acc : List UInt8} {pos : Nat} (hlt : pos < (⟨l.toArray⟩ : ByteArray).size) (h : FoldAt l pos acc) :
    FoldAt l (pos + (Utf8.decode ⟨l.toArray⟩ pos).2) (acc ++ encodeRune (smallR ((Utf8.decode ⟨l.toArray⟩ pos).1 : Int))) ∧ 1 ≤ (Utf8.decode ⟨l.toArray⟩ pos).2 := by
  obtain ⟨b, hb⟩ : ∃ b : UInt8, (⟨l.toArray⟩ : ByteArray)[pos]'hlt = b := ⟨_, rfl⟩
  have HB : l[pos]? = some b := by rw [← hb]; exact bytes_at l pos hlt
  by_cases ha : b.toNat < 128
  · have hd := decode_ascii ⟨l.toArray⟩ pos hlt (by rw [hb]; exact ha)
    rw [hb] at hd
    rw [hd]
    refine ⟨?_, Nat.le_refl _⟩
    simp only
    rw [encode_low ha]
    rcases h with ⟨h1, h2⟩ | ⟨⟨c, hc, h1⟩, h2⟩
    · obtain ⟨p1, p2⟩ := List.getElem?_eq_some_iff.1 HB
      refine .inl ⟨by omega, ?_⟩
      rw [List.take_succ_eq_append_getElem p1, p2, h2]
      simp [idLow]
    · exact .inr ⟨⟨c, List.mem_append_left _ hc, h1⟩, h2⟩
  · obtain ⟨h1, h2⟩ := decode_high ⟨l.toArray⟩ pos hlt (by rw [hb]; omega)
    refine ⟨.inr ⟨?_, b, List.mem_of_getElem? HB, by omega⟩, h2⟩
    obtain ⟨c, hc, h3⟩ := encode_high h1
    exact ⟨c, List.mem_append_right _ hc, h3⟩

theorem fold_end {l acc : List UInt8} {pos : Nat} (h : FoldAt l pos acc) (hp : l.length ≤ pos) : (idIs acc = true ∧ idFold l = (acc, true)) ∨ (idIs acc = false ∧ idFold l = ([], false)) := by
  rcases h with ⟨h1, h2⟩ | ⟨⟨c, hc, h1⟩, b, hb, h2⟩
  · have : l.take pos = l := List.take_of_length_le hp
    rw [this] at h2
    subst h2
    rcases idFold_cases l with ⟨e, h⟩ | ⟨e, h, _⟩
    · exact .inl ⟨h, e⟩
    · exact .inr ⟨h, e⟩
  · exact .inr ⟨idIs_high hc h1, idFold_high hb h2⟩

theorem decode_width (s : ByteArray) (pos : Nat) : (Utf8.decode s pos).2 ≤ 4 := by
  simp only [Utf8.decode]
  repeat' split
  all_goals (first | decide | (simp; done) | omega)

theorem ownsRowF_later {w w' : World} {base e size : Nat} {v : Value} {n : Nat} {xs : List Value} (h : w.ownsRowF base e size v n xs) (hb : Below w.heap.size w w') : w'.ownsRowF base e size v n xs := by
  refine ⟨h.1, ?_⟩
  rcases h.2 with h' | ⟨g, cap, cur, fz, h1, h2, h3, h4⟩
  · exact .inl h'
  · exact .inr ⟨g, cap, cur, fz, h1, h2, by rw [hb.block g (Array.getElem?_eq_some_iff.1 h3).1]; exact h3, h4⟩

theorem builderAt_later {T e B b : Nat} {p : Value} {bs : List Value} {w w' : World} (h : BuilderAtF T e B b p bs w) (hb : Below w.heap.size w w') : BuilderAtF T e B b p bs w' := by
  obtain ⟨h1, v, h2, h3, h4⟩ := h
  exact ⟨h1, v, by rw [hb.block b (Array.getElem?_eq_some_iff.1 h2).1]; exact h2, ownsRowF_later h3 hb, h4⟩

theorem builder_later {T e B b : Nat} {bs : List Value} {w w' : World} (h : IsBuilderF T e B b bs w) (hb : Below w.heap.size w w') : IsBuilderF T e B b bs w' :=
  h.elim (fun x => .inl (builderAt_later x hb)) (fun x => .inr (builderAt_later x hb))

theorem is_eq (l : List UInt8) (hl : l.length ≤ 4294967296) {r : Bool} (h : Hid (idIs l = r)) (w : World) :
    Calls Tryz.prog 48 #[.string ⟨l.toArray⟩] w fun e w' => e = .returned (.bool r) ∧ Below w.heap.size w w' := by
  have := is_any l hl w
  rwa [h.out] at this

set_option maxHeartbeats 1600000 in
set_option maxRecDepth 100000 in
theorem fold_eq (l : List UInt8) (hl : l.length ≤ 4294967296) {t : List UInt8} {r : Bool} (h : Hid (idFold l = (t, r))) (w : World) :
    Calls Tryz.prog 22 #[.string ⟨l.toArray⟩] w fun e w' => e = .returned (.tuple #[.string ⟨t.toArray⟩, .bool r]) ∧ Below w.heap.size w w' := by
  by_cases h16 : 16 < l.length
  · have e := (idFold_long h16).symm.trans h.out
    simp only [Prod.mk.injEq] at e
    obtain ⟨rfl, rfl⟩ := e
    clear h
    go_enter Tryz.func22, Tryz.ntmps22
    go_wp2_with fail
    go_ret2
    exact ⟨rfl, Below.refl _ _⟩
  · go_enter Tryz.func22, Tryz.ntmps22
    go_wp2_with fail
    go_loopw [] (fun wr => ∃ (pos : Nat) (acc : List UInt8), Hid (IsBuilderF 86 5 w.heap.size w.heap.size (Lib.byteCells acc) wr) ∧ Hid (wr.heap[w.heap.size + 1]? = some (.stringIter ⟨l.toArray⟩ pos)) ∧ Below w.heap.size w wr ∧ Hid (FoldAt l pos acc) ∧ acc.length ≤ 4 * pos ∧ pos ≤ 100) (fun wr => l.length - wr.iterPos (w.heap.size + 1))
    case atStart =>
      refine ⟨0, [], (IsBuilderF.of (fresh_isBuilder 86 5 w)).alloc _, ?_, ((Below.refl _ w).alloc (Nat.le_refl _) _).alloc (by simp) _, .inl ⟨by omega, by simp [idLow]⟩, by simp, by omega⟩
      show _ = _
      have := World.iter_heap (w.alloc (.cells #[.pointer none, .slice none 0 0] 86)) ⟨l.toArray⟩ 0
      simpa using this
    case round =>
      obtain ⟨pos, acc, HI, HIt, hbw, HF, hal, hp100⟩ := hrel
      have HBw := Lib.hid hbw
      have hsz : w.heap.size + 1 < wr.heap.size := (Array.getElem?_eq_some_iff.1 HIt.out).1
      have hpi : Hid (wr.iterPos (w.heap.size + 1) = pos) := by show _ = _; simp only [World.iterPos, HIt.out]
      by_cases hlt : pos < l.length
      · have hlt' : pos < (⟨l.toArray⟩ : ByteArray).size := by rw [size_bytes]; exact hlt
        have hnx := fun ty => run_next_any_at (P := Tryz.prog) wr (w.heap.size + 1) ⟨l.toArray⟩ pos ty HIt.out hlt'
        have hd1 := decode_le ⟨l.toArray⟩ pos
        obtain ⟨hF2, hst⟩ := fold_next hlt' HF.out
        have hI2 := HI.out.iterAt HIt.out (pos + (Utf8.decode ⟨l.toArray⟩ pos).2)
        have hit2 := iterAt_heap wr (w.heap.size + 1) ⟨l.toArray⟩ pos (pos + (Utf8.decode ⟨l.toArray⟩ pos).2) HIt.out
        have hbw2 := below_iterAt hbw (k := w.heap.size + 1) (by omega) ⟨l.toArray⟩ (pos + (Utf8.decode ⟨l.toArray⟩ pos).2)
        have hsz2 : w.heap.size ≤ (wr.iterAt (w.heap.size + 1) ⟨l.toArray⟩ (pos + (Utf8.decode ⟨l.toArray⟩ pos).2)).heap.size := by rw [iterAt_size]; omega
        have hst4 : (Utf8.decode ⟨l.toArray⟩ pos).2 ≤ 4 := decode_width ⟨l.toArray⟩ pos
        obtain ⟨c, hc⟩ : ∃ c, (Utf8.decode ⟨l.toArray⟩ pos).1 = c := ⟨_, rfl⟩
        obtain ⟨q, hq⟩ : ∃ q, pos + (Utf8.decode ⟨l.toArray⟩ pos).2 = q := ⟨_, rfl⟩
        rw [hc, hq] at hF2 hnx
        rw [hq] at hI2 hit2 hbw2 hsz2
        rw [hc] at hd1
        have hq1 : pos < q := by omega
        have hq2 : q ≤ 100 := by omega
        obtain ⟨m, hm⟩ : ∃ m, smallR (c : Int) = m := ⟨_, rfl⟩
        have hm0 : 0 ≤ m ∧ m ≤ 2147483647 := by
          rw [← hm]
          unfold smallR
          split <;> omega
        rw [hm] at hF2
        have HS := Lib.hid (small_eq c (by omega) (by omega) (Lib.hid hm))
        have HW := Lib.hid (fun W h1 h2 h3 => Tryz.Builder_WriteRune_k w.heap.size w.heap.size (Lib.byteCells acc) m (by omega) hm0.2 W h1 h2 h3)
        have HF2 := Lib.hid hF2
        have HI2 := Lib.hid hI2
        have Hit2 := Lib.hid hit2
        have HBw2 := Lib.hid hbw2
        have Hsz2 := Lib.hid hsz2
        have hl4 := runeCells_le m
        rw [runeCells_length] at hl4
        clear hF2 hI2 hit2 hbw2 hsz2 hm hc hq hst hst4 hbw
        go_wp2_with fail
        refine (HS.out _).mono ?_
        rintro e w' ⟨rfl, rfl⟩
        go_wp2_with fail
        refine (HW.out _ HI2.out (by rw [Lib.byteCells_length]; omega) Hsz2.out).mono ?_
        rintro e W1 ⟨rfl, h1, b1, k1⟩
        have Hit3 := Lib.hid (k1.iter Hit2.out (by omega))
        have HI3 : Hid (IsBuilderF 86 5 w.heap.size w.heap.size (Lib.byteCells (acc ++ encodeRune m)) W1) := by
          show IsBuilderF _ _ _ _ _ _
          rw [Lib.byteCells_append, Lib.byteCells_encodeRune]
          exact Or.inr h1
        have HBw3 := Lib.hid (HBw2.out.trans b1)
        have hpi3 : Hid (W1.iterPos (w.heap.size + 1) = q) := by show _ = _; simp only [World.iterPos, Hit3.out]
        clear h1 b1 k1
        go_wp2_with fail
        go_roundw
        case rel => exact ⟨q, acc ++ encodeRune m, HI3, Hit3, HBw3.out, HF2, by simp; omega, hq2⟩
        case measure => rw [hpi3.out, hpi.out]; omega
      · have hnx := fun ty => run_next_end_at (P := Tryz.prog) wr (w.heap.size + 1) ⟨l.toArray⟩ pos ty HIt.out (by rw [size_bytes]; exact hlt)
        have HE := fold_end HF.out (by omega)
        have HStr := Lib.hid (fun W hI hb => Tryz.Builder_String_any_k w.heap.size w.heap.size acc W hI hb)
        clear hbw
        rcases HE with ⟨e1, e2⟩ | ⟨e1, e2⟩
        · have HI1 := Lib.hid e1
          have e := e2.symm.trans h.out
          simp only [Prod.mk.injEq] at e
          obtain ⟨rfl, rfl⟩ := e
          clear e1 e2 h
          go_wp2_with fail
          refine (HStr.out _ HI.out (by omega)).mono ?_
          rintro e W1 ⟨rfl, h1, b1, _⟩
          have HB1 := Lib.hid (HBw.out.trans b1)
          have HJ1 := Lib.hid h1
          have hz1 := b1.size
          clear h1 b1
          go_wp2_with fail
          refine (is_eq acc (by omega) HI1 _).mono ?_
          rintro e W2 ⟨rfl, b2⟩
          have HB2 := Lib.hid (below2' HB1.out b2)
          have HJ2 := Lib.hid (builder_later HJ1.out b2)
          have hz2 := b2.size
          clear b2
          go_wp2_with fail
          refine (HStr.out _ HJ2.out (by omega)).mono ?_
          rintro e W3 ⟨rfl, _, b3, _⟩
          have HB3 := Lib.hid (HB2.out.trans b3)
          clear b3
          go_wp2_with fail
          go_ret2
          exact ⟨rfl, HB3.out⟩
        · have HI1 := Lib.hid e1
          have e := e2.symm.trans h.out
          simp only [Prod.mk.injEq] at e
          obtain ⟨rfl, rfl⟩ := e
          clear e1 e2 h
          go_wp2_with fail
          refine (HStr.out _ HI.out (by omega)).mono ?_
          rintro e W1 ⟨rfl, h1, b1, _⟩
          have HB1 := Lib.hid (HBw.out.trans b1)
          clear h1 b1
          go_wp2_with fail
          refine (is_eq acc (by omega) HI1 _).mono ?_
          rintro e W2 ⟨rfl, b2⟩
          have HB2 := Lib.hid (below2' HB1.out b2)
          clear b2
          go_wp2_with fail
          go_ret2
          exact ⟨rfl, HB2.out⟩

end Go.Proofs.YthfkfonfiejbmaaGreat

end

section

/-
  THE CONTRACTS OF ident.Put AND ident.Take.
-/
namespace Go.Proofs.YthfkfonfiejbmaaGreat
open Go.RowKit

theorem vtake_short {l : List UInt8} {p m : Int} {t : List UInt8} {f er : Nat} (h : vtake l p m = (t, f, er)) : t.length ≤ l.length := by
  unfold vtake at h
  generalize vget l p = g at h
  obtain ⟨n, g, e⟩ := g
  dsimp only at h
  repeat' split at h
  all_goals
    simp only [Prod.mk.injEq] at h
    obtain ⟨rfl, _, _⟩ := h
    simp
  try omega

set_option maxHeartbeats 400000 in
set_option maxRecDepth 100000 in
theorem idput_eq (l : List UInt8) (hl : l.length ≤ 4294967296) {t : List UInt8} {r : Bool} (h : Hid (idPut l = (t, r))) (w : World) :
    Calls Tryz.prog 56 #[.string ⟨l.toArray⟩] w fun e w' => e = .returned (.tuple #[.string ⟨t.toArray⟩, .bool r]) ∧ Below w.heap.size w w' := by
  have e := h.out
  unfold idPut at e
  clear h
  cases hi : idIs l with
  | false =>
    rw [hi] at e
    simp only [Bool.false_eq_true, if_false, Prod.mk.injEq] at e
    obtain ⟨rfl, rfl⟩ := e
    have HI := Lib.hid hi
    clear hi
    go_enter Tryz.func56, Tryz.ntmps56
    go_wp2_with fail
    refine (is_eq l hl HI _).mono ?_
    rintro e w1 ⟨rfl, hb1⟩
    go_wp2_with fail
    go_ret2
    exact ⟨rfl, hb1⟩
  | true =>
    rw [hi] at e
    simp only [if_true, Prod.mk.injEq] at e
    obtain ⟨rfl, rfl⟩ := e
    have HI := Lib.hid hi
    clear hi
    go_enter Tryz.func56, Tryz.ntmps56
    go_wp2_with fail
    refine (is_eq l hl HI _).mono ?_
    rintro e w1 ⟨rfl, hb1⟩
    go_wp2_with fail
    refine (text_any l hl _).mono ?_
    rintro e w2 ⟨rfl, hb2⟩
    go_wp2_with fail
    go_ret2
    exact ⟨rfl, below2' hb1 hb2⟩

theorem take_eq16 (l : List UInt8) (hl : l.length ≤ 4294967296) (p : Int) (w : World) {t : List UInt8} {f er : Nat} (h : Hid (vtake l p 16 = (t, f, er))) :
    Calls Tryz.prog 81 #[.string ⟨l.toArray⟩, .int .i64 p, .int .i64 16] w fun e w' => e = .returned (.tuple #[.string ⟨t.toArray⟩, .int .i64 f, .int .i64 er]) ∧ w = w' := take_eq l hl p 16 (by decide) w h

set_option maxHeartbeats 400000 in
set_option maxRecDepth 100000 in
theorem idtake_eq (l : List UInt8) (hl : l.length ≤ 4294967296) (p : Int) {t : List UInt8} {f er : Nat} (h : Hid (idTake l p = (t, f, er))) (w : World) :
    Calls Tryz.prog 58 #[.string ⟨l.toArray⟩, .int .i64 p] w fun e w' => e = .returned (.tuple #[.string ⟨t.toArray⟩, .int .i64 f, .int .i64 er]) ∧ Below w.heap.size w w' := by
  obtain ⟨u, g, ue, hu⟩ : ∃ u g ue, vtake l p 16 = (u, g, ue) := ⟨_, _, _, rfl⟩
  have e := h.out
  unfold idTake at e
  rw [hu] at e
  dsimp only at e
  have hs := vtake_short hu
  have HU := Lib.hid hu
  clear h hu
  by_cases he : ue = 0
  · subst he
    rw [if_neg (by simp)] at e
    cases hi : idIs u with
    | false =>
      rw [hi] at e
      simp only [Bool.false_eq_true, if_false, Prod.mk.injEq] at e
      obtain ⟨rfl, rfl, rfl⟩ := e
      have HI := Lib.hid hi
      clear hi
      go_enter Tryz.func58, Tryz.ntmps58
      go_wp2_with fail
      refine (take_eq16 l hl p _ HU).mono ?_
      rintro e w1 ⟨rfl, rfl⟩
      go_wp2_with fail
      refine (is_eq u (by omega) HI _).mono ?_
      rintro e w1 ⟨rfl, hb1⟩
      go_wp2_with fail
      go_ret3
      exact ⟨rfl, hb1⟩
    | true =>
      rw [hi] at e
      simp only [if_true, Prod.mk.injEq] at e
      obtain ⟨rfl, rfl, rfl⟩ := e
      have HI := Lib.hid hi
      clear hi
      go_enter Tryz.func58, Tryz.ntmps58
      go_wp2_with fail
      refine (take_eq16 l hl p _ HU).mono ?_
      rintro e w1 ⟨rfl, rfl⟩
      go_wp2_with fail
      refine (is_eq u (by omega) HI _).mono ?_
      rintro e w1 ⟨rfl, hb1⟩
      go_wp2_with fail
      go_ret3
      exact ⟨rfl, hb1⟩
  · rw [if_pos he] at e
    simp only [Prod.mk.injEq] at e
    obtain ⟨rfl, rfl, rfl⟩ := e
    have t1 : ((ue : Int) != 0) = true := by simp; omega
    clear he
    go_enter Tryz.func58, Tryz.ntmps58
    go_wp2_with fail
    refine (take_eq16 l hl p _ HU).mono ?_
    rintro e w1 ⟨rfl, rfl⟩
    go_wp2_with fail
    go_ret3
    exact ⟨rfl, Below.refl _ _⟩

end Go.Proofs.YthfkfonfiejbmaaGreat

end

section

/-
  A TEXT TURNED INTO A NEW ROW OF BYTES: what is known of the world behind it. Over any program.
-/
namespace Go.Proofs.YthfkfonfiejbmaaGreat
open Go.RowKit

end Go.Proofs.YthfkfonfiejbmaaGreat

end
