/-
  TEXTS OF THE PROOF, one behind the other: VarPure, Kit, VarPut, VarGet, VarRget, VarTake, IdPure, Shelf, IdCmp, IdIs, IdFold, IdTake, Bytes.
-/
import Derived.WalkKit
import Derived.BigQuiet
import Derived.Lib.QuietBelow
import Derived.Test.YtfkadkopolenbaaRows
import Derived.Deep.DeepMust
import Derived.Lib.Hide
import Derived.Lib.Bytealg
import Derived.Sort.Statements
import Derived.Shelf.SlSortCmp.Insertion
import Derived.Lib.SlicesCompact
import Derived.Shelf.Strings.Builder1
import Derived.Shelf.Small.Bits
import Derived.Shelf.Small.Strs
import Derived.Shelf.Small.Wraps
import Derived.Shelf.Strings.BuilderF
import Derived.Shelf.Strings.BuilderK
import Derived.Shelf.Strings.BuilderRune
import Derived.Shelf.Slices.CompactS
import Derived.Shelf.SlicesE.Compact
import Derived.Shelf.SlSortCmp.SiftDown1
import Derived.Shelf.SlSortCmp.HeapSort1
import Derived.Shelf.SlSortCmp.Insertion1
import Derived.Shelf.SlSortCmp.Median1
import Derived.Shelf.SlSortCmp.Pivot1
import Derived.Shelf.SlSortCmp.ReverseRange1
import Derived.Shelf.SlSortCmp.PartialInsertion1
import Derived.Shelf.SlSortCmp.PartitionEqual1
import Derived.Shelf.SlSortCmp.Partition1
import Derived.Shelf.SlSortCmp.Pdq1
import Derived.Shelf.SlSortCmp.Whole1
import Derived.Shelf.SlSortCmp.NoneTotal
import Derived.Lib.OthersKept
import Derived.Lib.ConvBytes

section

/-
  PLAIN MATHEMATICS OF LAYER 1 (varint): numbers in sevens of bits, and how they are read. No program in sight.
-/
namespace Go.Proofs.Ytfkadkopolenbaa

/-- A number's byte: a name that no rule of the walk takes apart. -/
def u8of (n : Nat) : UInt8 := UInt8.ofNat n

/-- The bytes of n, with fuel k. -/
def vputF : Nat → Nat → List UInt8
  | 0, n => [u8of n]
  | k + 1, n => if n < 128 then [u8of n] else u8of (n % 128 + 128) :: vputF k (n / 128)

/-- The bytes of n (below 2^64). -/
def vput (n : Nat) : List UInt8 := vputF 9 n

theorem vputF_lt {k n : Nat} (h : n < 128) : vputF k n = [u8of n] := by
  cases k <;> simp [vputF, h]

theorem vputF_succ : ∀ (k n : Nat), n < 128 ^ (k + 1) → vputF (k + 1) n = vputF k n
  | 0, n, h => by
    have h' : n < 128 := by simpa using h
    rw [vputF_lt h', vputF_lt h']
  | k + 1, n, h => by
    by_cases h1 : n < 128
    · rw [vputF_lt h1, vputF_lt h1]
    · rw [vputF, if_neg h1, vputF_succ k (n / 128) (by rw [Nat.pow_succ] at h; omega)]
      conv => rhs; rw [vputF, if_neg h1]

theorem vput_lt {n : Nat} (h : n < 128) : vput n = [u8of n] := vputF_lt h

theorem vput_ge {n : Nat} (h : 128 ≤ n) (hn : n < 18446744073709551616) : vput n = u8of (n % 128 + 128) :: vput (n / 128) := by
  unfold vput
  rw [vputF, if_neg (by omega), vputF_succ 8 (n / 128) (by simp; omega)]

theorem vputF_len_le : ∀ (k n : Nat), (vputF k n).length ≤ k + 1
  | 0, n => by simp [vputF]
  | k + 1, n => by
    unfold vputF
    split
    · simp
    · have := vputF_len_le k (n / 128)
      simp; omega

theorem vput_len_le (n : Nat) : (vput n).length ≤ 10 := vputF_len_le 9 n

theorem vputF_len_pos (k n : Nat) : 1 ≤ (vputF k n).length := by
  cases k with
  | zero => simp [vputF]
  | succ k => unfold vputF; split <;> simp

theorem vput_len_pos (n : Nat) : 1 ≤ (vput n).length := vputF_len_pos 9 n

theorem vputF_mono : ∀ (k a b : Nat), a ≤ b → (vputF k a).length ≤ (vputF k b).length
  | 0, a, b, _ => by simp [vputF]
  | k + 1, a, b, h => by
    by_cases ha : a < 128
    · rw [vputF_lt ha]; exact vputF_len_pos _ _
    · have hb : ¬ b < 128 := by omega
      rw [vputF, if_neg ha, vputF, if_neg hb]
      simp only [List.length_cons]
      have := vputF_mono k (a / 128) (b / 128) (Nat.div_le_div_right h)
      omega

theorem vput_mono {a b : Nat} (h : a ≤ b) : (vput a).length ≤ (vput b).length := vputF_mono 9 a b h

/-- What stands at a list's head, as the byte of index i of a number: the number, how many bytes it takes, and the error (0, 2, 3). -/
def vgetF (i : Nat) : List UInt8 → Nat × Nat × Nat
  | [] => (0, 0, 2)
  | b :: r =>
    if i = 9 ∧ 1 < b.toNat then (0, 0, 3)
    else if b.toNat < 128 then (if b.toNat = 0 ∧ 0 < i then (0, 0, 3) else (b.toNat, 1, 0))
    else
      if (vgetF (i + 1) r).2.2 = 0 then (b.toNat % 128 + 128 * (vgetF (i + 1) r).1, (vgetF (i + 1) r).2.1 + 1, 0)
      else (0, 0, (vgetF (i + 1) r).2.2)

/-- The number at a place of bytes: number, place behind it, error. -/
def vget (s : List UInt8) (at' : Int) : Nat × Nat × Nat :=
  if at' < 0 ∨ (s.length : Int) < at' then (0, 0, 1)
  else
    if (vgetF 0 (s.drop at'.toNat)).2.2 = 0 then ((vgetF 0 (s.drop at'.toNat)).1, at'.toNat + (vgetF 0 (s.drop at'.toNat)).2.1, 0)
    else (0, 0, (vgetF 0 (s.drop at'.toNat)).2.2)

theorem vgetF_err (i : Nat) : ∀ l : List UInt8, (vgetF i l).2.2 = 0 ∨ vgetF i l = (0, 0, 2) ∨ vgetF i l = (0, 0, 3) := by
  intro l
  induction l generalizing i with
  | nil => simp [vgetF]
  | cons b r ih =>
    unfold vgetF
    split
    · simp
    · split
      · split <;> simp
      · rcases ih (i + 1) with h | h | h
        · rw [if_pos h]; simp
        · rw [h]; simp
        · rw [h]; simp

theorem vgetF_used (i : Nat) : ∀ l : List UInt8, (vgetF i l).2.2 = 0 → 1 ≤ (vgetF i l).2.1 ∧ (vgetF i l).2.1 ≤ l.length := by
  intro l
  induction l generalizing i with
  | nil => simp [vgetF]
  | cons b r ih =>
    unfold vgetF
    split
    · simp
    · split
      · split <;> simp
      · by_cases h : (vgetF (i + 1) r).2.2 = 0
        · have := ih (i + 1) h
          rw [if_pos h]; simp; omega
        · rw [if_neg h]; simp [h]

/-- The number that is read at index i is below 2^(64 - 7 i). -/
theorem vgetF_bound (i : Nat) (hi : i ≤ 9) : ∀ l : List UInt8, (vgetF i l).1 * 128 ^ i < 18446744073709551616 := by
  intro l
  induction l generalizing i with
  | nil => simp [vgetF]
  | cons b r ih =>
    have hb := b.toNat_lt
    unfold vgetF
    split
    · simp
    · rename_i h9
      split
      · rename_i hlt
        split
        · simp
        · simp only
          by_cases hi9 : i = 9
          · subst hi9
            have : b.toNat ≤ 1 := by omega
            have := Nat.mul_le_mul_right (128 ^ 9) this
            refine Nat.lt_of_le_of_lt this (by decide)
          · have h8 : i ≤ 8 := by omega
            have h1 : b.toNat ≤ 127 := by omega
            calc b.toNat * 128 ^ i ≤ 127 * 128 ^ 8 := Nat.mul_le_mul h1 (Nat.pow_le_pow_right (by decide) h8)
              _ < 18446744073709551616 := by decide
      · rename_i hge
        by_cases hi9 : i = 9
        · exact absurd ⟨hi9, by omega⟩ h9
        · have ih' := ih (i + 1) (by omega)
          split
          · simp only
            have hb2 : b.toNat % 128 ≤ 127 := by omega
            rw [Nat.pow_succ] at ih'
            obtain ⟨c, hc⟩ : ∃ c, 18446744073709551616 = c * (128 ^ i * 128) := by
              have hi8 : i = 0 ∨ i = 1 ∨ i = 2 ∨ i = 3 ∨ i = 4 ∨ i = 5 ∨ i = 6 ∨ i = 7 ∨ i = 8 := by omega
              rcases hi8 with rfl | rfl | rfl | rfl | rfl | rfl | rfl | rfl | rfl
              · exact ⟨2 ^ 57, by decide⟩
              · exact ⟨2 ^ 50, by decide⟩
              · exact ⟨2 ^ 43, by decide⟩
              · exact ⟨2 ^ 36, by decide⟩
              · exact ⟨2 ^ 29, by decide⟩
              · exact ⟨2 ^ 22, by decide⟩
              · exact ⟨2 ^ 15, by decide⟩
              · exact ⟨2 ^ 8, by decide⟩
              · exact ⟨2, by decide⟩
            rw [hc] at ih' ⊢
            have hlt := Nat.lt_of_mul_lt_mul_right ih'
            rw [Nat.mul_comm (128 ^ i) 128, ← Nat.mul_assoc]
            exact Nat.mul_lt_mul_of_pos_right (by omega) (Nat.pow_pos (by decide))
          · simp

theorem u8of_toNat {n : Nat} (h : n < 256) : (u8of n).toNat = n := by
  simp [u8of, UInt8.toNat_ofNat']; omega

theorem u8of_of_toNat (b : UInt8) : u8of b.toNat = b := by
  simp [u8of]

/-- What is put is got, whatever stands behind it. -/
theorem vgetF_vputF : ∀ (k n i : Nat) (r : List UInt8), i + k = 9 → n * 128 ^ i < 18446744073709551616 → (0 < i → 0 < n) →
    vgetF i (vputF k n ++ r) = (n, (vputF k n).length, 0)
  | 0, n, i, r, hk, hn, hp => by
    have hi : i = 9 := by omega
    subst hi
    have h1 : n ≤ 1 := by simp at hn; omega
    have ht : (u8of n).toNat = n := u8of_toNat (by omega)
    simp only [vputF, List.cons_append, List.nil_append, vgetF, ht]
    rw [if_neg (by omega), if_pos (by omega), if_neg (by omega)]
    simp
  | k + 1, n, i, r, hk, hn, hp => by
    by_cases h : n < 128
    · have ht : (u8of n).toNat = n := u8of_toNat (by omega)
      rw [vputF_lt h]
      simp only [List.cons_append, List.nil_append, vgetF, ht]
      rw [if_neg (by omega), if_pos (by omega), if_neg (by omega)]
      simp
    · have ht : (u8of (n % 128 + 128)).toNat = n % 128 + 128 := u8of_toNat (by omega)
      have ih := vgetF_vputF k (n / 128) (i + 1) r (by omega) (by
        refine Nat.lt_of_le_of_lt ?_ hn
        rw [Nat.pow_succ, Nat.mul_comm (128 ^ i) 128, ← Nat.mul_assoc]
        exact Nat.mul_le_mul_right _ (Nat.div_mul_le_self n 128)) (fun _ => by omega)
      rw [vputF, if_neg h]
      simp only [List.cons_append, vgetF, ht, ih]
      rw [if_neg (by omega), if_neg (by omega), if_pos trivial]
      simp
      omega

theorem vget_vput (n : Nat) (hn : n < 18446744073709551616) (a r : List UInt8) :
    vget (a ++ (vput n ++ r)) (a.length : Int) = (n, a.length + (vput n).length, 0) := by
  unfold vget vput
  rw [if_neg (by simp; omega)]
  have e : List.drop ((a.length : Int)).toNat (a ++ (vputF 9 n ++ r)) = vputF 9 n ++ r := by simp
  rw [e, vgetF_vputF 9 n 0 r rfl (by simpa using hn) (by simp)]
  simp

/-- What is got is what was put, byte by byte. -/
theorem vputF_vgetF : ∀ (l : List UInt8) (k i : Nat), i + k = 9 → (vgetF i l).2.2 = 0 → vputF k (vgetF i l).1 = l.take (vgetF i l).2.1 ∧ (0 < i → 0 < (vgetF i l).1)
  | [], k, i, hk, h => by simp [vgetF] at h
  | b :: r, k, i, hk, h => by
    have hb := b.toNat_lt
    unfold vgetF at h ⊢
    by_cases h9 : i = 9 ∧ 1 < b.toNat
    · rw [if_pos h9] at h; simp at h
    · rw [if_neg h9] at h ⊢
      by_cases hlt : b.toNat < 128
      · rw [if_pos hlt] at h ⊢
        by_cases h0 : b.toNat = 0 ∧ 0 < i
        · rw [if_pos h0] at h; simp at h
        · rw [if_neg h0]
          simp only
          rw [vputF_lt hlt, u8of_of_toNat]
          exact ⟨by simp, fun _ => by omega⟩
      · rw [if_neg hlt] at h ⊢
        by_cases he : (vgetF (i + 1) r).2.2 = 0
        · rw [if_pos he]
          cases k with
          | zero => exact absurd ⟨by omega, by omega⟩ h9
          | succ k =>
            have ih := vputF_vgetF r k (i + 1) (by omega) he
            have hp := ih.2 (by omega)
            simp only
            have hge : ¬ b.toNat % 128 + 128 * (vgetF (i + 1) r).1 < 128 := by omega
            rw [vputF, if_neg hge]
            have e1 : (b.toNat % 128 + 128 * (vgetF (i + 1) r).1) % 128 + 128 = b.toNat := by omega
            have e2 : (b.toNat % 128 + 128 * (vgetF (i + 1) r).1) / 128 = (vgetF (i + 1) r).1 := by omega
            rw [e1, e2, ih.1, u8of_of_toNat]
            exact ⟨by simp, fun _ => by omega⟩
        · rw [if_neg he] at h; exact absurd h he

theorem vput_vget {l : List UInt8} (h : (vget l 0).2.2 = 0) : vput (vget l 0).1 = l.take (vget l 0).2.1 ∧ 1 ≤ (vget l 0).2.1 ∧ (vget l 0).2.1 ≤ l.length := by
  unfold vget at h ⊢
  rw [if_neg (by simp)] at h ⊢
  simp only [Int.toNat_zero, List.drop_zero, Nat.zero_add] at h ⊢
  by_cases he : (vgetF 0 l).2.2 = 0
  · rw [if_pos he]
    exact ⟨(vputF_vgetF l 9 0 rfl he).1, vgetF_used 0 l he⟩
  · rw [if_neg he] at h; exact absurd h he

/-- None begins another one's. -/
theorem vput_prefix {a b : Nat} (ha : a < 18446744073709551616) (hb : b < 18446744073709551616) {r : List UInt8} (h : vput b = vput a ++ r) : a = b := by
  have h1 := vgetF_vputF 9 a 0 r rfl (by simpa using ha) (by simp)
  have h2 := vgetF_vputF 9 b 0 [] rfl (by simpa using hb) (by simp)
  unfold vput at h
  rw [List.append_nil, h, h1] at h2
  exact (Prod.mk.injEq .. ▸ h2).1

theorem vput_inj {a b : Nat} (ha : a < 18446744073709551616) (hb : b < 18446744073709551616) (h : vput a = vput b) : a = b :=
  vput_prefix ha hb (r := []) (by simp [h])

/-- What is read so far, and what is still to be read, put together. -/
def comb (i acc : Nat) (r : Nat × Nat × Nat) : Nat × Nat × Nat := if r.2.2 = 0 then (acc + 128 ^ i * r.1, i + r.2.1, 0) else (0, 0, r.2.2)

/-- Where a reading of the number at q stands: byte i, at p; so far: acc. -/
def GetAt (l : List UInt8) (q i acc p sh : Nat) : Prop := acc < 128 ^ i ∧ p = q + i ∧ sh = 7 * i ∧ comb i acc (vgetF i (l.drop p)) = vgetF 0 (l.drop q)

theorem getAt_start (l : List UInt8) (q : Nat) : GetAt l q 0 0 q 0 := by
  refine ⟨by simp, rfl, rfl, ?_⟩
  unfold comb
  rcases vgetF_err 0 (l.drop q) with h | h | h
  · rw [if_pos h]
    exact Prod.ext (by simp) (Prod.ext (by simp) h.symm)
  · rw [h]; simp
  · rw [h]; simp

theorem vget_in {l : List UInt8} {q : Nat} (hq : q ≤ l.length) {r : Nat × Nat × Nat} (h : vgetF 0 (l.drop q) = r) :
    vget l q = if r.2.2 = 0 then (r.1, q + r.2.1, 0) else (0, 0, r.2.2) := by
  unfold vget
  rw [if_neg (by omega)]
  simp only [Int.toNat_natCast, h]

theorem getAt_end {l : List UInt8} {q i acc p sh : Nat} (h : GetAt l q i acc p sh) (hq : q ≤ l.length) (hp : p = l.length) : vget l q = (0, 0, 2) := by
  have e : vgetF 0 (l.drop q) = (0, 0, 2) := by
    rw [← h.2.2.2, hp]
    simp [vgetF, comb]
  rw [vget_in hq e]
  simp

theorem drop_at {l : List UInt8} {p : Nat} {b : UInt8} (hb : l[p]? = some b) : l.drop p = b :: l.drop (p + 1) := by
  obtain ⟨h, hb'⟩ := List.getElem?_eq_some_iff.1 hb
  rw [List.drop_eq_getElem_cons h, hb']

theorem getAt_form {l : List UInt8} {q i acc p sh : Nat} {b : UInt8} (h : GetAt l q i acc p sh) (hq : q ≤ l.length) (hb : l[p]? = some b)
    (hc : (i = 9 ∧ 1 < b.toNat) ∨ (b.toNat < 128 ∧ b.toNat = 0 ∧ 0 < i)) : vget l q = (0, 0, 3) := by
  have e : vgetF 0 (l.drop q) = (0, 0, 3) := by
    rw [← h.2.2.2, drop_at hb]
    unfold vgetF
    rcases hc with h1 | ⟨h1, h2⟩
    · rw [if_pos h1]; simp [comb]
    · by_cases h3 : i = 9 ∧ 1 < b.toNat
      · rw [if_pos h3]; simp [comb]
      · rw [if_neg h3, if_pos h1, if_pos h2]; simp [comb]
  rw [vget_in hq e]
  simp

theorem getAt_last {l : List UInt8} {q i acc p sh : Nat} {b : UInt8} (h : GetAt l q i acc p sh) (hq : q ≤ l.length) (hb : l[p]? = some b)
    (h1 : ¬ (i = 9 ∧ 1 < b.toNat)) (h2 : b.toNat < 128) (h3 : ¬ (b.toNat = 0 ∧ 0 < i)) : vget l q = (acc + b.toNat % 128 * 128 ^ i, p + 1, 0) := by
  have e : vgetF 0 (l.drop q) = (acc + b.toNat % 128 * 128 ^ i, i + 1, 0) := by
    rw [← h.2.2.2, drop_at hb]
    unfold vgetF
    rw [if_neg h1, if_pos h2, if_neg h3]
    simp only [comb, if_pos]
    rw [Nat.mod_eq_of_lt h2, Nat.mul_comm]
  rw [vget_in hq e]
  have := h.2.1
  simp
  omega

theorem getAt_next {l : List UInt8} {q i acc p sh : Nat} {b : UInt8} (h : GetAt l q i acc p sh) (hb : l[p]? = some b)
    (h1 : ¬ (i = 9 ∧ 1 < b.toNat)) (h2 : ¬ b.toNat < 128) : GetAt l q (i + 1) (acc + b.toNat % 128 * 128 ^ i) (p + 1) (sh + 7) := by
  obtain ⟨ha, hp, hs, hc⟩ := h
  refine ⟨?_, by omega, by omega, ?_⟩
  · have : b.toNat % 128 * 128 ^ i ≤ 127 * 128 ^ i := Nat.mul_le_mul_right _ (by omega)
    rw [Nat.pow_succ]
    omega
  · rw [← hc, drop_at hb]
    conv => rhs; unfold vgetF
    rw [if_neg h1, if_neg h2]
    unfold comb
    by_cases he : (vgetF (i + 1) (l.drop (p + 1))).2.2 = 0
    · simp only [if_pos he]
      simp only [if_true]
      refine Prod.ext ?_ (Prod.ext ?_ rfl)
      · show acc + b.toNat % 128 * 128 ^ i + 128 ^ (i + 1) * _ = acc + 128 ^ i * (b.toNat % 128 + 128 * _)
        rw [Nat.pow_succ, Nat.mul_add, Nat.mul_comm (128 ^ i) (b.toNat % 128), Nat.mul_assoc, Nat.add_assoc]
      · show i + 1 + _ = i + (_ + 1)
        omega
    · simp only [if_neg he]

/-- The text behind its length, at a place of bytes: text, place behind it, error. -/
def vtake (l : List UInt8) (p most : Int) : List UInt8 × Nat × Nat :=
  if (vget l p).2.2 ≠ 0 then ([], 0, (vget l p).2.2)
  else if most < 0 ∨ most < ((vget l p).1 : Int) then ([], 0, 3)
  else if l.length - (vget l p).2.1 < (vget l p).1 then ([], 0, 2)
  else ((l.drop (vget l p).2.1).take (vget l p).1, (vget l p).2.1 + (vget l p).1, 0)

theorem vget_facts {l : List UInt8} {p : Int} {n f er : Nat} (h : vget l p = (n, f, er)) :
    n < 18446744073709551616 ∧ f ≤ l.length ∧ (er = 0 → 0 ≤ p ∧ p.toNat < f) := by
  unfold vget at h
  by_cases h1 : p < 0 ∨ (l.length : Int) < p
  · rw [if_pos h1] at h
    simp only [Prod.mk.injEq] at h
    omega
  · rw [if_neg h1] at h
    have hb := vgetF_bound 0 (by omega) (l.drop p.toNat)
    by_cases h2 : (vgetF 0 (l.drop p.toNat)).2.2 = 0
    · rw [if_pos h2] at h
      have hu := vgetF_used 0 (l.drop p.toNat) h2
      simp only [Prod.mk.injEq] at h
      simp only [List.length_drop] at hu
      simp only [Nat.pow_zero, Nat.mul_one] at hb
      omega
    · rw [if_neg h2] at h
      simp only [Prod.mk.injEq] at h
      omega

/-- Numbers, one behind the other. -/
def vflat (l : List Nat) : List UInt8 := (l.map vput).flatten

theorem vflat_succ (l : List Nat) (i : Nat) (h : i < l.length) : vflat (l.take (i + 1)) = vflat (l.take i) ++ vput (l.getD i 0) := by
  unfold vflat
  rw [List.take_succ_eq_append_getElem h, List.map_append, List.flatten_append, show l.getD i 0 = l[i] by simp [List.getD, List.getElem?_eq_getElem h]]
  simp only [List.map_cons, List.map_nil, List.flatten_cons, List.flatten_nil, List.append_nil]

theorem vflat_split (l : List Nat) (i : Nat) (h : i < l.length) : vflat l = vflat (l.take i) ++ (vput (l.getD i 0) ++ vflat (l.drop (i + 1))) := by
  have e : l = l.take i ++ l.getD i 0 :: l.drop (i + 1) := by
    rw [show l.getD i 0 = l[i] by simp [List.getD, List.getElem?_eq_getElem h]]
    simp
  unfold vflat
  conv => lhs; rw [e]
  simp

theorem vflat_len : ∀ l : List Nat, (vflat l).length ≤ 10 * l.length
  | [] => by simp [vflat]
  | n :: l => by
    have h1 := vput_len_le n
    have h2 := vflat_len l
    simp only [vflat, List.map_cons, List.flatten_cons, List.length_append, List.length_cons] at h2 ⊢
    omega

theorem vget_flat (l : List Nat) (i : Nat) (h : i < l.length) (hb : l.getD i 0 < 18446744073709551616) :
    vget (vflat l) ((vflat (l.take i)).length : Int) = (l.getD i 0, (vflat (l.take (i + 1))).length, 0) := by
  rw [vflat_split l i h, vget_vput _ hb, vflat_succ l i h]
  simp

theorem vget_end (s : List UInt8) : vget s (s.length : Int) = (0, 0, 2) := by
  unfold vget
  rw [if_neg (by omega)]
  simp [vgetF]

/-- A number cut short is none. -/
theorem vgetF_cut : ∀ (k n i j : Nat), i + k = 9 → n * 128 ^ i < 18446744073709551616 → j < (vputF k n).length → vgetF i ((vputF k n).take j) = (0, 0, 2)
  | k, n, i, 0, _, _, _ => by simp [vgetF]
  | 0, n, i, j + 1, _, _, hj => by simp [vputF] at hj
  | k + 1, n, i, j + 1, hk, hn, hj => by
    by_cases h : n < 128
    · rw [vputF_lt h] at hj
      simp at hj
    · have ht : (u8of (n % 128 + 128)).toNat = n % 128 + 128 := u8of_toNat (by omega)
      rw [vputF, if_neg h] at hj ⊢
      simp only [List.length_cons] at hj
      have ih := vgetF_cut k (n / 128) (i + 1) j (by omega) (by
        refine Nat.lt_of_le_of_lt ?_ hn
        rw [Nat.pow_succ, Nat.mul_comm (128 ^ i) 128, ← Nat.mul_assoc]
        exact Nat.mul_le_mul_right _ (Nat.div_mul_le_self n 128)) (by omega)
      simp only [List.take_succ_cons, vgetF, ht, ih]
      rw [if_neg (by omega), if_neg (by omega), if_neg (by omega)]

/-- A text behind its length, as it stands within others, is taken. -/
theorem vtake_text (a t r : List UInt8) (most : Int) (ht : t.length < 18446744073709551616) (hm : (t.length : Int) ≤ most) :
    vtake (a ++ (vput t.length ++ t ++ r)) (a.length : Int) most = (t, a.length + (vput t.length).length + t.length, 0) := by
  unfold vtake
  rw [List.append_assoc, vget_vput _ ht]
  simp only [ne_eq, not_true_eq_false, if_false]
  rw [if_neg (by omega), if_neg (by simp; omega)]
  have e : List.drop (a.length + (vput t.length).length) (a ++ (vput t.length ++ (t ++ r))) = t ++ r := by
    rw [← List.append_assoc a]
    rw [List.drop_append_of_le_length (by simp)]
    rw [List.drop_of_length_le (by simp)]
    simp
  rw [e]
  simp

/-- .. cut short, it is not. -/
theorem vtake_cut (a t r : List UInt8) (most : Int) (ht : t.length < 18446744073709551616) (hm : (t.length : Int) ≤ most) (c : Nat) (h1 : a.length ≤ c) (h2 : c < a.length + (vput t.length).length + t.length) :
    vtake ((a ++ (vput t.length ++ t ++ r)).take c) (a.length : Int) most = ([], 0, 2) := by
  have e1 : (a ++ (vput t.length ++ t ++ r)).take c = a ++ (vput t.length ++ t).take (c - a.length) := by
    rw [List.take_append, List.take_of_length_le h1, List.take_append_of_le_length (by simp; omega)]
  rw [e1]
  by_cases hc : c - a.length < (vput t.length).length
  · rw [List.take_append_of_le_length (by omega)]
    have e2 : vget (a ++ (vput t.length).take (c - a.length)) (a.length : Int) = (0, 0, 2) := by
      unfold vget
      rw [if_neg (by simp; omega)]
      have e3 : List.drop ((a.length : Int)).toNat (a ++ (vput t.length).take (c - a.length)) = (vput t.length).take (c - a.length) := by simp
      rw [e3]
      have := vgetF_cut 9 t.length 0 (c - a.length) rfl (by simpa using ht) hc
      unfold vput
      rw [this]
      simp
    unfold vtake
    rw [e2]
    simp
  · have e2 : (vput t.length ++ t).take (c - a.length) = vput t.length ++ t.take (c - a.length - (vput t.length).length) := by
      rw [List.take_append, List.take_of_length_le (by omega)]
    rw [e2]
    unfold vtake
    rw [vget_vput _ ht]
    simp only [ne_eq, not_true_eq_false, if_false]
    rw [if_neg (by omega), if_pos (by simp; omega)]

/-- Texts behind their lengths, one behind the other. -/
def tflat (l : List (List UInt8)) : List UInt8 := (l.map fun t => vput t.length ++ t).flatten

theorem tflat_succ (l : List (List UInt8)) (i : Nat) (h : i < l.length) : tflat (l.take (i + 1)) = tflat (l.take i) ++ (vput (l.getD i []).length ++ l.getD i []) := by
  unfold tflat
  rw [List.take_succ_eq_append_getElem h, List.map_append, List.flatten_append, show l.getD i [] = l[i] by simp [List.getD, List.getElem?_eq_getElem h]]
  simp only [List.map_cons, List.map_nil, List.flatten_cons, List.flatten_nil, List.append_nil]

theorem tflat_split (l : List (List UInt8)) (i : Nat) (h : i < l.length) : tflat l = tflat (l.take i) ++ (vput (l.getD i []).length ++ l.getD i [] ++ tflat (l.drop (i + 1))) := by
  have e : l = l.take i ++ l.getD i [] :: l.drop (i + 1) := by
    rw [show l.getD i [] = l[i] by simp [List.getD, List.getElem?_eq_getElem h]]
    simp
  unfold tflat
  conv => lhs; rw [e]
  simp

theorem tflat_len : ∀ (l : List (List UInt8)), (∀ t ∈ l, t.length ≤ 300) → (tflat l).length ≤ 310 * l.length
  | [], _ => by simp [tflat]
  | t :: l, h => by
    have h1 := vput_len_le t.length
    have h2 := tflat_len l (fun x hx => h x (by simp [hx]))
    have h3 := h t (by simp)
    simp only [tflat, List.map_cons, List.flatten_cons, List.length_append, List.length_cons] at h2 ⊢
    omega

theorem tflat_pos : ∀ (l : List (List UInt8)), l.length ≤ (tflat l).length
  | [] => by simp
  | t :: l => by
    have h1 := vput_len_pos t.length
    have h2 := tflat_pos l
    simp only [tflat, List.map_cons, List.flatten_cons, List.length_append, List.length_cons] at h2 ⊢
    omega

end Go.Proofs.Ytfkadkopolenbaa

end

section

/-
  SMALL LAWS OVER ANY PROGRAM, for the walks of this seat: bytes as cells' values, and a text made of a row of bytes that the call owns.
-/
namespace Go.Proofs.Ytfkadkopolenbaa
open Go.RowKit

/-- Bytes as the values of cells. -/
def bvals (l : List UInt8) : List Value := l.map fun b => .int .u8 b.toNat

theorem ret_int {k : IntKind} {a b : Int} (h : a = b) : Ending.returned (.int k a) = .returned (.int k b) := by rw [h]

theorem bvals_length (l : List UInt8) : (bvals l).length = l.length := by simp [bvals]
theorem bvals_append (a b : List UInt8) : bvals (a ++ b) = bvals a ++ bvals b := by simp [bvals]
theorem bvals_one (l : List UInt8) : ∀ u ∈ bvals l, u.oneCell' = true := by
  intro u hu
  obtain ⟨_, _, rfl⟩ := List.mem_map.1 hu
  rfl

theorem strOfNums_bytes (xs : List UInt8) : strOfNums (xs.map fun b => (b.toNat : Int)) = ⟨xs.toArray⟩ := by
  have h : xs.map ((fun n : Int => UInt8.ofNat n.toNat) ∘ fun b : UInt8 => (b.toNat : Int)) = xs.map id := List.map_congr_left fun b _ => by simp
  simp only [strOfNums, List.map_map]
  rw [h, List.map_id]

/-- string(b), b a row of bytes of the call's own, or nil. -/
theorem run_convert_owned {P : Program} {w : World} (src e dst : TypeId) (hs : P.underlying src = some (.slice e)) (he : P.underlying e = some (.int .u8)) (hd : P.underlying dst = some .string)
    {base n : Nat} {v : Value} {xs : List UInt8} (h : w.ownsRow base e 1 v n (bvals xs)) :
    (convert src dst v).run P w = .ok (.string ⟨xs.toArray⟩) w := by
  rcases h with ⟨hl, ⟨rfl, rfl⟩ | ⟨g, cap, cur, rfl, hb, hg, hn, hc, hsz, htk⟩⟩
  · have hx : xs = [] := by simpa [bvals] using hl
    subst hx
    rw [run_convert_bytes_nil w src e hs he 0 0 dst hd]
    rfl
  · have hlen : xs.length = n := by simpa [bvals] using hl
    rw [← strOfNums_bytes]
    refine run_convert_bytes_arg w src e hs he g 0 n cap (xs.map fun b => (b.toNat : Int)) (by simpa using hlen) (fun i hi => ?_) dst hd
    rw [Nat.zero_add, cell_of_row w g i cur e (0, 0) hg]
    have h1 : cur.toList[i]? = (bvals xs)[i]? := by
      rw [← htk, List.getElem?_take, if_pos (by omega)]
    have h2 : (bvals xs)[i]? = some (.int .u8 ((xs.map fun b => (b.toNat : Int)).getD i 0)) := by
      have : i < xs.length := by omega
      simp [bvals, List.getD, List.getElem?_eq_getElem this]
    rw [← h2, ← h1]
    simp

theorem cells_one (w : World) (u : Value) (e : TypeId) : ∀ j x, [u][j]? = some x → (w.alloc (.cells #[u] e)).cell? ((⟨w.heap.size, 0, none⟩ : Addr).add j) = some x := by
  intro j x hj
  match j, hj with
  | 0, hj =>
    simp at hj
    subst hj
    simp [Addr.add]

/-- 'out = append(out, u)', out nil or a row of the call's own, u of one cell: what is owned is longer by u, and below 'base' nothing has turned. -/
theorem wpList_append_one {P : Program} {w : World} {ops : Array Oper} {rest : List Oper} {o : Oper} {a : Act} {Q : Exit → Act → World → Prop} (u : Value)
    (hgd : o.guard = none) (s x : Operand) (t : TypeId) (ho : o.op = .call { callee := .builtin .append, args := #[s, x], argTypes := #[t, t] })
    (base : Nat) (e : TypeId) (i : TypeInfo) (z : Value) (bytes : Nat) (ht : P.underlying t = some (.slice e)) (hi : P.info? e = some i) (hz : i.zero = some z)
    (hsize : i.size = 1) (hby : i.bytes = bytes) (hzs : z.cells.size = 1)
    (v : Value) (n : Nat) (xs : List Value) (hs : a.eval s = v) (hown : w.ownsRow base e 1 v n xs)
    (hx : a.eval x = .slice (some ⟨w.heap.size, 0, none⟩) 1 1) (h1 : u.oneCell' = true)
    (hbytes : n < 4294967296) (hb : bytes ≤ 4096) (hbase : base ≤ w.heap.size)
    (h : ∀ v' w', w'.ownsRow base e 1 v' (n + 1) (xs ++ [u]) → Below base w w' → wpList P ops Q rest (a.put o.dst v') w') :
    wpList P ops Q (o :: rest) a (w.alloc (.cells #[u] e)) := by
  refine wpList_append_own _ hgd s x t ho base e i z 1 bytes ht hi hz hsize hby hzs (by decide) v n xs hs (hown.alloc _) ⟨w.heap.size, 0, none⟩ 1 1 [u] hx rfl (cells_one w u e) (by simpa using h1)
    (by unfold maxLen; omega) (Nat.le_trans (Nat.mul_le_mul (show n + 1 ≤ 4294967296 by omega) hb) (by decide)) (by simp; omega) ?_
  intro v' w' hown' hgrow _
  refine h v' w' hown' (((Below.refl base w).alloc hbase _).grown hgrow (by simp; omega) (fun k hk => (hown.lt k hk).1))

/-- The same for a byte, whatever the walk calls the number. -/
theorem wpList_append_u8 {P : Program} {w : World} {ops : Array Oper} {rest : List Oper} {o : Oper} {a : Act} {Q : Exit → Act → World → Prop} (Y : Int) (y : Nat) (hY : Y = (y : Int)) (hy : y < 256)
    (hgd : o.guard = none) (s x : Operand) (t : TypeId) (ho : o.op = .call { callee := .builtin .append, args := #[s, x], argTypes := #[t, t] })
    (base : Nat) (e : TypeId) (i : TypeInfo) (ht : P.underlying t = some (.slice e)) (hi : P.info? e = some i) (hz : i.zero = some (.int .u8 0))
    (hsize : i.size = 1) (hby : i.bytes = 1)
    (v : Value) (xs : List UInt8) (hs : a.eval s = v) (hown : w.ownsRow base e 1 v xs.length (bvals xs))
    (hx : a.eval x = .slice (some ⟨w.heap.size, 0, none⟩) 1 1) (hlen : xs.length < 4294967296) (hbase : base ≤ w.heap.size)
    (h : ∀ v' w', w'.ownsRow base e 1 v' (xs ++ [u8of y]).length (bvals (xs ++ [u8of y])) → Below base w w' → wpList P ops Q rest (a.put o.dst v') w') :
    wpList P ops Q (o :: rest) a (w.alloc (.cells #[.int .u8 Y] e)) := by
  subst hY
  have e1 : bvals (xs ++ [u8of y]) = bvals xs ++ [.int .u8 (y : Int)] := by
    rw [bvals_append]
    have : (u8of y).toNat = y := u8of_toNat hy
    simp [bvals, this]
  refine wpList_append_one (.int .u8 (y : Int)) hgd s x t ho base e i (.int .u8 0) 1 ht hi hz hsize hby rfl v xs.length (bvals xs) hs hown hx rfl hlen (by decide) hbase ?_
  intro v' w' hown' hb
  refine h v' w' ?_ hb
  rw [e1]
  simpa using hown'

theorem or128 (x : Nat) : bits .or .u8 ((x : Int) % 256) 128 = ((x % 128 + 128 : Nat) : Int) := by
  have h1 : (x : Int) % 256 = ((x % 256 : Nat) : Int) := by omega
  rw [h1, show (128 : Int) = ((128 : Nat) : Int) from rfl, u8_or_nat _ _ (by omega) (by omega)]
  congr 1
  rw [Nat.or_comm]
  have e : x % 256 = 128 * (x / 128 % 2) + x % 128 := by omega
  have h2 : x / 128 % 2 = 0 ∨ x / 128 % 2 = 1 := by omega
  have h3 : x % 128 < 2 ^ 7 := by omega
  have h4 : 128 + x % 128 = 128 ||| x % 128 := Nat.two_pow_add_eq_or_of_lt (i := 7) h3 1
  rcases h2 with h | h
  · rw [e, h, Nat.mul_zero, Nat.zero_add, ← h4]
    omega
  · rw [e, h, Nat.mul_one, h4, ← Nat.or_assoc, Nat.or_self, ← h4]
    omega

theorem andNot128 (b : Nat) (h : b < 256) : bits .andNot .u8 (b : Int) 128 = ((b % 128 : Nat) : Int) := by
  rw [show (128 : Int) = ((128 : Nat) : Int) from rfl, u8_andNot_nat _ _ h (by omega)]
  congr 1
  exact Nat.and_two_pow_sub_one_eq_mod b 7

theorem and128 (b : Nat) (h : b < 256) : bits .and .u8 (b : Int) 128 = ((b / 128 % 2 * 128 : Nat) : Int) := by
  rw [show (128 : Int) = ((128 : Nat) : Int) from rfl, u8_and_nat _ _ h (by omega)]
  congr 1
  exact nat_bit 7 b

theorem and128_yes {b : Nat} (h : b < 256) (h' : ¬ b < 128) : (bits .and .u8 (b : Int) 128 != 0) = true := by
  rw [and128 b h, show b / 128 % 2 = 1 by omega]; rfl

theorem and128_no {b : Nat} (h : b < 256) (h' : b < 128) : (bits .and .u8 (b : Int) 128 != 0) = false := by
  rw [and128 b h, show b / 128 % 2 = 0 by omega]; rfl

theorem pow7 (i : Nat) : 2 ^ (7 * i) = 128 ^ i := by rw [Nat.pow_mul]

theorem pow_split (i : Nat) (h : i ≤ 8) : ∃ c, 18446744073709551616 = c * (128 ^ i * 128) := by
  have hi8 : i = 0 ∨ i = 1 ∨ i = 2 ∨ i = 3 ∨ i = 4 ∨ i = 5 ∨ i = 6 ∨ i = 7 ∨ i = 8 := by omega
  rcases hi8 with rfl | rfl | rfl | rfl | rfl | rfl | rfl | rfl | rfl
  · exact ⟨2 ^ 57, by decide⟩
  · exact ⟨2 ^ 50, by decide⟩
  · exact ⟨2 ^ 43, by decide⟩
  · exact ⟨2 ^ 36, by decide⟩
  · exact ⟨2 ^ 29, by decide⟩
  · exact ⟨2 ^ 22, by decide⟩
  · exact ⟨2 ^ 15, by decide⟩
  · exact ⟨2 ^ 8, by decide⟩
  · exact ⟨2, by decide⟩

theorem sum_lt (acc x i : Nat) (ha : acc < 128 ^ i) (hx : x < 128) (hi : i ≤ 9) (h9 : i = 9 → x ≤ 1) : acc + x * 128 ^ i < 18446744073709551616 := by
  by_cases h : i = 9
  · subst h
    have := h9 rfl
    have h2 : x * 128 ^ 9 ≤ 1 * 128 ^ 9 := Nat.mul_le_mul_right _ this
    have h3 : 1 * 128 ^ 9 = 9223372036854775808 := by decide
    have h4 : 128 ^ 9 = 9223372036854775808 := by decide
    omega
  · obtain ⟨c, hc⟩ := pow_split i (by omega)
    rw [hc]
    have hc0 : 0 < c := by
      rcases Nat.eq_zero_or_pos c with h0 | h0
      · subst h0; simp at hc
      · exact h0
    have h1 : (x + 1) * 128 ^ i ≤ 128 ^ i * 128 := by rw [Nat.mul_comm (128 ^ i) 128]; exact Nat.mul_le_mul_right _ (by omega)
    have h2 : 128 ^ i * 128 ≤ c * (128 ^ i * 128) := Nat.le_mul_of_pos_left _ hc0
    rw [Nat.add_mul] at h1
    omega

theorem orShift (acc x i sh : Nat) (hs : sh = 7 * i) (ha : acc < 128 ^ i) (hx : x < 128) (hi : i ≤ 9) (h9 : i = 9 → x ≤ 1) :
    bits .or .u64 (acc : Int) (IntKind.u64.wrap (IntKind.u64.wrap (x : Int) * 2 ^ min sh 64)) = ((acc + x * 128 ^ i : Nat) : Int) := by
  have hlt := sum_lt acc x i ha hx hi h9
  subst hs
  have e0 : min (7 * i) 64 = 7 * i := by omega
  have e1 : IntKind.u64.wrap (x : Int) = (x : Int) := by rw [IntKind.wrap_u64]; omega
  have e2 : (2 : Int) ^ (7 * i) = ((128 ^ i : Nat) : Int) := by rw [← pow7]; exact (Int.natCast_pow 2 (7 * i)).symm
  rw [e0, e1, e2, ← Int.natCast_mul]
  have e3 : IntKind.u64.wrap ((x * 128 ^ i : Nat) : Int) = ((x * 128 ^ i : Nat) : Int) := by rw [IntKind.wrap_u64]; omega
  rw [e3, u64_or_nat _ _ (by omega) (by omega), Nat.or_comm, nat_join (7 * i) _ _ (by rw [pow7]; exact Nat.mul_mod_left _ _) (by rw [pow7]; exact ha), Nat.add_comm]

theorem orShift' (acc x i sh : Nat) (hs : sh = 7 * i) (ha : acc < 128 ^ i) (hx : x < 128) (hi : i ≤ 9) (h9 : i = 9 → x ≤ 1) :
    bits .or .u64 (acc : Int) (IntKind.u64.wrap (IntKind.u64.wrap (x : Int) * 2 ^ sh)) = ((acc + x * 128 ^ i : Nat) : Int) := by
  have := orShift acc x i sh hs ha hx hi h9
  rwa [show min sh 64 = sh by omega] at this

theorem orShift0 (x : Nat) (hx : x < 128) : bits .or .u64 0 (IntKind.u64.wrap (IntKind.u64.wrap (x : Int))) = (x : Int) := by
  have := orShift 0 x 0 0 rfl (by decide) hx (by omega) (by omega)
  simpa using this

theorem or0 (x : Nat) (hx : x < 128) : bits .or .u64 0 (x : Int) = (x : Int) := by
  rw [show (0 : Int) = ((0 : Nat) : Int) from rfl, u64_or_nat _ _ (by omega) (by omega), Nat.zero_or]

theorem bytes_at (l : List UInt8) (p : Nat) (h : p < (⟨l.toArray⟩ : ByteArray).size) : l[p]? = some ((⟨l.toArray⟩ : ByteArray)[p]'h) := by
  have h' : p < l.length := by
    have : (⟨l.toArray⟩ : ByteArray).size = l.length := by show l.toArray.size = _; simp
    omega
  rw [List.getElem?_eq_getElem h']
  rfl

theorem size_bytes (l : List UInt8) : (⟨l.toArray⟩ : ByteArray).size = l.length := by show l.toArray.size = _; simp

/-- s[i:j], s a text as a list of bytes, i and j whatever the walk calls them. -/
theorem run_slice_bytes {P : Program} (w : World) (t : TypeId) (l : List UInt8) (i j : Nat) (I J : Int) (hI : I = (i : Int)) (hJ : J = (j : Int)) (h : P.underlying t = some .string)
    (h1 : i ≤ j) (h2 : j ≤ l.length) :
    (Instr.slice t (.string ⟨l.toArray⟩) (some (.int .i64 I)) (some (.int .i64 J)) none).run P w = .ok (.string ⟨((l.drop i).take (j - i)).toArray⟩) w := by
  subst hI
  subst hJ
  rw [run_slice_string w t _ .i64 .i64 i j h (by omega) (by omega) (by rw [size_bytes]; omega), ByteArray.extract_mk]
  simp

/-- s[:j]. -/
theorem run_slice_bytes_to {P : Program} (w : World) (t : TypeId) (l : List UInt8) (j : Nat) (J : Int) (hJ : J = (j : Int)) (h : P.underlying t = some .string) (h2 : j ≤ l.length) :
    (Instr.slice t (.string ⟨l.toArray⟩) none (some (.int .i64 J)) none).run P w = .ok (.string ⟨(l.take j).toArray⟩) w := by
  subst hJ
  rw [run_slice_string_to_if w t _ .i64 j h, if_pos (by rw [size_bytes]; omega), ByteArray.extract_mk]
  simp

/-- s[i:]. -/
theorem run_slice_bytes_from {P : Program} (w : World) (t : TypeId) (l : List UInt8) (i : Nat) (I : Int) (hI : I = (i : Int)) (h : P.underlying t = some .string) (h2 : i ≤ l.length) :
    (Instr.slice t (.string ⟨l.toArray⟩) (some (.int .i64 I)) none none).run P w = .ok (.string ⟨(l.drop i).toArray⟩) w := by
  subst hI
  rw [run_slice_string_from_if w t _ .i64 i h, if_pos (by rw [size_bytes]; omega), ByteArray.extract_mk, size_bytes]
  simp only [Int.toNat_natCast]
  rw [List.take_of_length_le (by simp)]

theorem below3 {w a b c : World} (h1 : Below w.heap.size w a) (h2 : Below a.heap.size a b) (h3 : Below b.heap.size b c) : Below w.heap.size w c :=
  h1.trans ((h2.mono h1.size).trans (h3.mono (Nat.le_trans h1.size h2.size)))

theorem below2' {w a b : World} (h1 : Below w.heap.size w a) (h2 : Below a.heap.size a b) : Below w.heap.size w b := h1.trans (h2.mono h1.size)

/-- A contract that ends in 'Below', met inside a region that draws its order. -/
theorem rgB {P : Program} {f : FuncId} {args : Array Value} {v : Value} (h : ∀ w, Calls P f args w fun e w' => e = .returned v ∧ Below w.heap.size w w') (w : World) (d : Nat) (os : Array Obj) :
    Calls P f args (Sort.grow (redrawn w d) os) fun e w'' => e = .returned v ∧ ∃ p : Regrown, w'' = Sort.grow (redrawn w p.d) p.os := Calls.regrown_of (h _)

/-- .. one that leaves the world alone. -/
theorem rgS {P : Program} {f : FuncId} {args : Array Value} {v : Value} (h : ∀ w, Calls P f args w fun e w' => e = .returned v ∧ w = w') (w : World) (d : Nat) (os : Array Obj) :
    Calls P f args (Sort.grow (redrawn w d) os) fun e w'' => e = .returned v ∧ ∃ p : Regrown, w'' = Sort.grow (redrawn w p.d) p.os :=
  Calls.regrown_of ((h _).mono fun _ _ ⟨he, hw⟩ => ⟨he, hw ▸ Below.refl _ _⟩)

/-- A slice of integers that came in: nil, or a row of 'cap' cells, the numbers 'zs' (the first 'len' are its elements). -/
def IsRow (k : IntKind) (w : World) (a : Option Addr) (len cap : Nat) (zs : List Int) : Prop :=
  (a = none ∧ len = 0 ∧ cap = 0 ∧ zs = []) ∨
  ∃ x, a = some x ∧ len ≤ cap ∧ cap ≤ maxLen ∧ zs.length = cap ∧ (∀ i, i < zs.length → w.cell? (x.add i) = some (.int k (zs.getD i 0))) ∧ ∀ n ∈ zs, (Lit.int k n).wf = true

theorem IsRow.form {k : IntKind} {w : World} {a : Option Addr} {len cap : Nat} {zs : List Int} (h : IsRow k w a len cap zs) :
    len ≤ zs.length ∧ zs.length ≤ maxLen ∧ (len = 0 ∨ ∃ b off, a = some ⟨b, off, none⟩ ∧ b < w.heap.size ∧ ∀ i, i < len → w.cell? ⟨b, off + i, none⟩ = some (.int k (zs.getD i 0))) ∧ ∀ n ∈ zs, (Lit.int k n).wf = true := by
  rcases h with ⟨rfl, rfl, rfl, rfl⟩ | ⟨x, rfl, hl, hm, hz, hcell, hwz⟩
  · exact ⟨by simp, by simp, .inl rfl, by simp⟩
  · refine ⟨by omega, by omega, ?_, hwz⟩
    by_cases h0 : len = 0
    · exact .inl h0
    · obtain ⟨b, off, spot⟩ := x
      have hc := hcell 0 (by omega)
      have hspot : spot = none := by simpa [Addr.add] using World.cell?_spot hc
      subst hspot
      refine .inr ⟨b, off, rfl, ?_, fun i hi => ?_⟩
      · have := World.block_lt_of_cell? w _ hc
        simpa [Addr.add] using this
      · have := hcell i (by omega)
        rwa [Addr.add_lit] at this

/-- A slice of texts that came in. -/
def IsStrs (w : World) (a : Option Addr) (len cap : Nat) (ss : List ByteArray) : Prop :=
  (a = none ∧ len = 0 ∧ cap = 0 ∧ ss = []) ∨
  ∃ x, a = some x ∧ len ≤ cap ∧ cap ≤ maxLen ∧ ss.length = cap ∧ (∀ i, i < ss.length → w.cell? (x.add i) = some (.string (ss.getD i ByteArray.empty))) ∧ ∀ s ∈ ss, s.size ≤ maxLen

/-- .. each text as the list of its bytes. -/
theorem IsStrs.form {w : World} {a : Option Addr} {len cap : Nat} {ss : List ByteArray} (h : IsStrs w a len cap ss) :
    ∃ ls : List (List UInt8), ls.length = len ∧ len ≤ maxLen ∧ (len = 0 ∨ ∃ b off, a = some ⟨b, off, none⟩ ∧ b < w.heap.size ∧ ∀ i, i < len → w.cell? ⟨b, off + i, none⟩ = some (.string ⟨(ls.getD i []).toArray⟩)) ∧ ∀ l ∈ ls, l.length ≤ maxLen := by
  rcases h with ⟨rfl, rfl, rfl, rfl⟩ | ⟨x, rfl, hl, hm, hz, hcell, hws⟩
  · exact ⟨[], rfl, by simp, .inl rfl, by simp⟩
  · refine ⟨(ss.take len).map fun s => s.data.toList, by simp; omega, by omega, ?_, ?_⟩
    · by_cases h0 : len = 0
      · exact .inl h0
      · obtain ⟨b, off, spot⟩ := x
        have hc := hcell 0 (by omega)
        have hspot : spot = none := by simpa [Addr.add] using World.cell?_spot hc
        subst hspot
        refine .inr ⟨b, off, rfl, ?_, fun i hi => ?_⟩
        · have := World.block_lt_of_cell? w _ hc
          simpa [Addr.add] using this
        · have := hcell i (by omega)
          rw [Addr.add_lit] at this
          rw [this]
          have h1 : i < ss.length := by omega
          simp [List.getD, hi, List.getElem?_eq_getElem h1]
    · intro l hl'
      obtain ⟨s, hs, rfl⟩ := List.mem_map.1 hl'
      have h2 := hws s (List.mem_of_mem_take hs)
      exact Nat.le_trans (Nat.le_of_eq (Array.length_toList (xs := s.data))) h2

/-- string(b), b a new block of bytes, all of it. -/
theorem run_convert_new {P : Program} (w : World) (src e dst : TypeId) (hs : P.underlying src = some (.slice e)) (he : P.underlying e = some (.int .u8)) (hd : P.underlying dst = some .string)
    (cs : Array Value) (xs : List UInt8) (h : cs = (bvals xs).toArray) (n : Nat) (hn : n = xs.length) (hm : n ≤ maxLen) :
    (convert src dst (.slice (some ⟨w.heap.size, 0, none⟩) n n)).run P (w.alloc (.cells cs e)) = .ok (.string ⟨xs.toArray⟩) (w.alloc (.cells cs e)) := by
  subst h
  subst hn
  refine run_convert_owned src e dst hs he hd (base := 0) (n := xs.length) (xs := xs) ⟨by simp [bvals], .inr ⟨w.heap.size, xs.length, (bvals xs).toArray, rfl, Nat.zero_le _, heap_alloc_new w _, Nat.le_refl _, hm, by simp [bvals], ?_⟩⟩
  simp only [Nat.mul_one]
  exact List.take_of_length_le (by simp [bvals])

end Go.Proofs.Ytfkadkopolenbaa

end

section

/-
  THE CONTRACTS OF varint.Put, Size, Text AND OF THE DOCUMENT'S ANSWERS TO THEM: each returns what the plain mathematics says, and writes nothing that was there.
-/
namespace Go.Proofs.Ytfkadkopolenbaa
open Go.RowKit

theorem Try.info5 : (Try.prog.info? 5).map (fun i => (i.zero, i.size, i.bytes)) = some (some (.int .u8 0), 1, 1) := by kernel_rfl

end Go.Proofs.Ytfkadkopolenbaa

end

section

/-
  THE CONTRACTS OF varint.Get, Take AND OF THE DOCUMENT'S ANSWERS TO THEM.
-/
namespace Go.Proofs.Ytfkadkopolenbaa
open Go.RowKit

/-- Three results: number, place, error. -/
def triple (r : Nat × Nat × Nat) : Value := .tuple #[.int .u64 r.1, .int .i64 r.2.1, .int .i64 r.2.2]

/-- What holds at each jump back. -/
def GetJ (l : List UInt8) (q : Nat) (w : World) (a' : Act) (w' : World) : Prop := w' = w ∧ ∃ (i acc p sh : Nat) (u10 u11 u12 u13 u14 u15 u16 u17 u18 u19 u20 u21 u22 u23 u24 u25 u26 u27 u28 u29 u30 u31 u32 u33 u34 u35 u36 u37 u38 u39 u40 u41 u42 u43 u44 u45 u46 u47 u48 u49 u50 u51 u52 u53 u54 u55 u56 : Value), i ≤ 9 ∧ 1 ≤ i ∧ p ≤ l.length ∧ Hid (GetAt l q i acc p sh) ∧
      a' = { tmps := #[.string ⟨l.toArray⟩, .int .i64 q, undef, undef, .int .u64 0, .int .i64 0, .int .i64 0, .int .u64 acc, .int .u64 sh, .int .i64 p, u10, u11, u12, u13, u14, u15, u16, u17, u18, u19, u20, u21, u22, u23, u24, u25, u26, u27, u28, u29, u30, u31, u32, u33, u34, u35, u36, u37, u38, u39, u40, u41, u42, u43, u44, u45, u46, u47, u48, u49, u50, u51, u52, u53, u54, u55, u56], defers := [] }

def GetM (l : List UInt8) (a' : Act) (_ : World) : Nat := l.length - (intOf (a'.tmps.getD 9 undef)).toNat

theorem vget_out {l : List UInt8} {p : Int} (h : p < 0 ∨ (l.length : Int) < p) : vget l p = (0, 0, 1) := by
  unfold vget
  rw [if_pos h]

end Go.Proofs.Ytfkadkopolenbaa

end

section

/-
  THE CONTRACT OF THE DOCUMENT'S ANSWER TO varint.Get.
-/
namespace Go.Proofs.Ytfkadkopolenbaa
open Go.RowKit

end Go.Proofs.Ytfkadkopolenbaa

end

section

/-
  THE CONTRACTS OF varint.Take AND OF THE DOCUMENT'S ANSWER TO IT.
-/
namespace Go.Proofs.Ytfkadkopolenbaa
open Go.RowKit

/-- Three results: text, place, error. -/
def tripleS (r : List UInt8 × Nat × Nat) : Value := .tuple #[.string ⟨r.1.toArray⟩, .int .i64 r.2.1, .int .i64 r.2.2]

end Go.Proofs.Ytfkadkopolenbaa

end

section

/-
  PLAIN MATHEMATICS OF LAYER 3 (ident): what a name is, its folding, the order of names, lists merged. No program in sight.
-/
namespace Go.Proofs.Ytfkadkopolenbaa
open Go.Lib Go.Sort

/-! ### Names -/

def lcOk (b : UInt8) : Bool := decide (97 ≤ b.toNat) && decide (b.toNat ≤ 122)
def dgOk (b : UInt8) : Bool := (decide (48 ≤ b.toNat) && decide (b.toNat ≤ 57)) || decide (b.toNat = 45)
def inOk (b : UInt8) : Bool := lcOk b || dgOk b

def idIs (l : List UInt8) : Bool := decide (1 ≤ l.length) && (decide (l.length ≤ 16) && (lcOk (l.getD 0 0) && l.all inOk))

def low1 (b : UInt8) : UInt8 := if 65 ≤ b.toNat ∧ b.toNat ≤ 90 then u8of (b.toNat + 32) else b
def idLow (l : List UInt8) : List UInt8 := l.map low1

def idFold (l : List UInt8) : List UInt8 × Bool := if idIs (idLow l) = true then (idLow l, true) else ([], false)
def idPut (l : List UInt8) : List UInt8 × Bool := if idIs l = true then (vput l.length ++ l, true) else ([], false)
def idTake (l : List UInt8) (p : Int) : List UInt8 × Nat × Nat :=
  if (vtake l p 16).2.2 ≠ 0 then ([], 0, (vtake l p 16).2.2) else if idIs (vtake l p 16).1 = true then vtake l p 16 else ([], 0, 3)

theorem inOk_lt {b : UInt8} (h : inOk b = true) : b.toNat < 128 := by
  simp [inOk, lcOk, dgOk] at h
  omega

theorem low1_same {b : UInt8} (h : inOk b = true) : low1 b = b := by
  simp [inOk, lcOk, dgOk] at h
  unfold low1
  rw [if_neg (by omega)]

theorem idIs_parts {l : List UInt8} (h : idIs l = true) : 1 ≤ l.length ∧ l.length ≤ 16 ∧ lcOk (l.getD 0 0) = true ∧ l.all inOk = true := by
  unfold idIs at h
  simp only [Bool.and_eq_true, decide_eq_true_eq] at h
  exact ⟨h.1, h.2.1, h.2.2.1, h.2.2.2⟩

theorem idIs_mk {l : List UInt8} (h1 : 1 ≤ l.length) (h2 : l.length ≤ 16) (h3 : lcOk (l.getD 0 0) = true) (h4 : l.all inOk = true) : idIs l = true := by
  unfold idIs
  simp only [Bool.and_eq_true, decide_eq_true_eq]
  exact ⟨h1, h2, h3, h4⟩

theorem idLow_len (l : List UInt8) : (idLow l).length = l.length := by simp [idLow]

theorem idLow_same {l : List UInt8} (h : l.all inOk = true) : idLow l = l := by
  unfold idLow
  have e : l.map low1 = l.map id := List.map_congr_left (fun b hb => low1_same (List.all_eq_true.1 h b hb))
  rw [e, List.map_id]

theorem idIs_low {l : List UInt8} (h : idIs l = true) : idLow l = l := idLow_same (idIs_parts h).2.2.2

theorem idFold_name {l : List UInt8} (h : idIs l = true) : idFold l = (l, true) := by
  unfold idFold
  rw [idIs_low h, if_pos h]

theorem idIs_long {l : List UInt8} (h : 16 < l.length) : idIs l = false := by
  rw [Bool.eq_false_iff]
  intro h'
  have := (idIs_parts h').2.1
  omega

theorem idFold_long {l : List UInt8} (h : 16 < l.length) : idFold l = ([], false) := by
  unfold idFold
  rw [if_neg (by rw [idIs_long (by rw [idLow_len]; exact h)]; decide)]

theorem idFold_cases (l : List UInt8) : (idFold l = (idLow l, true) ∧ idIs (idLow l) = true) ∨ (idFold l = ([], false) ∧ idIs (idLow l) = false ∧ idIs l = false) := by
  unfold idFold
  by_cases h : idIs (idLow l) = true
  · rw [if_pos h]; exact .inl ⟨rfl, h⟩
  · rw [if_neg h]
    refine .inr ⟨rfl, by simpa using h, ?_⟩
    rw [Bool.eq_false_iff]
    intro h'
    rw [idIs_low h'] at h
    exact h h'

/-- A byte that no name has. -/
theorem idIs_high {l : List UInt8} {b : UInt8} (hb : b ∈ l) (h : 128 ≤ b.toNat) : idIs l = false := by
  rw [Bool.eq_false_iff]
  intro h'
  have := inOk_lt (List.all_eq_true.1 (idIs_parts h').2.2.2 b hb)
  omega

theorem low1_high {b : UInt8} (h : 128 ≤ b.toNat) : low1 b = b := by
  unfold low1
  rw [if_neg (by omega)]

theorem idFold_high {l : List UInt8} {b : UInt8} (hb : b ∈ l) (h : 128 ≤ b.toNat) : idFold l = ([], false) := by
  unfold idFold
  rw [if_neg (by
    rw [idIs_high (l := idLow l) (b := b) (by
      unfold idLow
      exact List.mem_map.2 ⟨b, hb, low1_high h⟩) h]
    decide)]

/-- Capital letters made small ones, and the other way round. -/
theorem low1_toggle (b : UInt8) : (97 ≤ b.toNat ∧ b.toNat ≤ 122 → low1 (u8of (b.toNat - 32)) = low1 b) ∧ (65 ≤ b.toNat ∧ b.toNat ≤ 90 → low1 (u8of (b.toNat + 32)) = low1 b) := by
  have hb := b.toNat_lt
  constructor
  · intro h
    unfold low1
    rw [u8of_toNat (by omega), if_pos (by omega), if_neg (by omega), show b.toNat - 32 + 32 = b.toNat by omega, u8of_of_toNat]
  · intro h
    unfold low1
    rw [u8of_toNat (by omega), if_neg (by omega), if_pos (by omega)]

theorem idLow_set {l : List UInt8} {k : Nat} {c : UInt8} (hk : k < l.length) (h : low1 c = low1 (l.getD k 0)) : idLow (l.set k c) = idLow l := by
  unfold idLow
  rw [List.map_set, h]
  apply List.ext_getElem
  · simp
  · intro i h1 h2
    rw [List.getElem_set]
    split
    · next e => subst e; simp [List.getD, List.getElem?_eq_getElem hk]
    · rfl

theorem idFold_low {a b : List UInt8} (h : idLow a = idLow b) : idFold a = idFold b := by
  unfold idFold
  rw [h]

/-- What is put is taken. -/
theorem idTake_put {t : List UInt8} (h : idIs t = true) (r : List UInt8) : idTake ((idPut t).1 ++ r) 0 = (t, (idPut t).1.length, 0) := by
  have hl := (idIs_parts h).2.1
  have hp : idPut t = (vput t.length ++ t, true) := by unfold idPut; rw [if_pos h]
  have e : vtake ((idPut t).1 ++ r) 0 16 = (t, (idPut t).1.length, 0) := by
    have := vtake_text [] t r 16 (by omega) (by omega)
    rw [hp]
    simpa using this
  unfold idTake
  rw [e]
  simp [h]

/-! ### The order of names -/

def idCmp (a b : List UInt8) : Int := if a.length < b.length then -1 else if b.length < a.length then 1 else compareBytes a b

def idLess (a b : List UInt8) : Bool := decide (idCmp a b < 0)

theorem cb_swap : ∀ a b : List UInt8, compareBytes b a = - compareBytes a b
  | [], [] => rfl
  | [], _ :: _ => rfl
  | _ :: _, [] => rfl
  | a :: xs, b :: ys => by
    unfold compareBytes
    by_cases h1 : a < b
    · have h2 : ¬ b < a := fun h => by rw [UInt8.lt_iff_toNat_lt] at *; omega
      rw [if_pos h1, if_neg h2, if_pos h1]; rfl
    · rw [if_neg h1]
      by_cases h2 : b < a
      · rw [if_pos h2, if_neg h1, if_pos h2]
      · rw [if_neg h2, if_neg h2, if_neg h1]
        exact cb_swap xs ys

theorem cb_zero : ∀ {a b : List UInt8}, compareBytes a b = 0 → a = b
  | [], [], _ => rfl
  | [], _ :: _, h => by simp [compareBytes] at h
  | _ :: _, [], h => by simp [compareBytes] at h
  | a :: xs, b :: ys, h => by
    unfold compareBytes at h
    by_cases h1 : a < b
    · rw [if_pos h1] at h; simp at h
    · rw [if_neg h1] at h
      by_cases h2 : b < a
      · rw [if_pos h2] at h; simp at h
      · rw [if_neg h2] at h
        have e : a = b := by
          rw [UInt8.lt_iff_toNat_lt] at h1 h2
          exact UInt8.toNat_inj.1 (by omega)
        rw [e, cb_zero h]

theorem cb_self : ∀ a : List UInt8, compareBytes a a = 0
  | [] => rfl
  | a :: xs => by
    unfold compareBytes
    have h : ¬ a < a := fun h => by rw [UInt8.lt_iff_toNat_lt] at h; omega
    rw [if_neg h, if_neg h]
    exact cb_self xs

theorem cb_trans : ∀ {a b c : List UInt8}, compareBytes a b ≤ 0 → compareBytes b c ≤ 0 → compareBytes a c ≤ 0 ∧ (compareBytes a b < 0 ∨ compareBytes b c < 0 → compareBytes a c < 0)
  | [], [], c, _, h2 => ⟨h2, fun h => by
      rcases h with h | h
      · simp [compareBytes] at h
      · exact h⟩
  | [], _ :: _, [], _, h2 => by simp [compareBytes] at h2
  | [], _ :: _, _ :: _, _, _ => by simp [compareBytes]
  | _ :: _, [], _, h1, _ => by simp [compareBytes] at h1
  | _ :: _, _ :: _, [], _, h2 => by simp [compareBytes] at h2
  | a :: xs, b :: ys, c :: zs, h1, h2 => by
    unfold compareBytes at h1 h2 ⊢
    simp only [UInt8.lt_iff_toNat_lt] at h1 h2 ⊢
    by_cases p1 : a.toNat < b.toNat
    · by_cases p2 : b.toNat < c.toNat
      · rw [if_pos (show a.toNat < c.toNat by omega)]; simp
      · rw [if_neg p2] at h2
        by_cases p3 : c.toNat < b.toNat
        · rw [if_pos p3] at h2; simp at h2
        · rw [if_pos (show a.toNat < c.toNat by omega)]; simp
    · rw [if_neg p1] at h1 ⊢
      by_cases p2 : b.toNat < a.toNat
      · rw [if_pos p2] at h1; simp at h1
      · rw [if_neg p2] at h1 ⊢
        by_cases p3 : b.toNat < c.toNat
        · rw [if_pos (show a.toNat < c.toNat by omega)]; simp
        · rw [if_neg p3] at h2 ⊢
          by_cases p4 : c.toNat < b.toNat
          · rw [if_pos p4] at h2; simp at h2
          · rw [if_neg p4] at h2 ⊢
            rw [if_neg (show ¬ a.toNat < c.toNat by omega), if_neg (show ¬ c.toNat < a.toNat by omega)]
            exact cb_trans h1 h2

theorem idCmp_swap (a b : List UInt8) : idCmp b a = - idCmp a b := by
  unfold idCmp
  by_cases h1 : a.length < b.length
  · rw [if_neg (by omega), if_pos h1, if_pos h1]; rfl
  · by_cases h2 : b.length < a.length
    · rw [if_pos h2, if_neg h1, if_pos h2]
    · rw [if_neg h2, if_neg h1, if_neg h1, if_neg h2]
      exact cb_swap a b

theorem idCmp_zero {a b : List UInt8} (h : idCmp a b = 0) : a = b := by
  unfold idCmp at h
  by_cases h1 : a.length < b.length
  · rw [if_pos h1] at h; simp at h
  · rw [if_neg h1] at h
    by_cases h2 : b.length < a.length
    · rw [if_pos h2] at h; simp at h
    · rw [if_neg h2] at h
      exact cb_zero h

theorem idCmp_self (a : List UInt8) : idCmp a a = 0 := by
  unfold idCmp
  rw [if_neg (by omega), if_neg (by omega)]
  exact cb_self a

theorem idCmp_trans {a b c : List UInt8} (h1 : idCmp a b ≤ 0) (h2 : idCmp b c ≤ 0) : idCmp a c ≤ 0 ∧ (idCmp a b < 0 ∨ idCmp b c < 0 → idCmp a c < 0) := by
  unfold idCmp at h1 h2 ⊢
  by_cases p1 : a.length < b.length
  · by_cases p3 : c.length < b.length
    · rw [if_neg (by omega), if_pos p3] at h2; simp at h2
    · rw [if_pos (show a.length < c.length by omega)]; simp
  · rw [if_neg p1] at h1 ⊢
    by_cases p2 : b.length < a.length
    · rw [if_pos p2] at h1; simp at h1
    · rw [if_neg p2] at h1 ⊢
      by_cases p3 : b.length < c.length
      · rw [if_pos (show a.length < c.length by omega)]; simp
      · rw [if_neg p3] at h2 ⊢
        by_cases p4 : c.length < b.length
        · rw [if_pos p4] at h2; simp at h2
        · rw [if_neg p4] at h2 ⊢
          rw [if_neg (show ¬ a.length < c.length by omega), if_neg (show ¬ c.length < a.length by omega)]
          exact cb_trans h1 h2

theorem idLess_trans {a b c : List UInt8} (h1 : idLess a b = true) (h2 : idLess b c = true) : idLess a c = true := by
  unfold idLess at *
  simp only [decide_eq_true_eq] at *
  exact (idCmp_trans (by omega) (by omega)).2 (.inl h1)

theorem idLess_irrefl (a : List UInt8) : idLess a a = false := by
  unfold idLess
  rw [idCmp_self]
  rfl

/-- Just one of the three. -/
theorem idLess_tri (a b : List UInt8) : (idLess a b = true ∧ idLess b a = false ∧ ¬ a = b) ∨ (idLess a b = false ∧ idLess b a = true ∧ ¬ a = b) ∨ (idLess a b = false ∧ idLess b a = false ∧ a = b) := by
  have hs := idCmp_swap a b
  by_cases h0 : idCmp a b = 0
  · have e := idCmp_zero h0
    subst e
    exact .inr (.inr ⟨idLess_irrefl _, idLess_irrefl _, rfl⟩)
  · have hne : ¬ a = b := fun e => h0 (by rw [e]; exact idCmp_self b)
    unfold idLess
    by_cases h : idCmp a b < 0
    · exact .inl ⟨by simpa using h, by simp; omega, hne⟩
    · exact .inr (.inl ⟨by simpa using h, by simp; omega, hne⟩)

theorem idSWO : SWO (ltOf idCmp) where
  irrefl x := idLess_irrefl x
  trans x y z h1 h2 := idLess_trans h1 h2
  ntrans x y z h1 h2 := by
    unfold ltOf at *
    have s1 := idCmp_swap x y
    have s2 := idCmp_swap y z
    have s3 := idCmp_swap x z
    simp only [decide_eq_false_iff_not] at *
    have := (idCmp_trans (a := z) (b := y) (c := x) (by omega) (by omega)).1
    omega

theorem idTot (x y : List UInt8) (h1 : ltOf idCmp x y = false) (h2 : ltOf idCmp y x = false) : x = y := by
  have s := idCmp_swap x y
  unfold ltOf at h1 h2
  simp only [decide_eq_false_iff_not] at h1 h2
  exact idCmp_zero (by omega)

/-- The document's own word for it. -/
theorem bytesLess_cb : ∀ a b : List UInt8, Op.bytesLess a b = decide (compareBytes a b < 0)
  | [], [] => rfl
  | [], _ :: _ => rfl
  | _ :: _, [] => rfl
  | a :: xs, b :: ys => by
    unfold Op.bytesLess compareBytes
    by_cases h1 : a < b
    · simp [h1]
    · by_cases h2 : b < a
      · have : ¬ a = b := fun e => h1 (by rw [e] at h2 ⊢; exact h2)
        simp [h1, h2, this]
      · have e : a = b := by
          rw [UInt8.lt_iff_toNat_lt] at h1 h2
          exact UInt8.toNat_inj.1 (by omega)
        rw [if_neg h1, if_neg h2]
        subst e
        simp [bytesLess_cb xs ys]

theorem idLess_doc (a b : List UInt8) : idLess a b = (decide (a.length < b.length) || (decide (a.length = b.length) && Op.bytesLess a b)) := by
  unfold idLess idCmp
  rw [bytesLess_cb]
  by_cases h1 : a.length < b.length
  · simp [h1]
  · by_cases h2 : b.length < a.length
    · have : ¬ a.length = b.length := by omega
      rw [if_neg h1, if_pos h2]
      simp [h1, this]
    · have : a.length = b.length := by omega
      rw [if_neg h1, if_neg h2]
      simp [this]

/-! ### Lists merged -/

/-- By Less, each once. -/
def Rising (l : List (List UInt8)) : Prop := l.Pairwise fun x y => idLess x y = true

theorem rising_unique : ∀ {a b : List (List UInt8)}, Rising a → Rising b → (∀ x, x ∈ a ↔ x ∈ b) → a = b
  | [], [], _, _, _ => rfl
  | [], y :: b, _, _, h => by have := (h y).2 (by simp); simp at this
  | x :: a, [], _, _, h => by have := (h x).1 (by simp); simp at this
  | x :: a, y :: b, ha, hb, h => by
    obtain ⟨ha1, ha2⟩ := List.pairwise_cons.1 ha
    obtain ⟨hb1, hb2⟩ := List.pairwise_cons.1 hb
    have e : x = y := by
      have h1 := (h x).1 (by simp)
      have h2 := (h y).2 (by simp)
      rcases List.mem_cons.1 h1 with e | h1
      · exact e
      · rcases List.mem_cons.1 h2 with e | h2
        · exact e.symm
        · have p := hb1 x h1
          have q := ha1 y h2
          have := idLess_trans p q
          rw [idLess_irrefl] at this
          cases this
    subst e
    have hx : ∀ {l : List (List UInt8)}, (∀ z ∈ l, idLess x z = true) → x ∉ l := fun hl hm => by
      have := hl x hm
      rw [idLess_irrefl] at this
      cases this
    have : a = b := rising_unique ha2 hb2 (fun z => by
      have hz := h z
      simp only [List.mem_cons] at hz
      constructor
      · intro hm
        rcases hz.1 (.inr hm) with e | h'
        · subst e; exact absurd hm (hx ha1)
        · exact h'
      · intro hm
        rcases hz.2 (.inr hm) with e | h'
        · subst e; exact absurd hm (hx hb1)
        · exact h')
    rw [this]

/-- A text laid into a list by Less, once. -/
def ins (x : List UInt8) : List (List UInt8) → List (List UInt8)
  | [] => [x]
  | y :: l => if idLess y x = true then y :: ins x l else if y = x then y :: l else x :: y :: l

def mrg (a : List (List UInt8)) : List (List UInt8) := a.foldl (fun out x => ins x out) []

theorem ins_mem (x z : List UInt8) : ∀ l, z ∈ ins x l ↔ z = x ∨ z ∈ l
  | [] => by simp [ins]
  | y :: l => by
    unfold ins
    by_cases h : idLess y x = true
    · rw [if_pos h]
      simp only [List.mem_cons, ins_mem x z l]
      constructor
      · rintro (h | h | h) <;> simp [h]
      · rintro (h | h | h) <;> simp [h]
    · rw [if_neg h]
      by_cases e : y = x
      · rw [if_pos e]
        subst e
        simp only [List.mem_cons]
        constructor
        · intro h; exact .inr h
        · rintro (h | h)
          · exact .inl h
          · exact h
      · rw [if_neg e]
        simp only [List.mem_cons]

theorem ins_rising (x : List UInt8) : ∀ l, Rising l → Rising (ins x l)
  | [], _ => by simp [ins, Rising]
  | y :: l, h => by
    obtain ⟨h1, h2⟩ := List.pairwise_cons.1 h
    unfold ins
    by_cases hl : idLess y x = true
    · rw [if_pos hl]
      refine List.pairwise_cons.2 ⟨fun z hz => ?_, ins_rising x l h2⟩
      rcases (ins_mem x z l).1 hz with e | hz
      · subst e; exact hl
      · exact h1 z hz
    · rw [if_neg hl]
      by_cases e : y = x
      · rw [if_pos e]; exact h
      · rw [if_neg e]
        have hxy : idLess x y = true := by
          rcases idLess_tri y x with ⟨p, _, _⟩ | ⟨_, p, _⟩ | ⟨_, _, p⟩
          · exact absurd p hl
          · exact p
          · exact absurd p e
        refine List.pairwise_cons.2 ⟨fun z hz => ?_, h⟩
        rcases List.mem_cons.1 hz with e | hz
        · subst e; exact hxy
        · exact idLess_trans hxy (h1 z hz)

theorem foldl_ins (l : List (List UInt8)) : ∀ acc, Rising acc → Rising (l.foldl (fun out x => ins x out) acc) ∧ ∀ z, z ∈ l.foldl (fun out x => ins x out) acc ↔ z ∈ acc ∨ z ∈ l := by
  induction l with
  | nil => intro acc h; exact ⟨h, fun z => by simp⟩
  | cons x l ih =>
    intro acc h
    have := ih (ins x acc) (ins_rising x acc h)
    refine ⟨this.1, fun z => ?_⟩
    rw [List.foldl_cons, this.2 z, ins_mem]
    simp only [List.mem_cons]
    constructor
    · rintro ((h | h) | h) <;> simp [h]
    · rintro (h | h | h) <;> simp [h]

theorem mrg_rising (l : List (List UInt8)) : Rising (mrg l) := (foldl_ins l [] (by simp [Rising])).1
theorem mrg_mem (l : List (List UInt8)) (z : List UInt8) : z ∈ mrg l ↔ z ∈ l := by
  have := (foldl_ins l [] (by simp [Rising])).2 z
  unfold mrg
  simpa using this

theorem mrg_unique {a l : List (List UInt8)} (h : Rising a) (hm : ∀ x, x ∈ a ↔ x ∈ l) : a = mrg l := rising_unique h (mrg_rising l) (fun x => (hm x).trans (mrg_mem l x).symm)

/-- A list of texts, none ahead of the one that it stands behind: each once. -/
theorem compact_rising (d : Array (List UInt8)) (hs : d.toList.Pairwise fun x y => idLess y x = false) : Rising (compactUpTo d d.size) ∧ ∀ x, x ∈ compactUpTo d d.size ↔ x ∈ d.toList := by
  have key : ∀ m, m ≤ d.size → Rising (compactUpTo d m) ∧ (∀ x, x ∈ compactUpTo d m ↔ ∃ j, j < m ∧ d[j]! = x) := by
    intro m
    induction m with
    | zero => intro _; exact ⟨by simp [compactUpTo, Rising], fun x => by simp [compactUpTo]⟩
    | succ m ih =>
      intro hm
      obtain ⟨h1, h2⟩ := ih (by omega)
      have e : compactUpTo d (m + 1) = compactUpTo d m ++ if keeps d m = true then [d[m]!] else [] := by
        unfold compactUpTo
        rw [List.range_succ, List.filter_append, List.map_append]
        by_cases hk : keeps d m = true <;> simp [hk]
      have hle : ∀ i j, i ≤ j → j < d.size → idLess d[j]! d[i]! = false := by
        intro i j hij hj
        by_cases e : i = j
        · subst e; exact idLess_irrefl _
        · have := List.pairwise_iff_getElem.1 hs i j (by simpa using (by omega : i < d.size)) (by simpa using hj) (by omega)
          rw [getElem!_pos d i (by omega), getElem!_pos d j hj]
          simpa using this
      by_cases hk : keeps d m = true
      · rw [e, if_pos hk]
        have hlt : ∀ i, i < m → idLess d[i]! d[m]! = true := by
          intro i hi
          have hm0 : ¬ m = 0 := by omega
          have hne : d[m]! ≠ d[m - 1]! := by
            unfold keeps at hk
            simp only [decide_eq_true_eq] at hk
            rcases hk with h | h
            · exact absurd h hm0
            · exact h
          have a := hle i (m - 1) (by omega) (by omega)
          have b := hle (m - 1) m (by omega) (by omega)
          have c := hle i m (by omega) (by omega)
          rcases idLess_tri d[i]! d[m]! with ⟨p, _, _⟩ | ⟨_, p, _⟩ | ⟨_, _, p⟩
          · exact p
          · rw [c] at p; cases p
          · exfalso
            rcases idLess_tri d[m - 1]! d[m]! with ⟨q, _, _⟩ | ⟨_, q, _⟩ | ⟨_, _, q⟩
            · rw [← p, a] at q; cases q
            · rw [b] at q; cases q
            · exact hne q.symm
        refine ⟨List.pairwise_append.2 ⟨h1, by simp, fun x hx y hy => ?_⟩, fun x => ?_⟩
        · obtain ⟨j, hj, rfl⟩ := (h2 x).1 hx
          simp only [List.mem_singleton] at hy
          subst hy
          exact hlt j hj
        · rw [List.mem_append, h2 x]
          simp only [List.mem_singleton]
          constructor
          · rintro (⟨j, hj, h⟩ | h)
            · exact ⟨j, by omega, h⟩
            · exact ⟨m, by omega, h.symm⟩
          · rintro ⟨j, hj, h⟩
            by_cases hjm : j = m
            · subst hjm; exact .inr h.symm
            · exact .inl ⟨j, by omega, h⟩
      · rw [e, if_neg hk, List.append_nil]
        refine ⟨h1, fun x => ?_⟩
        rw [h2 x]
        have hm0 : ¬ m = 0 ∧ d[m]! = d[m - 1]! := by
          unfold keeps at hk
          simp only [decide_eq_true_eq, not_or, ne_eq, Decidable.not_not] at hk
          exact hk
        constructor
        · rintro ⟨j, hj, h⟩
          exact ⟨j, by omega, h⟩
        · rintro ⟨j, hj, h⟩
          by_cases hjm : j = m
          · subst hjm; exact ⟨j - 1, by omega, by rw [← hm0.2]; exact h⟩
          · exact ⟨j, by omega, h⟩
  obtain ⟨h1, h2⟩ := key d.size (Nat.le_refl _)
  refine ⟨h1, fun x => ?_⟩
  rw [h2 x]
  constructor
  · rintro ⟨j, hj, rfl⟩
    rw [getElem!_pos d j hj]
    simp
  · intro hx
    obtain ⟨j, hj, h⟩ := List.mem_iff_getElem.1 hx
    have hj' : j < d.size := by simpa using hj
    exact ⟨j, hj', by rw [getElem!_pos d j hj']; simpa using h⟩

/-- Sorted, and each once: the lists merged. -/
theorem sort_compact (l : List (List UInt8)) : compactUpTo (l.mergeSort fun x y => !(ltOf idCmp) y x).toArray (l.mergeSort fun x y => !(ltOf idCmp) y x).toArray.size = mrg l := by
  have hp : (l.mergeSort fun x y => !(ltOf idCmp) y x).Pairwise fun x y => (!(ltOf idCmp) y x) = true := by
    apply List.pairwise_mergeSort
    · intro a b c h1 h2
      simp only [Bool.not_eq_true'] at *
      exact idSWO.ntrans _ _ _ h2 h1
    · intro a b
      simp only [Bool.or_eq_true, Bool.not_eq_true']
      rcases idLess_tri a b with ⟨_, p, _⟩ | ⟨p, _, _⟩ | ⟨p, _, _⟩
      · exact .inl p
      · exact .inr p
      · exact .inr p
  have h := compact_rising (l.mergeSort fun x y => !(ltOf idCmp) y x).toArray (by
    refine List.Pairwise.imp (fun {x y} h => ?_) hp
    show ltOf idCmp y x = false
    simpa using h)
  exact mrg_unique h.1 (fun x => by rw [h.2 x]; simp)

end Go.Proofs.Ytfkadkopolenbaa

end

section

/-
  CONTRACTS OF GO'S OWN LIBRARY AT THIS PROGRAM, LAID WITHOUT A WALK: the tables of numbers and one application each (strings.Builder, strings.Compare, cmp.Compare, slices.Compact, slices.SortFunc).
-/
namespace Go.Proofs.Ytfkadkopolenbaa
open Go.Shelf Go.RowKit

def Try.lays106_ren : Go.Shelf.Ren := ⟨fun | 106 => 114 | 213 => 128 | 265 => 134 | n => n, fun | 9 => 9 | 3 => 3 | n => n, fun | n => n⟩

theorem Try.lays106 : Go.Proofs.Lays.n106 Try.prog Try.lays106_ren := {
  mixed := by kernel_rfl
  f106 := Try.func114.trans (congrArg some (by kernel_rfl))
  f213 := Try.func128.trans (congrArg some (by kernel_rfl))
  f265 := Try.func134.trans (congrArg some (by kernel_rfl))
  t3 := Try.underlying3
  a3 := Try.isAgg3
  z3 := Try.sizeOf3
  v3 := Try.zeroValue3
  t9 := Try.underlying9
  a9 := Try.isAgg9
  z9 := Try.sizeOf9
  v9 := Try.zeroValue9 }

open Go.RowKit in
theorem Try.strings_Compare (a b : ByteArray) (w : World) :
    Calls Try.prog 114 #[.string a, .string b] w fun e w' => e = .returned (.int .i64 (Lib.compareBytes a.data.toList b.data.toList)) ∧ w' = w := Any.strings_Compare Try.lays106 a b w

def Try.lays122_ren : Go.Shelf.Ren := ⟨fun | 122 => 113 | 215 => 127 | n => n, fun | 3 => 3 | 4 => 4 | n => n, fun | n => n⟩

theorem Try.lays122 : Go.Proofs.Lays.n122 Try.prog Try.lays122_ren := {
  mixed := by kernel_rfl
  f122 := Try.func113.trans (congrArg some (by kernel_rfl))
  f215 := Try.func127.trans (congrArg some (by kernel_rfl))
  t3 := Try.underlying3
  a3 := Try.isAgg3
  z3 := Try.sizeOf3
  v3 := Try.zeroValue3
  t4 := Try.underlying4
  a4 := Try.isAgg4
  z4 := Try.sizeOf4
  v4 := Try.zeroValue4 }

open Go.RowKit in
theorem Try.cmp_Compare_int (x y : Int) (w : World) :
    Calls Try.prog 113 #[.int .i64 x, .int .i64 y] w fun e w' => e = .returned (.int .i64 (Lib.compareInt x y)) ∧ w' = w := Any.cmp_Compare_int Try.lays122 x y w

def Try.lays194_ren : Go.Shelf.Ren := ⟨fun | 194 => 65 | n => n, fun | 31 => 29 | 9 => 9 | 3 => 3 | 4 => 4 | 0 => 0 | n => n, fun | n => n⟩

theorem Try.lays194 : Go.Proofs.Lays.n194 Try.prog Try.lays194_ren := {
  mixed := by kernel_rfl
  f194 := Try.func65.trans (congrArg some (by kernel_rfl))
  t0 := Try.underlying0
  a0 := Try.isAgg0
  z0 := Try.sizeOf0
  v0 := Try.zeroValue0
  t3 := Try.underlying3
  a3 := Try.isAgg3
  z3 := Try.sizeOf3
  v3 := Try.zeroValue3
  t4 := Try.underlying4
  a4 := Try.isAgg4
  z4 := Try.sizeOf4
  v4 := Try.zeroValue4
  t9 := Try.underlying9
  a9 := Try.isAgg9
  z9 := Try.sizeOf9
  v9 := Try.zeroValue9
  t31 := Try.underlying29
  a31 := Try.isAgg29
  z31 := Try.sizeOf29
  v31 := Try.zeroValue29 }

open Go.RowKit Go.Lib Go.Sort in
theorem Try.slices_Compact_string_empty (a : Option Addr) (cap : Nat) (w : World) :
    Calls Try.prog 65 #[.slice a 0 cap] w fun e w' => e = .returned (.slice a 0 cap) ∧ w' = w := Any.slices_Compact_string_empty Try.lays194 a cap w

def Try.laysSlE43_f37_ren : Go.Shelf.Ren := ⟨fun | 43 => 65 | n => n, fun | 22 => 29 | 23 => 9 | 3 => 3 | 4 => 4 | 0 => 0 | n => n, fun | n => n⟩

theorem Try.laysSlE43_f37 : Go.Proofs.SlLaysE.n43 Try.prog Try.laysSlE43_f37_ren := {
  mixed := by kernel_rfl
  f43 := ⟨Try.f65.name, by decide, Try.func65.trans (congrArg some (by kernel_rfl))⟩
  t0 := Try.underlying0
  a0 := Try.isAgg0
  z0 := Try.sizeOf0
  v0 := Try.zeroValue0
  t3 := Try.underlying3
  a3 := Try.isAgg3
  z3 := Try.sizeOf3
  v3 := Try.zeroValue3
  t4 := Try.underlying4
  a4 := Try.isAgg4
  z4 := Try.sizeOf4
  v4 := Try.zeroValue4
  t22 := Try.underlying29
  a22 := Try.isAgg29
  z22 := Try.sizeOf29
  v22 := Try.zeroValue29
  a23 := Try.isAgg9
  z23 := Try.sizeOf9 }

open Go.RowKit Go.Lib Go.Sort in
theorem Try.slices_Compact {α : Type} [Inhabited α] [DecidableEq α] (enc : α → Value) (hO : OneCell enc) (heq : EqlAt Try.prog 9 enc (fun x y => decide (x = y))) (hne : NeqAt Try.prog 9 enc (fun x y => decide (x = y))) (zr : α) (v23 : ∀ w, (zeroValue 9).run Try.prog w = .ok (enc zr) w) (blk off cap : Nat) (d : Array α) (w : World) (hH : Holds enc w blk off d) (hsz : d.size ≤ 9223372036854775807) (hcap : d.size ≤ cap) :
    Calls Try.prog 65 #[.slice (some ⟨blk, off, none⟩) d.size cap] w fun e w' => e = .returned (.slice (some ⟨blk, off, none⟩) (compactUpTo d d.size).length cap) ∧ ∃ q, w' = putRow enc (Sort.ahead w q) blk off (compactUpTo d d.size ++ List.replicate (d.size - (compactUpTo d d.size).length) zr).toArray := AnyE.slices_Compact Try.laysSlE43_f37 enc hO heq hne zr v23 blk off cap d w hH hsz hcap

def Try.laysSlF6_f36_ren : Go.Shelf.Ren := ⟨fun | 6 => 105 | 15 => 111 | 14 => 110 | 28 => 125 | 29 => 126 | 20 => 117 | 21 => 118 | 22 => 119 | 23 => 120 | 24 => 121 | 25 => 122 | 26 => 123 | 27 => 124 | 46 => 129 | 47 => 130 | 48 => 131 | 49 => 132 | 50 => 133 | 57 => 135 | n => n, fun | 22 => 29 | 24 => 9 | 25 => 106 | 3 => 3 | 39 => 122 | 0 => 0 | 53 => 138 | 55 => 140 | 4 => 4 | 46 => 132 | 45 => 131 | 50 => 73 | 5 => 5 | 9 => 9 | 66 => 142 | 70 => 146 | 76 => 148 | 77 => 149 | n => n, fun | n => n⟩

theorem Try.laysSlF6_f36 : Go.Proofs.SlLaysF.n6 Try.prog Try.laysSlF6_f36_ren := {
  mixed := by kernel_rfl
  f6 := ⟨Try.f105.name, by decide, Try.func105.trans (congrArg some (by kernel_rfl))⟩
  f14 := ⟨Try.f110.name, by decide, Try.func110.trans (congrArg some (by kernel_rfl))⟩
  f15 := Try.func111.trans (congrArg some (by kernel_rfl))
  f20 := ⟨Try.f117.name, by decide, Try.func117.trans (congrArg some (by kernel_rfl))⟩
  f21 := ⟨Try.f118.name, by decide, Try.func118.trans (congrArg some (by kernel_rfl))⟩
  f22 := ⟨Try.f119.name, by decide, Try.func119.trans (congrArg some (by kernel_rfl))⟩
  f23 := ⟨Try.f120.name, by decide, Try.func120.trans (congrArg some (by kernel_rfl))⟩
  f24 := ⟨Try.f121.name, by decide, Try.func121.trans (congrArg some (by kernel_rfl))⟩
  f25 := ⟨Try.f122.name, by decide, Try.func122.trans (congrArg some (by kernel_rfl))⟩
  f26 := ⟨Try.f123.name, by decide, Try.func123.trans (congrArg some (by kernel_rfl))⟩
  f27 := ⟨Try.f124.name, by decide, Try.func124.trans (congrArg some (by kernel_rfl))⟩
  f28 := Try.func125.trans (congrArg some (by kernel_rfl))
  f29 := Try.func126.trans (congrArg some (by kernel_rfl))
  f46 := ⟨Try.f129.name, by decide, Try.func129.trans (congrArg some (by kernel_rfl))⟩
  f47 := Try.func130.trans (congrArg some (by kernel_rfl))
  f48 := Try.func131.trans (congrArg some (by kernel_rfl))
  f49 := ⟨Try.f132.name, by decide, Try.func132.trans (congrArg some (by kernel_rfl))⟩
  f50 := ⟨Try.f133.name, by decide, Try.func133.trans (congrArg some (by kernel_rfl))⟩
  f57 := ⟨Try.f135.name, by decide, Try.func135.trans (congrArg some (by kernel_rfl))⟩
  t0 := Try.underlying0
  a0 := Try.isAgg0
  z0 := Try.sizeOf0
  v0 := Try.zeroValue0
  t3 := Try.underlying3
  a3 := Try.isAgg3
  z3 := Try.sizeOf3
  v3 := Try.zeroValue3
  t4 := Try.underlying4
  a4 := Try.isAgg4
  z4 := Try.sizeOf4
  v4 := Try.zeroValue4
  t5 := Try.underlying5
  a5 := Try.isAgg5
  z5 := Try.sizeOf5
  v5 := Try.zeroValue5
  t9 := Try.underlying9
  a9 := Try.isAgg9
  z9 := Try.sizeOf9
  v9 := Try.zeroValue9
  t22 := Try.underlying29
  a22 := Try.isAgg29
  z22 := Try.sizeOf29
  v22 := Try.zeroValue29
  a24 := Try.isAgg9
  z24 := Try.sizeOf9
  t25 := Try.underlying106
  a25 := Try.isAgg106
  z25 := Try.sizeOf106
  v25 := Try.zeroValue106
  t39 := Try.underlying122
  a39 := Try.isAgg122
  z39 := Try.sizeOf122
  v39 := Try.zeroValue122
  t45 := Try.underlying131
  a45 := Try.isAgg131
  z45 := Try.sizeOf131
  v45 := Try.zeroValue131
  t46 := Try.underlying132
  a46 := Try.isAgg132
  z46 := Try.sizeOf132
  v46 := Try.zeroValue132
  t50 := Try.underlying73
  a50 := Try.isAgg73
  z50 := Try.sizeOf73
  v50 := Try.zeroValue73
  t53 := Try.underlying138
  a53 := Try.isAgg138
  z53 := Try.sizeOf138
  v53 := Try.zeroValue138
  t55 := Try.underlying140
  a55 := Try.isAgg140
  z55 := Try.sizeOf140
  v55 := Try.zeroValue140
  t66 := Try.underlying142
  a66 := Try.isAgg142
  z66 := Try.sizeOf142
  v66 := Try.zeroValue142
  t70 := Try.underlying146
  a70 := Try.isAgg146
  z70 := Try.sizeOf146
  v70 := Try.zeroValue146
  t76 := Try.underlying148
  a76 := Try.isAgg148
  z76 := Try.sizeOf148
  v76 := Try.zeroValue148
  t77 := Try.underlying149
  a77 := Try.isAgg149
  z77 := Try.sizeOf149
  v77 := Try.zeroValue149 }

def Try.laysSlF06_f36_ren : Go.Shelf.Ren := ⟨fun | 6 => 105 | 15 => 111 | 14 => 110 | 28 => 125 | 29 => 126 | 20 => 117 | 21 => 118 | 22 => 119 | 23 => 120 | 24 => 121 | 25 => 122 | 26 => 123 | 27 => 124 | 46 => 129 | 47 => 130 | 48 => 131 | 49 => 132 | 50 => 133 | 57 => 135 | n => n, fun | 22 => 29 | 24 => 9 | 25 => 106 | 3 => 3 | 39 => 122 | 0 => 0 | 53 => 138 | 55 => 140 | 4 => 4 | 46 => 132 | 45 => 131 | 50 => 73 | 5 => 5 | 9 => 9 | 66 => 142 | 70 => 146 | 76 => 148 | 77 => 149 | n => n, fun | n => n⟩

theorem Try.laysSlF06_f36 : Go.Proofs.SlLaysF0.n6 Try.prog Try.laysSlF06_f36_ren := {
  mixed := by kernel_rfl
  f6 := ⟨Try.f105.name, by decide, Try.func105.trans (congrArg some (by kernel_rfl))⟩
  f14 := ⟨Try.f110.name, by decide, Try.func110.trans (congrArg some (by kernel_rfl))⟩
  f15 := Try.func111.trans (congrArg some (by kernel_rfl))
  f20 := ⟨Try.f117.name, by decide, Try.func117.trans (congrArg some (by kernel_rfl))⟩
  f21 := ⟨Try.f118.name, by decide, Try.func118.trans (congrArg some (by kernel_rfl))⟩
  f22 := ⟨Try.f119.name, by decide, Try.func119.trans (congrArg some (by kernel_rfl))⟩
  f23 := ⟨Try.f120.name, by decide, Try.func120.trans (congrArg some (by kernel_rfl))⟩
  f24 := ⟨Try.f121.name, by decide, Try.func121.trans (congrArg some (by kernel_rfl))⟩
  f25 := ⟨Try.f122.name, by decide, Try.func122.trans (congrArg some (by kernel_rfl))⟩
  f26 := ⟨Try.f123.name, by decide, Try.func123.trans (congrArg some (by kernel_rfl))⟩
  f27 := ⟨Try.f124.name, by decide, Try.func124.trans (congrArg some (by kernel_rfl))⟩
  f28 := Try.func125.trans (congrArg some (by kernel_rfl))
  f29 := Try.func126.trans (congrArg some (by kernel_rfl))
  f46 := ⟨Try.f129.name, by decide, Try.func129.trans (congrArg some (by kernel_rfl))⟩
  f47 := Try.func130.trans (congrArg some (by kernel_rfl))
  f48 := Try.func131.trans (congrArg some (by kernel_rfl))
  f49 := ⟨Try.f132.name, by decide, Try.func132.trans (congrArg some (by kernel_rfl))⟩
  f50 := ⟨Try.f133.name, by decide, Try.func133.trans (congrArg some (by kernel_rfl))⟩
  f57 := ⟨Try.f135.name, by decide, Try.func135.trans (congrArg some (by kernel_rfl))⟩
  t0 := Try.underlying0
  a0 := Try.isAgg0
  z0 := Try.sizeOf0
  v0 := Try.zeroValue0
  t3 := Try.underlying3
  a3 := Try.isAgg3
  z3 := Try.sizeOf3
  v3 := Try.zeroValue3
  t4 := Try.underlying4
  a4 := Try.isAgg4
  z4 := Try.sizeOf4
  v4 := Try.zeroValue4
  t5 := Try.underlying5
  a5 := Try.isAgg5
  z5 := Try.sizeOf5
  v5 := Try.zeroValue5
  t9 := Try.underlying9
  a9 := Try.isAgg9
  z9 := Try.sizeOf9
  v9 := Try.zeroValue9
  t22 := Try.underlying29
  a22 := Try.isAgg29
  z22 := Try.sizeOf29
  v22 := Try.zeroValue29
  t25 := Try.underlying106
  a25 := Try.isAgg106
  z25 := Try.sizeOf106
  v25 := Try.zeroValue106
  t39 := Try.underlying122
  a39 := Try.isAgg122
  z39 := Try.sizeOf122
  v39 := Try.zeroValue122
  t45 := Try.underlying131
  a45 := Try.isAgg131
  z45 := Try.sizeOf131
  v45 := Try.zeroValue131
  t46 := Try.underlying132
  a46 := Try.isAgg132
  z46 := Try.sizeOf132
  v46 := Try.zeroValue132
  t50 := Try.underlying73
  a50 := Try.isAgg73
  z50 := Try.sizeOf73
  v50 := Try.zeroValue73
  t53 := Try.underlying138
  a53 := Try.isAgg138
  z53 := Try.sizeOf138
  v53 := Try.zeroValue138
  t55 := Try.underlying140
  a55 := Try.isAgg140
  z55 := Try.sizeOf140
  v55 := Try.zeroValue140
  t66 := Try.underlying142
  a66 := Try.isAgg142
  z66 := Try.sizeOf142
  v66 := Try.zeroValue142
  t70 := Try.underlying146
  a70 := Try.isAgg146
  z70 := Try.sizeOf146
  v70 := Try.zeroValue146
  t76 := Try.underlying148
  a76 := Try.isAgg148
  z76 := Try.sizeOf148
  v76 := Try.zeroValue148
  t77 := Try.underlying149
  a77 := Try.isAgg149
  z77 := Try.sizeOf149
  v77 := Try.zeroValue149 }

open Go.RowKit Go.Lib Go.Sort in
theorem Try.slices_SortFunc_none {α : Type} [Inhabited α] (p : Option Addr) (cap : Nat) (fv : Value) (w : World) :
    Calls Try.prog 105 #[.slice p 0 cap, fv] w fun e w' => e = .returned (.tuple #[]) ∧ w' = w := AnyF.slices_SortFunc_none Try.laysSlF06_f36 p cap fv w

open Go.RowKit Go.Lib Go.Sort in
theorem Try.slices_SortFunc_total {α : Type} [Inhabited α] (enc : α → Value) (h1 : OneCell enc) (cf : α → α → Int) (hO : SWO (ltOf cf)) (g : Nat) (cb : Array Value) (blk off cap : Nat) (d : Array α) (w : World) (eg : ∀ args w, (callFunc g args).run Try.prog w = .ok (.enter g args) w) (hcmp : CmpLays1 Try.prog g cb enc cf blk off d.size w) (hH : Holds enc w blk off d) (hblk : blk < w.heap.size) (hsz : d.size < 4611686018427387904) (hT : ∀ x y, (ltOf cf) x y = false → (ltOf cf) y x = false → x = y) :
    Calls Try.prog 105 #[.slice (some ⟨blk, off, none⟩) d.size cap, .func (.func g) #[] cb] w fun e w' =>
      e = .returned (.tuple #[]) ∧ ∃ n os, w' = sortWorld enc w blk off n (d.toList.mergeSort fun x y => !(ltOf cf) y x).toArray os := Any.slices_SortFunc_total Try.laysSlF6_f36 enc h1 cf hO g cb blk off cap d w eg hcmp hH hblk hsz hT

end Go.Proofs.Ytfkadkopolenbaa

end

section

/-
  THE CONTRACTS OF ident.compare, Less AND OF THE DOCUMENT'S ANSWER TO Less.
-/
namespace Go.Proofs.Ytfkadkopolenbaa
open Go.RowKit Go.Lib

theorem icmp (x y : Int) (w : World) : Calls Try.prog 113 #[.int .i64 x, .int .i64 y] w fun e w' => e = .returned (.int .i64 (compareInt x y)) ∧ w = w' :=
  (Try.cmp_Compare_int x y w).mono fun _ _ ⟨he, hw⟩ => ⟨he, hw.symm⟩

theorem scmp (a b : List UInt8) (w : World) : Calls Try.prog 114 #[.string ⟨a.toArray⟩, .string ⟨b.toArray⟩] w fun e w' => e = .returned (.int .i64 (compareBytes a b)) ∧ w = w' :=
  (Try.strings_Compare ⟨a.toArray⟩ ⟨b.toArray⟩ w).mono fun _ _ ⟨he, hw⟩ => ⟨by simpa using he, hw.symm⟩

/-- The first that is not nought. -/
def orI (x y : Int) : Int := if x = 0 then y else x

set_option maxHeartbeats 400000 in
set_option maxRecDepth 100000 in
theorem or_any (B : Nat) (x y : Int) (w : World) (k0 : w.cell? ⟨B, 0, none⟩ = some (.int .i64 x)) (k1 : w.cell? ⟨B, 1, none⟩ = some (.int .i64 y)) :
    Calls Try.prog 112 #[.slice (some ⟨B, 0, none⟩) 2 2] w fun e w' => e = .returned (.int .i64 (orI x y)) ∧ w = w' := by
  by_cases hx : x = 0
  · subst hx
    by_cases hy : y = 0
    · subst hy
      go_enter Try.func112, Try.ntmps112
      go_wp2_with fail
      refine wp_loop_rounds 3 ?_
      rw [rounds_succ]
      go_wp2_with fail
      rw [rounds_succ]
      go_wp2_with fail
      rw [rounds_succ]
      go_wp2_with fail
      go_ret
      exact ⟨rfl, rfl⟩
    · have t1 : (y != 0) = true := by simp [hy]
      clear hy
      go_enter Try.func112, Try.ntmps112
      go_wp2_with fail
      refine wp_loop_rounds 3 ?_
      rw [rounds_succ]
      go_wp2_with fail
      rw [rounds_succ]
      go_wp2_with fail
      go_ret
      exact ⟨rfl, rfl⟩
  · have t1 : (x != 0) = true := by simp [hx]
    have HX : Hid (orI x y = x) := if_neg hx
    clear hx
    go_enter Try.func112, Try.ntmps112
    go_wp2_with fail
    refine wp_loop_rounds 3 ?_
    rw [rounds_succ]
    go_wp2_with fail
    go_ret
    exact ⟨by rw [HX.out]; rfl, rfl⟩

theorem idCmp_or (a b : List UInt8) : idCmp a b = orI (compareInt a.length b.length) (compareBytes a b) := by
  unfold idCmp compareInt orI
  by_cases h1 : a.length < b.length
  · have : (a.length : Int) < b.length := by omega
    simp [h1, this]
  · by_cases h2 : b.length < a.length
    · have h1' : ¬ (a.length : Int) < b.length := by omega
      have h2' : (b.length : Int) < a.length := by omega
      simp [h1, h2, h1', h2']
    · have h1' : ¬ (a.length : Int) < b.length := by omega
      have h2' : ¬ (b.length : Int) < a.length := by omega
      simp [h1, h2, h1', h2']

set_option maxHeartbeats 400000 in
set_option maxRecDepth 100000 in
theorem compare_any (a b : List UInt8) (w : World) :
    Calls Try.prog 106 #[.string ⟨a.toArray⟩, .string ⟨b.toArray⟩] w fun e w' => e = .returned (.int .i64 (idCmp a b)) ∧ ∃ o, w' = w.alloc o := by
  have HI := Lib.hid (idCmp_or a b)
  have H1 := Lib.hid (icmp a.length b.length)
  have H2 := Lib.hid (scmp a b)
  obtain ⟨x, hx⟩ : ∃ x, compareInt a.length b.length = x := ⟨_, rfl⟩
  obtain ⟨y, hy⟩ : ∃ y, compareBytes a b = y := ⟨_, rfl⟩
  rw [hx] at H1 HI
  rw [hy] at H2 HI
  clear hx hy
  go_enter Try.func106, Try.ntmps106
  go_wp2_with fail
  refine (H1.out _).mono ?_
  rintro e w' ⟨rfl, rfl⟩
  go_wp2_with fail
  refine (H2.out _).mono ?_
  rintro e w' ⟨rfl, rfl⟩
  go_wp2_with fail
  refine (or_any _ x y _ (by simp) (by simp)).mono ?_
  rintro e w' ⟨rfl, rfl⟩
  go_wp2_with fail
  go_ret
  exact ⟨by rw [HI.out]; rfl, _, rfl⟩

theorem compare_eq (a b : List UInt8) {n : Int} (h : Hid (idCmp a b = n)) (w : World) :
    Calls Try.prog 106 #[.string ⟨a.toArray⟩, .string ⟨b.toArray⟩] w fun e w' => e = .returned (.int .i64 n) ∧ Below w.heap.size w w' := by
  have h1 := h.out
  subst h1
  exact (compare_any a b w).mono fun _ _ ⟨he, o, hw⟩ => ⟨he, by rw [hw]; exact (Below.refl _ _).alloc (Nat.le_refl _) _⟩

set_option maxHeartbeats 400000 in
set_option maxRecDepth 100000 in
theorem less_eq (a b : List UInt8) {r : Bool} (h : Hid (idLess a b = r)) (w : World) :
    Calls Try.prog 97 #[.string ⟨a.toArray⟩, .string ⟨b.toArray⟩] w fun e w' => e = .returned (.bool r) ∧ Below w.heap.size w w' := by
  obtain ⟨n, hn⟩ : ∃ n, Hid (idCmp a b = n) := ⟨_, rfl⟩
  have hr : Hid (decide (n < 0) = r) := by show _ = _; rw [← hn.out]; exact h.out
  go_enter Try.func97, Try.ntmps97
  go_wp2_with fail
  refine (compare_eq a b hn _).mono ?_
  rintro e w1 ⟨rfl, hb1⟩
  have B1 := Lib.hid hb1
  clear hb1
  go_wp2_with fail
  go_ret
  exact ⟨by rw [← hr.out]; rfl, B1.out⟩

set_option maxHeartbeats 400000 in
set_option maxRecDepth 100000 in
theorem rless_eq (a b : List UInt8) {r : Bool} (h : Hid (idLess a b = r)) (w : World) :
    Calls Try.prog 33 #[.string ⟨a.toArray⟩, .string ⟨b.toArray⟩] w fun e w' => e = .returned (.bool r) ∧ w = w' := by
  have hd := idLess_doc a b
  rw [h.out] at hd
  have HD := Lib.hid hd
  clear hd h
  by_cases h1 : a.length < b.length
  · have hr : Hid (r = true) := by show _ = _; rw [HD.out]; simp [h1]
    clear HD
    go_enter Try.func33, Try.ntmps33
    go_wp2_with fail
    go_ret
    exact ⟨by rw [hr.out]; rfl, rfl⟩
  · by_cases h2 : a.length = b.length
    · have hr : Hid (r = Op.bytesLess a b) := by show _ = _; rw [HD.out]; simp [h2]
      have t1 : ((a.length : Int) == (b.length : Int)) = true := by rw [h2]; simp
      have t2 : decide (a.length < b.length) = false := by simp; omega
      clear HD h1 h2
      go_enter Try.func33, Try.ntmps33
      go_wp2_with fail
      go_ret
      exact ⟨by rw [hr.out]; rfl, rfl⟩
    · have hr : Hid (r = false) := by show _ = _; rw [HD.out]; simp [h1, h2]
      have t1 : ((a.length : Int) == (b.length : Int)) = false := by simp; omega
      have t2 : decide (a.length < b.length) = false := by simp; omega
      clear HD h1 h2
      go_enter Try.func33, Try.ntmps33
      go_wp2_with fail
      go_ret
      exact ⟨by rw [hr.out]; rfl, rfl⟩

end Go.Proofs.Ytfkadkopolenbaa

end

section

/-
  THE CONTRACTS OF ident.Is (with isLetter, isInner), Put, Take AND OF THE DOCUMENT'S ANSWERS TO THEM.
-/
namespace Go.Proofs.Ytfkadkopolenbaa
open Go.RowKit

def runeLc (r : Int) : Bool := decide (97 ≤ r) && decide (r ≤ 122)
def runeIn (r : Int) : Bool := (decide (48 ≤ r) && decide (r ≤ 57)) || decide (r = 45)

set_option maxHeartbeats 400000 in
set_option maxRecDepth 100000 in
theorem letter_eq (r : Int) {b : Bool} (h : Hid (runeLc r = b)) (w : World) :
    Calls Try.prog 82 #[.int .i32 r] w fun e w' => e = .returned (.bool b) ∧ w = w' := by
  have h' := h.out
  unfold runeLc at h'
  clear h
  by_cases h1 : 97 ≤ r
  · by_cases h2 : r ≤ 122
    · obtain rfl : b = true := by rw [← h']; simp [h1, h2]
      clear h'
      go_enter Try.func82, Try.ntmps82
      go_wp2_with fail
      go_ret
      exact ⟨by first | rfl | simp_all, rfl⟩
    · obtain rfl : b = false := by rw [← h']; simp [h2]
      have h3 : 122 < r := by omega
      clear h' h2
      go_enter Try.func82, Try.ntmps82
      go_wp2_with fail
      go_ret
      exact ⟨by first | rfl | simp_all, rfl⟩
  · obtain rfl : b = false := by rw [← h']; simp [h1]
    have h3 : r < 97 := by omega
    clear h' h1
    go_enter Try.func82, Try.ntmps82
    go_wp2_with fail
    go_ret
    exact ⟨by first | rfl | simp_all, rfl⟩

set_option maxHeartbeats 400000 in
set_option maxRecDepth 100000 in
theorem inner_eq (r : Int) {b : Bool} (h : Hid (runeIn r = b)) (w : World) :
    Calls Try.prog 83 #[.int .i32 r] w fun e w' => e = .returned (.bool b) ∧ w = w' := by
  have h' := h.out
  unfold runeIn at h'
  clear h
  by_cases h0 : r = 45
  · subst h0
    obtain rfl : b = true := by rw [← h']; decide
    clear h'
    go_enter Try.func83, Try.ntmps83
    go_wp2_with fail
    go_ret
    exact ⟨rfl, rfl⟩
  · have t0 : (r == 45) = false := by simpa using h0
    by_cases h1 : 48 ≤ r
    · by_cases h2 : r ≤ 57
      · obtain rfl : b = true := by rw [← h']; simp [h1, h2]
        clear h' h0
        go_enter Try.func83, Try.ntmps83
        go_wp2_with fail
        go_ret
        exact ⟨rfl, rfl⟩
      · obtain rfl : b = false := by rw [← h']; simp [h2, h0]
        have h3 : decide (r ≤ 57) = false := by simp; omega
        clear h' h2 h0
        go_enter Try.func83, Try.ntmps83
        go_wp2_with fail
        go_ret
        exact ⟨rfl, rfl⟩
    · obtain rfl : b = false := by rw [← h']; simp [h1, h0]
      have h3 : r < 48 := by omega
      clear h' h1 h0
      go_enter Try.func83, Try.ntmps83
      go_wp2_with fail
      go_ret
      exact ⟨rfl, rfl⟩

theorem runeLc_byte (b : UInt8) : runeLc (b.toNat : Int) = lcOk b := by
  unfold runeLc lcOk
  rw [Bool.eq_iff_iff]
  simp
  omega

theorem runeIn_byte (b : UInt8) : runeIn (b.toNat : Int) = dgOk b := by
  unfold runeIn dgOk
  rw [Bool.eq_iff_iff]
  simp
  omega

theorem rune_high {r : Nat} (h : 128 ≤ r) : runeLc (r : Int) = false ∧ runeIn (r : Int) = false := by
  unfold runeLc runeIn
  constructor
  · rw [Bool.eq_false_iff]; simp; omega
  · rw [Bool.eq_false_iff]; simp; omega

theorem all_succ {l : List UInt8} {k : Nat} {b : UInt8} (hb : l[k]? = some b) (p : UInt8 → Bool) : (l.take (k + 1)).all p = ((l.take k).all p && p b) := by
  obtain ⟨h1, h2⟩ := List.getElem?_eq_some_iff.1 hb
  rw [List.take_succ_eq_append_getElem h1, h2, List.all_append]
  simp

theorem idIs_bad {l : List UInt8} {k : Nat} {b : UInt8} (hb : l[k]? = some b) (h : inOk b = false) : idIs l = false := by
  rw [Bool.eq_false_iff]
  intro h'
  have := List.all_eq_true.1 (idIs_parts h').2.2.2 b (List.mem_of_getElem? hb)
  rw [h] at this
  cases this

theorem idIs_first {l : List UInt8} {b : UInt8} (hb : l[0]? = some b) (h : lcOk b = false) : idIs l = false := by
  rw [Bool.eq_false_iff]
  intro h'
  have := (idIs_parts h').2.2.1
  rw [List.getD, hb] at this
  simp [h] at this

set_option maxHeartbeats 1600000 in
set_option maxRecDepth 100000 in
theorem is_any (l : List UInt8) (hl : l.length ≤ 4294967296) (w : World) :
    Calls Try.prog 66 #[.string ⟨l.toArray⟩] w fun e w' => e = .returned (.bool (idIs l)) ∧ Below w.heap.size w w' := by
  by_cases h0 : l = []
  · subst h0
    go_enter Try.func66, Try.ntmps66
    go_wp2_with fail
    go_ret
    exact ⟨rfl, Below.refl _ _⟩
  · have t0 : (l == []) = false := by simpa using h0
    have hpos : 1 ≤ l.length := by
      rcases l with _ | ⟨_, _⟩
      · exact absurd rfl h0
      · simp
    by_cases h16 : 16 < l.length
    · have HR := Lib.hid (idIs_long h16)
      have H0 := Lib.hid h0
      clear h0
      go_enter Try.func66, Try.ntmps66
      go_wp2_with fail
      go_ret
      exact ⟨by rw [HR.out]; rfl, Below.refl _ _⟩
    · have H0 := Lib.hid h0
      clear h0
      go_enter Try.func66, Try.ntmps66
      go_wp2_with fail
      go_loopw [] (fun wr => ∃ pos : Nat, pos ≤ l.length ∧ Hid (wr.heap[w.heap.size]? = some (.stringIter ⟨l.toArray⟩ pos)) ∧ Below w.heap.size w wr ∧ Hid (pos = 0 ∨ lcOk (l.getD 0 0) = true) ∧ Hid ((l.take pos).all inOk = true)) (fun wr => l.length - wr.iterPos w.heap.size)
      case atStart => exact ⟨0, by omega, World.iter_heap w _ 0, (Below.refl _ w).alloc (Nat.le_refl _) _, .inl rfl, by show _ = _; simp⟩
      case round =>
        obtain ⟨pos, hp, HI, hnx, HF, HA⟩ := hrel
        have HN := Lib.hid hnx
        have hpi : Hid (wr.iterPos w.heap.size = pos) := by show _ = _; simp only [World.iterPos, HI.out]
        by_cases hlt : pos < l.length
        · have hlt' : pos < (⟨l.toArray⟩ : ByteArray).size := by rw [size_bytes]; exact hlt
          obtain ⟨b, hb⟩ : ∃ b : UInt8, (⟨l.toArray⟩ : ByteArray)[pos]'hlt' = b := ⟨_, rfl⟩
          have HB : Hid (l[pos]? = some b) := by rw [← hb]; exact bytes_at l pos hlt'
          have hb256 := b.toNat_lt
          by_cases h128 : b.toNat < 128
          · have hnext := fun ty => Lib.run_next_ascii_at (P := Try.prog) wr w.heap.size ⟨l.toArray⟩ pos ty HI.out hlt' (by rw [hb]; exact h128)
            rw [hb] at hnext
            have HI2 := Lib.hid (Lib.iterAt_heap wr w.heap.size ⟨l.toArray⟩ pos (pos + 1) HI.out)
            have HN2 := Lib.hid (Lib.below_iterAt hnx (k := w.heap.size) (Nat.le_refl _) ⟨l.toArray⟩ (pos + 1))
            have hp2 : Hid ((wr.iterAt w.heap.size ⟨l.toArray⟩ (pos + 1)).iterPos w.heap.size = pos + 1) := by show _ = _; simp only [World.iterPos, HI2.out]
            clear hb hnx
            cases hl : lcOk b with
            | true =>
              have HL : Hid (runeLc (b.toNat : Int) = true) := by show _ = _; rw [runeLc_byte]; exact hl
              have HA2 : Hid ((l.take (pos + 1)).all inOk = true) := by show _ = _; rw [all_succ HB.out, HA.out]; simp [inOk, hl]
              have HF2 : Hid (pos + 1 = 0 ∨ lcOk (l.getD 0 0) = true) := by
                show _ ∨ _
                right
                rcases HF.out with h | h
                · subst h; rw [List.getD, HB.out]; exact hl
                · exact h
              clear hl
              go_wp2_with fail
              refine (letter_eq _ HL _).mono ?_
              rintro e w' ⟨rfl, rfl⟩
              go_wp2_with fail
              go_roundw
              case rel => exact ⟨pos + 1, by omega, HI2, HN2.out, HF2, HA2⟩
              case measure => rw [hp2.out, hpi.out]; omega
            | false =>
              have HL : Hid (runeLc (b.toNat : Int) = false) := by show _ = _; rw [runeLc_byte]; exact hl
              by_cases hz : pos = 0
              · have HR : Hid (idIs l = false) := by show _ = _; subst hz; exact idIs_first HB.out hl
                subst hz
                clear hl
                go_wp2_with fail
                refine (letter_eq _ HL _).mono ?_
                rintro e w' ⟨rfl, rfl⟩
                go_wp2_with fail
                go_ret
                exact ⟨by rw [HR.out]; rfl, HN2.out⟩
              · have hz' : 0 < pos := by omega
                clear hz
                cases hd : dgOk b with
                | true =>
                  have HD : Hid (runeIn (b.toNat : Int) = true) := by show _ = _; rw [runeIn_byte]; exact hd
                  have HA2 : Hid ((l.take (pos + 1)).all inOk = true) := by show _ = _; rw [all_succ HB.out, HA.out]; simp [inOk, hd]
                  have HF2 : Hid (pos + 1 = 0 ∨ lcOk (l.getD 0 0) = true) := by
                    show _ ∨ _
                    right
                    rcases HF.out with h | h
                    · omega
                    · exact h
                  clear hl hd
                  go_wp2_with fail
                  refine (letter_eq _ HL _).mono ?_
                  rintro e w' ⟨rfl, rfl⟩
                  go_wp2_with fail
                  refine (inner_eq _ HD _).mono ?_
                  rintro e w' ⟨rfl, rfl⟩
                  go_wp2_with fail
                  go_roundw
                  case rel => exact ⟨pos + 1, by omega, HI2, HN2.out, HF2, HA2⟩
                  case measure => rw [hp2.out, hpi.out]; omega
                | false =>
                  have HD : Hid (runeIn (b.toNat : Int) = false) := by show _ = _; rw [runeIn_byte]; exact hd
                  have HR : Hid (idIs l = false) := by show _ = _; exact idIs_bad HB.out (by simp [inOk, hl, hd])
                  clear hl hd
                  go_wp2_with fail
                  refine (letter_eq _ HL _).mono ?_
                  rintro e w' ⟨rfl, rfl⟩
                  go_wp2_with fail
                  refine (inner_eq _ HD _).mono ?_
                  rintro e w' ⟨rfl, rfl⟩
                  go_wp2_with fail
                  go_ret
                  exact ⟨by rw [HR.out]; rfl, HN2.out⟩
          · obtain ⟨hh1, _⟩ := decode_high ⟨l.toArray⟩ pos hlt' (by rw [hb]; omega)
            have hnext := fun ty => Lib.run_next_any_at (P := Try.prog) wr w.heap.size ⟨l.toArray⟩ pos ty HI.out hlt'
            have HN2 := Lib.hid (Lib.below_iterAt hnx (k := w.heap.size) (Nat.le_refl _) ⟨l.toArray⟩ (pos + (Utf8.decode ⟨l.toArray⟩ pos).2))
            have HR : Hid (idIs l = false) := by show _ = _; exact idIs_high (List.mem_of_getElem? HB.out) (by omega)
            obtain ⟨r, hr⟩ : ∃ r, (Utf8.decode ⟨l.toArray⟩ pos).1 = r := ⟨_, rfl⟩
            obtain ⟨q, hq⟩ : ∃ q, pos + (Utf8.decode ⟨l.toArray⟩ pos).2 = q := ⟨_, rfl⟩
            rw [hr, hq] at hnext
            rw [hq] at HN2
            rw [hr] at hh1
            have HL := Lib.hid (rune_high hh1).1
            have HD := Lib.hid (rune_high hh1).2
            clear hr hq hb hnx
            go_wp2_with fail
            refine (letter_eq _ HL _).mono ?_
            rintro e w' ⟨rfl, rfl⟩
            by_cases hz : pos = 0
            · subst hz
              go_wp2_with fail
              go_ret
              exact ⟨by rw [HR.out]; rfl, HN2.out⟩
            · have hz' : 0 < pos := by omega
              clear hz
              go_wp2_with fail
              refine (inner_eq _ HD _).mono ?_
              rintro e w' ⟨rfl, rfl⟩
              go_wp2_with fail
              go_ret
              exact ⟨by rw [HR.out]; rfl, HN2.out⟩
        · obtain rfl : pos = l.length := by omega
          have hnext := fun ty => Lib.run_next_end_at (P := Try.prog) wr w.heap.size ⟨l.toArray⟩ l.length ty HI.out (by rw [size_bytes]; omega)
          have HR : Hid (idIs l = true) := by
            show _ = _
            have ha := HA.out
            rw [List.take_length] at ha
            refine idIs_mk hpos (by omega) ?_ ha
            rcases HF.out with h | h
            · omega
            · exact h
          clear hnx
          go_wp2_with fail
          go_ret
          exact ⟨by rw [HR.out]; rfl, HN.out⟩

end Go.Proofs.Ytfkadkopolenbaa

end

section

/-
  THE CONTRACT OF ident.Fold (with small): a Builder, written in a range over a string.
-/
namespace Go.Proofs.Ytfkadkopolenbaa
open Go.RowKit Go.Lib

def smallR (r : Int) : Int := if 65 ≤ r ∧ r ≤ 90 then r + 32 else r

/-- Where the folding of l stands: at pos; acc is what is written. -/
def FoldAt (l : List UInt8) (pos : Nat) (acc : List UInt8) : Prop :=
  (pos ≤ l.length ∧ acc = idLow (l.take pos)) ∨ ((∃ b ∈ acc, 128 ≤ b.toNat) ∧ ∃ b ∈ l, 128 ≤ b.toNat)

theorem encode_low {b : UInt8} (h : b.toNat < 128) : encodeRune (smallR (b.toNat : Int)) = [low1 b] := by
  have hs : smallR (b.toNat : Int) = ((low1 b).toNat : Int) := by
    unfold smallR low1
    by_cases hb : 65 ≤ b.toNat ∧ b.toNat ≤ 90
    · rw [if_pos (by omega), if_pos hb, u8of_toNat (by omega)]; omega
    · rw [if_neg (by omega), if_neg hb]
  have hl : (low1 b).toNat < 128 := by
    unfold low1
    by_cases hb : 65 ≤ b.toNat ∧ b.toNat ≤ 90
    · rw [if_pos hb, u8of_toNat (by omega)]; omega
    · rw [if_neg hb]; exact h
  rw [hs]
  unfold encodeRune
  rw [encodeRuneZ_one (by omega) (by omega)]
  simp

theorem encode_high {r : Nat} (h : 128 ≤ r) : ∃ b ∈ encodeRune (smallR (r : Int)), 128 ≤ b.toNat := by
  have hs : smallR (r : Int) = r := by unfold smallR; rw [if_neg (by omega)]
  rw [hs]
  have key : ∀ x, x ∈ encodeRuneZ (r : Int) → 128 ≤ x → x < 256 → ∃ b ∈ encodeRune (r : Int), 128 ≤ b.toNat := by
    intro x hx h1 h2
    refine ⟨x.toNat.toUInt8, List.mem_map.2 ⟨x, hx, rfl⟩, ?_⟩
    have : x.toNat < 256 := by omega
    simp only [Nat.toUInt8_eq, UInt8.toNat_ofNat']
    omega
  by_cases h1 : r ≤ 2047
  · exact key (192 + (r : Int) / 64) (by rw [encodeRuneZ_two (by omega) (by omega)]; simp) (by omega) (by omega)
  · by_cases h2 : (2048 ≤ r ∧ r < 55296) ∨ (57343 < r ∧ r ≤ 65535)
    · exact key (224 + (r : Int) / 4096) (by rw [encodeRuneZ_three (by omega)]; simp) (by omega) (by omega)
    · by_cases h3 : 65536 ≤ r ∧ r ≤ 1114111
      · exact key (240 + (r : Int) / 262144) (by rw [encodeRuneZ_four (by omega) (by omega)]; simp) (by omega) (by omega)
      · exact key 239 (by rw [encodeRuneZ_bad (by omega)]; simp) (by omega) (by omega)

theorem fold_next {l acc : List UInt8} {pos : Nat} (hlt : pos < (⟨l.toArray⟩ : ByteArray).size) (h : FoldAt l pos acc) :
    FoldAt l (pos + (Utf8.decode ⟨l.toArray⟩ pos).2) (acc ++ encodeRune (smallR ((Utf8.decode ⟨l.toArray⟩ pos).1 : Int))) ∧ 1 ≤ (Utf8.decode ⟨l.toArray⟩ pos).2 := by
  obtain ⟨b, hb⟩ : ∃ b : UInt8, (⟨l.toArray⟩ : ByteArray)[pos]'hlt = b := ⟨_, rfl⟩
  have HB : l[pos]? = some b := by rw [← hb]; exact bytes_at l pos hlt
  by_cases ha : b.toNat < 128
  · have hd := decode_ascii ⟨l.toArray⟩ pos hlt (by rw [hb]; exact ha)
    rw [hb] at hd
    rw [hd]
    refine ⟨?_, Nat.le_refl _⟩
    simp only
    rw [encode_low ha]
    rcases h with ⟨h1, h2⟩ | ⟨⟨c, hc, h1⟩, h2⟩
    · obtain ⟨p1, p2⟩ := List.getElem?_eq_some_iff.1 HB
      refine .inl ⟨by omega, ?_⟩
      rw [List.take_succ_eq_append_getElem p1, p2, h2]
      simp [idLow]
    · exact .inr ⟨⟨c, List.mem_append_left _ hc, h1⟩, h2⟩
  · obtain ⟨h1, h2⟩ := decode_high ⟨l.toArray⟩ pos hlt (by rw [hb]; omega)
    refine ⟨.inr ⟨?_, b, List.mem_of_getElem? HB, by omega⟩, h2⟩
    obtain ⟨c, hc, h3⟩ := encode_high h1
    exact ⟨c, List.mem_append_right _ hc, h3⟩

theorem fold_end {l acc : List UInt8} {pos : Nat} (h : FoldAt l pos acc) (hp : l.length ≤ pos) : (idIs acc = true ∧ idFold l = (acc, true)) ∨ (idIs acc = false ∧ idFold l = ([], false)) := by
  rcases h with ⟨h1, h2⟩ | ⟨⟨c, hc, h1⟩, b, hb, h2⟩
  · have : l.take pos = l := List.take_of_length_le hp
    rw [this] at h2
    subst h2
    rcases idFold_cases l with ⟨e, h⟩ | ⟨e, h, _⟩
    · exact .inl ⟨h, e⟩
    · exact .inr ⟨h, e⟩
  · exact .inr ⟨idIs_high hc h1, idFold_high hb h2⟩

theorem decode_width (s : ByteArray) (pos : Nat) : (Utf8.decode s pos).2 ≤ 4 := by
  simp only [Utf8.decode]
  repeat' split
  all_goals (first | decide | (simp; done) | omega)

theorem ownsRowF_later {w w' : World} {base e size : Nat} {v : Value} {n : Nat} {xs : List Value} (h : w.ownsRowF base e size v n xs) (hb : Below w.heap.size w w') : w'.ownsRowF base e size v n xs := by
  refine ⟨h.1, ?_⟩
  rcases h.2 with h' | ⟨g, cap, cur, fz, h1, h2, h3, h4⟩
  · exact .inl h'
  · exact .inr ⟨g, cap, cur, fz, h1, h2, by rw [hb.block g (Array.getElem?_eq_some_iff.1 h3).1]; exact h3, h4⟩

theorem builderAt_later {T e B b : Nat} {p : Value} {bs : List Value} {w w' : World} (h : BuilderAtF T e B b p bs w) (hb : Below w.heap.size w w') : BuilderAtF T e B b p bs w' := by
  obtain ⟨h1, v, h2, h3, h4⟩ := h
  exact ⟨h1, v, by rw [hb.block b (Array.getElem?_eq_some_iff.1 h2).1]; exact h2, ownsRowF_later h3 hb, h4⟩

theorem builder_later {T e B b : Nat} {bs : List Value} {w w' : World} (h : IsBuilderF T e B b bs w) (hb : Below w.heap.size w w') : IsBuilderF T e B b bs w' :=
  h.elim (fun x => .inl (builderAt_later x hb)) (fun x => .inr (builderAt_later x hb))

theorem is_eq (l : List UInt8) (hl : l.length ≤ 4294967296) {r : Bool} (h : Hid (idIs l = r)) (w : World) :
    Calls Try.prog 66 #[.string ⟨l.toArray⟩] w fun e w' => e = .returned (.bool r) ∧ Below w.heap.size w w' := by
  have := is_any l hl w
  rwa [h.out] at this

end Go.Proofs.Ytfkadkopolenbaa

end

section

/-
  THE CONTRACTS OF ident.Put AND ident.Take.
-/
namespace Go.Proofs.Ytfkadkopolenbaa
open Go.RowKit

theorem vtake_short {l : List UInt8} {p m : Int} {t : List UInt8} {f er : Nat} (h : vtake l p m = (t, f, er)) : t.length ≤ l.length := by
  unfold vtake at h
  generalize vget l p = g at h
  obtain ⟨n, g, e⟩ := g
  dsimp only at h
  repeat' split at h
  all_goals
    simp only [Prod.mk.injEq] at h
    obtain ⟨rfl, _, _⟩ := h
    simp
  try omega

end Go.Proofs.Ytfkadkopolenbaa

end

section

/-
  A TEXT TURNED INTO A NEW ROW OF BYTES: what is known of the world behind it. Over any program.
-/
namespace Go.Proofs.Ytfkadkopolenbaa
open Go.RowKit

theorem bytesWorld_below (w : World) (e : TypeId) (s : ByteArray) : Below w.heap.size w (Lib.bytesWorld w e s) :=
  ⟨by simp [Lib.bytesWorld, World.freeze, World.alloc, World.drew, -World.alloc_eq, -World.drew_eq], by simp [Lib.bytesWorld, World.freeze, World.alloc, World.drew, -World.alloc_eq, -World.drew_eq],
    by simp [Lib.bytesWorld, World.freeze, World.alloc, World.drew, -World.alloc_eq, -World.drew_eq], by rw [Lib.bytesWorld_size]; omega, fun k hk => Lib.bytesWorld_at_old w e s k hk⟩

theorem bytesWorld_frozen (w : World) (e : TypeId) (s : ByteArray) (j : Nat) (hj : j < s.size) : (Lib.bytesWorld w e s).frozen? ⟨w.heap.size, j, none⟩ = false := by
  have h : s.size ≤ (Lib.bytesCells w e s).size := by
    unfold Lib.bytesCells
    rw [Array.size_append, Array.size_map]
    exact Nat.le_add_right _ _
  simp only [World.frozen?, Lib.bytesWorld_at_new]
  simp only [Bool.and_eq_false_iff, decide_eq_false_iff_not]
  exact .inl (by omega)

/-- The row that it made, as the list of the text's bytes. -/
theorem bytesWorld_list (w : World) (e : TypeId) (l : List UInt8) (j : Nat) (hj : j < l.length) : (Lib.bytesWorld w e ⟨l.toArray⟩).cell? ⟨w.heap.size, j, none⟩ = some (.int .u8 (l.getD j 0).toNat) := by
  have := Lib.bytesWorld_cell w e ⟨l.toArray⟩ j (by rw [size_bytes]; exact hj)
  simpa using this

end Go.Proofs.Ytfkadkopolenbaa

end
