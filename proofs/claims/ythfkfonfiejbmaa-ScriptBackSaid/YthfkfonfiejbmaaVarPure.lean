/-
  PLAIN MATHEMATICS OF LAYER 1 (varint): numbers in sevens of bits, and how they are read. No program in sight.
-/
namespace Go.Proofs.Ythfkfonfiejbmaa

/-- A number's byte: a name that no rule of the walk takes apart. -/
def u8of (n : Nat) : UInt8 := UInt8.ofNat n

/-- The bytes of n, with fuel k. -/
def vputF : Nat → Nat → List UInt8
  | 0, n => [u8of n]
  | k + 1, n => if n < 128 then [u8of n] else u8of (n % 128 + 128) :: vputF k (n / 128)

/-- The bytes of n (below 2^64). -/
def vput (n : Nat) : List UInt8 := vputF 9 n

theorem vputF_lt {k n : Nat} (h : n < 128) : vputF k n = [u8of n] := by
  cases k <;> simp [vputF, h]

theorem vputF_succ : ∀ (k n : Nat), n < 128 ^ (k + 1) → vputF (k + 1) n = vputF k n
  | 0, n, h => by
    have h' : n < 128 := by simpa using h
    rw [vputF_lt h', vputF_lt h']
  | k + 1, n, h => by
    by_cases h1 : n < 128
    · rw [vputF_lt h1, vputF_lt h1]
    · rw [vputF, if_neg h1, vputF_succ k (n / 128) (by rw [Nat.pow_succ] at h; omega)]
      conv => rhs; rw [vputF, if_neg h1]

theorem vput_lt {n : Nat} (h : n < 128) : vput n = [u8of n] := vputF_lt h

theorem vput_ge {n : Nat} (h : 128 ≤ n) (hn : n < 18446744073709551616) : vput n = u8of (n % 128 + 128) :: vput (n / 128) := by
  unfold vput
  rw [vputF, if_neg (by omega), vputF_succ 8 (n / 128) (by simp; omega)]

theorem vputF_len_le : ∀ (k n : Nat), (vputF k n).length ≤ k + 1
  | 0, n => by simp [vputF]
  | k + 1, n => by
    unfold vputF
    split
    · simp
    · have := vputF_len_le k (n / 128)
      simp; omega

theorem vput_len_le (n : Nat) : (vput n).length ≤ 10 := vputF_len_le 9 n

theorem vputF_len_pos (k n : Nat) : 1 ≤ (vputF k n).length := by
  cases k with
  | zero => simp [vputF]
  | succ k => unfold vputF; split <;> simp

theorem vput_len_pos (n : Nat) : 1 ≤ (vput n).length := vputF_len_pos 9 n

theorem vputF_mono : ∀ (k a b : Nat), a ≤ b → (vputF k a).length ≤ (vputF k b).length
  | 0, a, b, _ => by simp [vputF]
  | k + 1, a, b, h => by
    by_cases ha : a < 128
    · rw [vputF_lt ha]; exact vputF_len_pos _ _
    · have hb : ¬ b < 128 := by omega
      rw [vputF, if_neg ha, vputF, if_neg hb]
      simp only [List.length_cons]
      have := vputF_mono k (a / 128) (b / 128) (Nat.div_le_div_right h)
      omega

theorem vput_mono {a b : Nat} (h : a ≤ b) : (vput a).length ≤ (vput b).length := vputF_mono 9 a b h

/-- What stands at a list's head, as the byte of index i of a number: the number, how many bytes it takes, and the error (0, 2, 3). -/
def vgetF (i : Nat) : List UInt8 → Nat × Nat × Nat
  | [] => (0, 0, 2)
  | b :: r =>
    if i = 9 ∧ 1 < b.toNat then (0, 0, 3)
    else if b.toNat < 128 then (if b.toNat = 0 ∧ 0 < i then (0, 0, 3) else (b.toNat, 1, 0))
    else
      if (vgetF (i + 1) r).2.2 = 0 then (b.toNat % 128 + 128 * (vgetF (i + 1) r).1, (vgetF (i + 1) r).2.1 + 1, 0)
      else (0, 0, (vgetF (i + 1) r).2.2)

/-- The number at a place of bytes: number, place behind it, error. -/
def vget (s : List UInt8) (at' : Int) : Nat × Nat × Nat :=
  if at' < 0 ∨ (s.length : Int) < at' then (0, 0, 1)
  else
    if (vgetF 0 (s.drop at'.toNat)).2.2 = 0 then ((vgetF 0 (s.drop at'.toNat)).1, at'.toNat + (vgetF 0 (s.drop at'.toNat)).2.1, 0)
    else (0, 0, (vgetF 0 (s.drop at'.toNat)).2.2)

theorem vgetF_err (i : Nat) : ∀ l : List UInt8, (vgetF i l).2.2 = 0 ∨ vgetF i l = (0, 0, 2) ∨ vgetF i l = (0, 0, 3) := by
  intro l
  induction l generalizing i with
  | nil => simp [vgetF]
  | cons b r ih =>
    unfold vgetF
    split
    · simp
    · split
      · split <;> simp
      · rcases ih (i + 1) with h | h | h
        · rw [if_pos h]; simp
        · rw [h]; simp
        · rw [h]; simp

theorem vgetF_used (i : Nat) : ∀ l : List UInt8, (vgetF i l).2.2 = 0 → 1 ≤ (vgetF i l).2.1 ∧ (vgetF i l).2.1 ≤ l.length := by
  intro l
  induction l generalizing i with
  | nil => simp [vgetF]
  | cons b r ih =>
    unfold vgetF
    split
    · simp
    · split
      · split <;> simp
      · by_cases h : (vgetF (i + 1) r).2.2 = 0
        · have := ih (i + 1) h
          rw [if_pos h]; simp; omega
        · rw [if_neg h]; simp [h]

/-- The number that is read at index i is below 2^(64 - 7 i). -/
theorem vgetF_bound (i : Nat) (hi : i ≤ 9) : ∀ l : List UInt8, (vgetF i l).1 * 128 ^ i < 18446744073709551616 := by
  intro l
  induction l generalizing i with
  | nil => simp [vgetF]
  | cons b r ih =>
    have hb := b.toNat_lt
    unfold vgetF
    split
    · simp
    · rename_i h9
      split
      · rename_i hlt
        split
        · simp
        · simp only
          by_cases hi9 : i = 9
          · subst hi9
            have : b.toNat ≤ 1 := by omega
            have := Nat.mul_le_mul_right (128 ^ 9) this
            refine Nat.lt_of_le_of_lt this (by decide)
          · have h8 : i ≤ 8 := by omega
            have h1 : b.toNat ≤ 127 := by omega
            calc b.toNat * 128 ^ i ≤ 127 * 128 ^ 8 := Nat.mul_le_mul h1 (Nat.pow_le_pow_right (by decide) h8)
              _ < 18446744073709551616 := by decide
      · rename_i hge
        by_cases hi9 : i = 9
        · exact absurd ⟨hi9, by omega⟩ h9
        · have ih' := ih (i + 1) (by omega)
          split
          · simp only
            have hb2 : b.toNat % 128 ≤ 127 := by omega
            rw [Nat.pow_succ] at ih'
            obtain ⟨c, hc⟩ : ∃ c, 18446744073709551616 = c * (128 ^ i * 128) := by
              have hi8 : i = 0 ∨ i = 1 ∨ i = 2 ∨ i = 3 ∨ i = 4 ∨ i = 5 ∨ i = 6 ∨ i = 7 ∨ i = 8 := by omega
              rcases hi8 with rfl | rfl | rfl | rfl | rfl | rfl | rfl | rfl | rfl
              · exact ⟨2 ^ 57, by decide⟩
              · exact ⟨2 ^ 50, by decide⟩
              · exact ⟨2 ^ 43, by decide⟩
              · exact ⟨2 ^ 36, by decide⟩
              · exact ⟨2 ^ 29, by decide⟩
              · exact ⟨2 ^ 22, by decide⟩
              · exact ⟨2 ^ 15, by decide⟩
              · exact ⟨2 ^ 8, by decide⟩
              · exact ⟨2, by decide⟩
            rw [hc] at ih' ⊢
            have hlt := Nat.lt_of_mul_lt_mul_right ih'
            rw [Nat.mul_comm (128 ^ i) 128, ← Nat.mul_assoc]
            exact Nat.mul_lt_mul_of_pos_right (by omega) (Nat.pow_pos (by decide))
          · simp

theorem u8of_toNat {n : Nat} (h : n < 256) : (u8of n).toNat = n := by
  simp [u8of, UInt8.toNat_ofNat']; omega

theorem u8of_of_toNat (b : UInt8) : u8of b.toNat = b := by
  simp [u8of]

/-- What is put is got, whatever stands behind it. -/
theorem vgetF_vputF : ∀ (k n i : Nat) (r : List UInt8), i + k = 9 → n * 128 ^ i < 18446744073709551616 → (0 < i → 0 < n) →
    vgetF i (vputF k n ++ r) = (n, (vputF k n).length, 0)
  | 0, n, i, r, hk, hn, hp => by
    have hi : i = 9 := by omega
    subst hi
    have h1 : n ≤ 1 := by simp at hn; omega
    have ht : (u8of n).toNat = n := u8of_toNat (by omega)
    simp only [vputF, List.cons_append, List.nil_append, vgetF, ht]
    rw [if_neg (by omega), if_pos (by omega), if_neg (by omega)]
    simp
  | k + 1, n, i, r, hk, hn, hp => by
    by_cases h : n < 128
    · have ht : (u8of n).toNat = n := u8of_toNat (by omega)
      rw [vputF_lt h]
      simp only [List.cons_append, List.nil_append, vgetF, ht]
      rw [if_neg (by omega), if_pos (by omega), if_neg (by omega)]
      simp
    · have ht : (u8of (n % 128 + 128)).toNat = n % 128 + 128 := u8of_toNat (by omega)
      have ih := vgetF_vputF k (n / 128) (i + 1) r (by omega) (by
        refine Nat.lt_of_le_of_lt ?_ hn
        rw [Nat.pow_succ, Nat.mul_comm (128 ^ i) 128, ← Nat.mul_assoc]
        exact Nat.mul_le_mul_right _ (Nat.div_mul_le_self n 128)) (fun _ => by omega)
      rw [vputF, if_neg h]
      simp only [List.cons_append, vgetF, ht, ih]
      rw [if_neg (by omega), if_neg (by omega), if_pos trivial]
      simp
      omega

theorem vget_vput (n : Nat) (hn : n < 18446744073709551616) (a r : List UInt8) :
    vget (a ++ (vput n ++ r)) (a.length : Int) = (n, a.length + (vput n).length, 0) := by
  unfold vget vput
  rw [if_neg (by simp; omega)]
  have e : List.drop ((a.length : Int)).toNat (a ++ (vputF 9 n ++ r)) = vputF 9 n ++ r := by simp
  rw [e, vgetF_vputF 9 n 0 r rfl (by simpa using hn) (by simp)]
  simp

/-- What is got is what was put, byte by byte. -/
theorem vputF_vgetF : ∀ (l : List UInt8) (k i : Nat), i + k = 9 → (vgetF i l).2.2 = 0 → vputF k (vgetF i l).1 = l.take (vgetF i l).2.1 ∧ (0 < i → 0 < (vgetF i l).1)
  | [], k, i, hk, h => by simp [vgetF] at h
  | b :: r, k, i, hk, h => by
    have hb := b.toNat_lt
    unfold vgetF at h ⊢
    by_cases h9 : i = 9 ∧ 1 < b.toNat
    · rw [if_pos h9] at h; simp at h
    · rw [if_neg h9] at h ⊢
      by_cases hlt : b.toNat < 128
      · rw [if_pos hlt] at h ⊢
        by_cases h0 : b.toNat = 0 ∧ 0 < i
        · rw [if_pos h0] at h; simp at h
        · rw [if_neg h0]
          simp only
          rw [vputF_lt hlt, u8of_of_toNat]
          exact ⟨by simp, fun _ => by omega⟩
      · rw [if_neg hlt] at h ⊢
        by_cases he : (vgetF (i + 1) r).2.2 = 0
        · rw [if_pos he]
          cases k with
          | zero => exact absurd ⟨by omega, by omega⟩ h9
          | succ k =>
            have ih := vputF_vgetF r k (i + 1) (by omega) he
            have hp := ih.2 (by omega)
            simp only
            have hge : ¬ b.toNat % 128 + 128 * (vgetF (i + 1) r).1 < 128 := by omega
            rw [vputF, if_neg hge]
            have e1 : (b.toNat % 128 + 128 * (vgetF (i + 1) r).1) % 128 + 128 = b.toNat := by omega
            have e2 : (b.toNat % 128 + 128 * (vgetF (i + 1) r).1) / 128 = (vgetF (i + 1) r).1 := by omega
            rw [e1, e2, ih.1, u8of_of_toNat]
            exact ⟨by simp, fun _ => by omega⟩
        · rw [if_neg he] at h; exact absurd h he

theorem vput_vget {l : List UInt8} (h : (vget l 0).2.2 = 0) : vput (vget l 0).1 = l.take (vget l 0).2.1 ∧ 1 ≤ (vget l 0).2.1 ∧ (vget l 0).2.1 ≤ l.length := by
  unfold vget at h ⊢
  rw [if_neg (by simp)] at h ⊢
  simp only [Int.toNat_zero, List.drop_zero, Nat.zero_add] at h ⊢
  by_cases he : (vgetF 0 l).2.2 = 0
  · rw [if_pos he]
    exact ⟨(vputF_vgetF l 9 0 rfl he).1, vgetF_used 0 l he⟩
  · rw [if_neg he] at h; exact absurd h he

/-- None begins another one's. -/
theorem vput_prefix {a b : Nat} (ha : a < 18446744073709551616) (hb : b < 18446744073709551616) {r : List UInt8} (h : vput b = vput a ++ r) : a = b := by
  have h1 := vgetF_vputF 9 a 0 r rfl (by simpa using ha) (by simp)
  have h2 := vgetF_vputF 9 b 0 [] rfl (by simpa using hb) (by simp)
  unfold vput at h
  rw [List.append_nil, h, h1] at h2
  exact (Prod.mk.injEq .. ▸ h2).1

theorem vput_inj {a b : Nat} (ha : a < 18446744073709551616) (hb : b < 18446744073709551616) (h : vput a = vput b) : a = b :=
  vput_prefix ha hb (r := []) (by simp [h])

/-- What is read so far, and what is still to be read, put together. -/
def comb (i acc : Nat) (r : Nat × Nat × Nat) : Nat × Nat × Nat := if r.2.2 = 0 then (acc + 128 ^ i * r.1, i + r.2.1, 0) else (0, 0, r.2.2)

/-- Where a reading of the number at q stands: byte i, at p; so far: acc. -/
def GetAt (l : List UInt8) (q i acc p sh : Nat) : Prop := acc < 128 ^ i ∧ p = q + i ∧ sh = 7 * i ∧ comb i acc (vgetF i (l.drop p)) = vgetF 0 (l.drop q)

theorem getAt_start (l : List UInt8) (q : Nat) : GetAt l q 0 0 q 0 := by
  refine ⟨by simp, rfl, rfl, ?_⟩
  unfold comb
  rcases vgetF_err 0 (l.drop q) with h | h | h
  · rw [if_pos h]
    exact Prod.ext (by simp) (Prod.ext (by simp) h.symm)
  · rw [h]; simp
  · rw [h]; simp

theorem vget_in {l : List UInt8} {q : Nat} (hq : q ≤ l.length) {r : Nat × Nat × Nat} (h : vgetF 0 (l.drop q) = r) :
    vget l q = if r.2.2 = 0 then (r.1, q + r.2.1, 0) else (0, 0, r.2.2) := by
  unfold vget
  rw [if_neg (by omega)]
  simp only [Int.toNat_natCast, h]

theorem getAt_end {l : List UInt8} {q i acc p sh : Nat} (h : GetAt l q i acc p sh) (hq : q ≤ l.length) (hp : p = l.length) : vget l q = (0, 0, 2) := by
  have e : vgetF 0 (l.drop q) = (0, 0, 2) := by
    rw [← h.2.2.2, hp]
    simp [vgetF, comb]
  rw [vget_in hq e]
  simp

theorem drop_at {l : List UInt8} {p : Nat} {b : UInt8} (hb : l[p]? = some b) : l.drop p = b :: l.drop (p + 1) := by
  obtain ⟨h, hb'⟩ := List.getElem?_eq_some_iff.1 hb
  rw [List.drop_eq_getElem_cons h, hb']

theorem getAt_form {l : List UInt8} {q i acc p sh : Nat} {b : UInt8} (h : GetAt l q i acc p sh) (hq : q ≤ l.length) (hb : l[p]? = some b)
    (hc : (i = 9 ∧ 1 < b.toNat) ∨ (b.toNat < 128 ∧ b.toNat = 0 ∧ 0 < i)) : vget l q = (0, 0, 3) := by
  have e : vgetF 0 (l.drop q) = (0, 0, 3) := by
    rw [← h.2.2.2, drop_at hb]
    unfold vgetF
    rcases hc with h1 | ⟨h1, h2⟩
    · rw [if_pos h1]; simp [comb]
    · by_cases h3 : i = 9 ∧ 1 < b.toNat
      · rw [if_pos h3]; simp [comb]
      · rw [if_neg h3, if_pos h1, if_pos h2]; simp [comb]
  rw [vget_in hq e]
  simp

theorem getAt_last {l : List UInt8} {q i acc p sh : Nat} {b : UInt8} (h : GetAt l q i acc p sh) (hq : q ≤ l.length) (hb : l[p]? = some b)
    (h1 : ¬ (i = 9 ∧ 1 < b.toNat)) (h2 : b.toNat < 128) (h3 : ¬ (b.toNat = 0 ∧ 0 < i)) : vget l q = (acc + b.toNat % 128 * 128 ^ i, p + 1, 0) := by
  have e : vgetF 0 (l.drop q) = (acc + b.toNat % 128 * 128 ^ i, i + 1, 0) := by
    rw [← h.2.2.2, drop_at hb]
    unfold vgetF
    rw [if_neg h1, if_pos h2, if_neg h3]
    simp only [comb, if_pos]
    rw [Nat.mod_eq_of_lt h2, Nat.mul_comm]
  rw [vget_in hq e]
  have := h.2.1
  simp
  omega

theorem getAt_next {l : List UInt8} {q i acc p sh : Nat} {b : UInt8} (h : GetAt l q i acc p sh) (hb : l[p]? = some b)
    (h1 : ¬ (i = 9 ∧ 1 < b.toNat)) (h2 : ¬ b.toNat < 128) : GetAt l q (i + 1) (acc + b.toNat % 128 * 128 ^ i) (p + 1) (sh + 7) := by
  obtain ⟨ha, hp, hs, hc⟩ := h
  refine ⟨?_, by omega, by omega, ?_⟩
  · have : b.toNat % 128 * 128 ^ i ≤ 127 * 128 ^ i := Nat.mul_le_mul_right _ (by omega)
    rw [Nat.pow_succ]
    omega
  · rw [← hc, drop_at hb]
    conv => rhs; unfold vgetF
    rw [if_neg h1, if_neg h2]
    unfold comb
    by_cases he : (vgetF (i + 1) (l.drop (p + 1))).2.2 = 0
    · simp only [if_pos he]
      simp only [if_true]
      refine Prod.ext ?_ (Prod.ext ?_ rfl)
      · show acc + b.toNat % 128 * 128 ^ i + 128 ^ (i + 1) * _ = acc + 128 ^ i * (b.toNat % 128 + 128 * _)
        rw [Nat.pow_succ, Nat.mul_add, Nat.mul_comm (128 ^ i) (b.toNat % 128), Nat.mul_assoc, Nat.add_assoc]
      · show i + 1 + _ = i + (_ + 1)
        omega
    · simp only [if_neg he]

/-- The text behind its length, at a place of bytes: text, place behind it, error. -/
def vtake (l : List UInt8) (p most : Int) : List UInt8 × Nat × Nat :=
  if (vget l p).2.2 ≠ 0 then ([], 0, (vget l p).2.2)
  else if most < 0 ∨ most < ((vget l p).1 : Int) then ([], 0, 3)
  else if l.length - (vget l p).2.1 < (vget l p).1 then ([], 0, 2)
  else ((l.drop (vget l p).2.1).take (vget l p).1, (vget l p).2.1 + (vget l p).1, 0)

theorem vget_facts {l : List UInt8} {p : Int} {n f er : Nat} (h : vget l p = (n, f, er)) :
    n < 18446744073709551616 ∧ f ≤ l.length ∧ (er = 0 → 0 ≤ p ∧ p.toNat < f) := by
  unfold vget at h
  by_cases h1 : p < 0 ∨ (l.length : Int) < p
  · rw [if_pos h1] at h
    simp only [Prod.mk.injEq] at h
    omega
  · rw [if_neg h1] at h
    have hb := vgetF_bound 0 (by omega) (l.drop p.toNat)
    by_cases h2 : (vgetF 0 (l.drop p.toNat)).2.2 = 0
    · rw [if_pos h2] at h
      have hu := vgetF_used 0 (l.drop p.toNat) h2
      simp only [Prod.mk.injEq] at h
      simp only [List.length_drop] at hu
      simp only [Nat.pow_zero, Nat.mul_one] at hb
      omega
    · rw [if_neg h2] at h
      simp only [Prod.mk.injEq] at h
      omega

/-- Numbers, one behind the other. -/
def vflat (l : List Nat) : List UInt8 := (l.map vput).flatten

theorem vflat_succ (l : List Nat) (i : Nat) (h : i < l.length) : vflat (l.take (i + 1)) = vflat (l.take i) ++ vput (l.getD i 0) := by
  unfold vflat
  rw [List.take_succ_eq_append_getElem h, List.map_append, List.flatten_append, show l.getD i 0 = l[i] by simp [List.getD, List.getElem?_eq_getElem h]]
  simp only [List.map_cons, List.map_nil, List.flatten_cons, List.flatten_nil, List.append_nil]

theorem vflat_split (l : List Nat) (i : Nat) (h : i < l.length) : vflat l = vflat (l.take i) ++ (vput (l.getD i 0) ++ vflat (l.drop (i + 1))) := by
  have e : l = l.take i ++ l.getD i 0 :: l.drop (i + 1) := by
    rw [show l.getD i 0 = l[i] by simp [List.getD, List.getElem?_eq_getElem h]]
    simp
  unfold vflat
  conv => lhs; rw [e]
  simp

theorem vflat_len : ∀ l : List Nat, (vflat l).length ≤ 10 * l.length
  | [] => by simp [vflat]
  | n :: l => by
    have h1 := vput_len_le n
    have h2 := vflat_len l
    simp only [vflat, List.map_cons, List.flatten_cons, List.length_append, List.length_cons] at h2 ⊢
    omega

theorem vget_flat (l : List Nat) (i : Nat) (h : i < l.length) (hb : l.getD i 0 < 18446744073709551616) :
    vget (vflat l) ((vflat (l.take i)).length : Int) = (l.getD i 0, (vflat (l.take (i + 1))).length, 0) := by
  rw [vflat_split l i h, vget_vput _ hb, vflat_succ l i h]
  simp

theorem vget_end (s : List UInt8) : vget s (s.length : Int) = (0, 0, 2) := by
  unfold vget
  rw [if_neg (by omega)]
  simp [vgetF]

/-- A number cut short is none. -/
theorem vgetF_cut : ∀ (k n i j : Nat), i + k = 9 → n * 128 ^ i < 18446744073709551616 → j < (vputF k n).length → vgetF i ((vputF k n).take j) = (0, 0, 2)
  | k, n, i, 0, _, _, _ => by simp [vgetF]
  | 0, n, i, j + 1, _, _, hj => by simp [vputF] at hj
  | k + 1, n, i, j + 1, hk, hn, hj => by
    by_cases h : n < 128
    · rw [vputF_lt h] at hj
      simp at hj
    · have ht : (u8of (n % 128 + 128)).toNat = n % 128 + 128 := u8of_toNat (by omega)
      rw [vputF, if_neg h] at hj ⊢
      simp only [List.length_cons] at hj
      have ih := vgetF_cut k (n / 128) (i + 1) j (by omega) (by
        refine Nat.lt_of_le_of_lt ?_ hn
        rw [Nat.pow_succ, Nat.mul_comm (128 ^ i) 128, ← Nat.mul_assoc]
        exact Nat.mul_le_mul_right _ (Nat.div_mul_le_self n 128)) (by omega)
      simp only [List.take_succ_cons, vgetF, ht, ih]
      rw [if_neg (by omega), if_neg (by omega), if_neg (by omega)]

/-- A text behind its length, as it stands within others, is taken. -/
theorem vtake_text (a t r : List UInt8) (most : Int) (ht : t.length < 18446744073709551616) (hm : (t.length : Int) ≤ most) :
    vtake (a ++ (vput t.length ++ t ++ r)) (a.length : Int) most = (t, a.length + (vput t.length).length + t.length, 0) := by
  unfold vtake
  rw [List.append_assoc, vget_vput _ ht]
  simp only [ne_eq, not_true_eq_false, if_false]
  rw [if_neg (by omega), if_neg (by simp; omega)]
  have e : List.drop (a.length + (vput t.length).length) (a ++ (vput t.length ++ (t ++ r))) = t ++ r := by
    rw [← List.append_assoc a]
    rw [List.drop_append_of_le_length (by simp)]
    rw [List.drop_of_length_le (by simp)]
    simp
  rw [e]
  simp

/-- .. cut short, it is not. -/
theorem vtake_cut (a t r : List UInt8) (most : Int) (ht : t.length < 18446744073709551616) (hm : (t.length : Int) ≤ most) (c : Nat) (h1 : a.length ≤ c) (h2 : c < a.length + (vput t.length).length + t.length) :
    vtake ((a ++ (vput t.length ++ t ++ r)).take c) (a.length : Int) most = ([], 0, 2) := by
  have e1 : (a ++ (vput t.length ++ t ++ r)).take c = a ++ (vput t.length ++ t).take (c - a.length) := by
    rw [List.take_append, List.take_of_length_le h1, List.take_append_of_le_length (by simp; omega)]
  rw [e1]
  by_cases hc : c - a.length < (vput t.length).length
  · rw [List.take_append_of_le_length (by omega)]
    have e2 : vget (a ++ (vput t.length).take (c - a.length)) (a.length : Int) = (0, 0, 2) := by
      unfold vget
      rw [if_neg (by simp; omega)]
      have e3 : List.drop ((a.length : Int)).toNat (a ++ (vput t.length).take (c - a.length)) = (vput t.length).take (c - a.length) := by simp
      rw [e3]
      have := vgetF_cut 9 t.length 0 (c - a.length) rfl (by simpa using ht) hc
      unfold vput
      rw [this]
      simp
    unfold vtake
    rw [e2]
    simp
  · have e2 : (vput t.length ++ t).take (c - a.length) = vput t.length ++ t.take (c - a.length - (vput t.length).length) := by
      rw [List.take_append, List.take_of_length_le (by omega)]
    rw [e2]
    unfold vtake
    rw [vget_vput _ ht]
    simp only [ne_eq, not_true_eq_false, if_false]
    rw [if_neg (by omega), if_pos (by simp; omega)]

/-- Texts behind their lengths, one behind the other. -/
def tflat (l : List (List UInt8)) : List UInt8 := (l.map fun t => vput t.length ++ t).flatten

theorem tflat_succ (l : List (List UInt8)) (i : Nat) (h : i < l.length) : tflat (l.take (i + 1)) = tflat (l.take i) ++ (vput (l.getD i []).length ++ l.getD i []) := by
  unfold tflat
  rw [List.take_succ_eq_append_getElem h, List.map_append, List.flatten_append, show l.getD i [] = l[i] by simp [List.getD, List.getElem?_eq_getElem h]]
  simp only [List.map_cons, List.map_nil, List.flatten_cons, List.flatten_nil, List.append_nil]

theorem tflat_split (l : List (List UInt8)) (i : Nat) (h : i < l.length) : tflat l = tflat (l.take i) ++ (vput (l.getD i []).length ++ l.getD i [] ++ tflat (l.drop (i + 1))) := by
  have e : l = l.take i ++ l.getD i [] :: l.drop (i + 1) := by
    rw [show l.getD i [] = l[i] by simp [List.getD, List.getElem?_eq_getElem h]]
    simp
  unfold tflat
  conv => lhs; rw [e]
  simp

theorem tflat_len : ∀ (l : List (List UInt8)), (∀ t ∈ l, t.length ≤ 300) → (tflat l).length ≤ 310 * l.length
  | [], _ => by simp [tflat]
  | t :: l, h => by
    have h1 := vput_len_le t.length
    have h2 := tflat_len l (fun x hx => h x (by simp [hx]))
    have h3 := h t (by simp)
    simp only [tflat, List.map_cons, List.flatten_cons, List.length_append, List.length_cons] at h2 ⊢
    omega

theorem tflat_pos : ∀ (l : List (List UInt8)), l.length ≤ (tflat l).length
  | [] => by simp
  | t :: l => by
    have h1 := vput_len_pos t.length
    have h2 := tflat_pos l
    simp only [tflat, List.map_cons, List.flatten_cons, List.length_append, List.length_cons] at h2 ⊢
    omega

end Go.Proofs.Ythfkfonfiejbmaa
