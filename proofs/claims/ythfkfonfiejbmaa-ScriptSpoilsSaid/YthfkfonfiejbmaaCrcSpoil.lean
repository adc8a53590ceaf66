/-
  PLAIN MATHEMATICS OF CrcSpoils: up to four bytes, one behind the other, changed in a sealed text.
-/
import Derived.Test.YthfkfonfiejbmaaCrcPure
namespace Go.Proofs.Ythfkfonfiejbmaa

/-- Behind i bytes that may have been changed, from 'place' on: what the text is now; V: what was changed, as a number. -/
def SpoilAt (t : List UInt8) (place i : Nat) (u : List UInt8) (V : Nat) : Prop :=
  u.length = t.length ∧ cfold 4294967295 u = cfold 4294967295 t ^^^ cN (8 * (t.length - place)) V ∧ V < 2 ^ (8 * i) ∧ (V = 0 → u = t)

theorem spoil_start (t : List UInt8) (place : Nat) : SpoilAt t place 0 t 0 := by
  refine ⟨rfl, ?_, by simp, fun _ => rfl⟩
  rw [cN_zero, Nat.xor_zero]

theorem spoil_next {t u : List UInt8} {place i V : Nat} (m : UInt8) (h : SpoilAt t place i u V) (hj : place + i < u.length) :
    SpoilAt t place (i + 1) (u.set (place + i) (u[place + i] ^^^ m)) (V ^^^ m.toNat * 2 ^ (8 * i)) ∧ (V ^^^ m.toNat * 2 ^ (8 * i) = 0 ↔ V = 0 ∧ m.toNat = 0) := by
  obtain ⟨hl, hf, hV, hz⟩ := h
  have hm := m.toNat_lt
  have key : V ^^^ m.toNat * 2 ^ (8 * i) = 0 ↔ V = 0 ∧ m.toNat = 0 := by
    constructor
    · intro h0
      have h1 := xor_zero_eq h0
      by_cases hm0 : m.toNat = 0
      · rw [hm0, Nat.zero_mul] at h1
        exact ⟨h1, hm0⟩
      · exfalso
        have : 1 * 2 ^ (8 * i) ≤ m.toNat * 2 ^ (8 * i) := Nat.mul_le_mul_right _ (by omega)
        omega
    · rintro ⟨h1, h2⟩
      rw [h1, h2, Nat.zero_mul, Nat.xor_zero]
  refine ⟨⟨by simpa using hl, ?_, ?_, ?_⟩, key⟩
  · rw [cfold_set u _ _ m hj, hf, cN_xor]
    have e : 8 * (t.length - place) = 8 * i + 8 * (u.length - (place + i)) := by omega
    have e2 : cN (8 * (t.length - place)) (m.toNat * 2 ^ (8 * i)) = cN (8 * (u.length - (place + i))) m.toNat := by
      rw [e, cN_add, cN_shift]
    rw [e2, Nat.xor_assoc]
  · refine Nat.xor_lt_two_pow (Nat.lt_of_lt_of_le hV (Nat.pow_le_pow_right (by decide) (by omega))) ?_
    have h1 : m.toNat * 2 ^ (8 * i) < 2 ^ 8 * 2 ^ (8 * i) := Nat.mul_lt_mul_of_pos_right hm (Nat.pow_pos (by decide))
    rwa [← Nat.pow_add, show 8 + 8 * i = 8 * (i + 1) by omega] at h1
  · intro h0
    obtain ⟨h1, h2⟩ := key.1 h0
    have hm0 : m = 0 := UInt8.toNat_inj.1 (by simpa using h2)
    subst hm0
    simp only [UInt8.xor_zero, List.set_getElem_self]
    exact hz h1

/-- What was changed is told. -/
theorem spoil_end {s u : List UInt8} {place i V : Nat} (h : SpoilAt (cseal s) place i u V) (hi : i ≤ 4) :
    (V = 0 → copen u = (s, 0)) ∧ (V ≠ 0 → copen u = ([], 4)) := by
  obtain ⟨hl, hf, hV, hz⟩ := h
  constructor
  · intro h0
    rw [hz h0]
    exact copen_seal s
  · intro h0
    have h4 : (cseal s).length = s.length + 4 := by simp [cseal, low4]
    refine copen_spoilt (by omega) ?_
    rw [hf, cseal_fold]
    intro hk
    have h1 : cN (8 * ((cseal s).length - place)) V = 0 := by
      have h2 : cK ^^^ (cK ^^^ cN (8 * ((cseal s).length - place)) V) = cK ^^^ cK := by rw [hk]
      rwa [← Nat.xor_assoc, Nat.xor_self, Nat.zero_xor] at h2
    refine h0 (cN_zero_of _ ?_ h1)
    refine Nat.lt_of_lt_of_le hV ?_
    calc 2 ^ (8 * i) ≤ 2 ^ 32 := Nat.pow_le_pow_right (by decide) (by omega)
      _ = 4294967296 := by decide

end Go.Proofs.Ythfkfonfiejbmaa
