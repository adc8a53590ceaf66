/-
  TEXTS OF THE PROOF, one behind the other: FraLive, FraW, CrcSpoil, Arr.
-/
import Derived.Test.YtekkofldhhdpgaaT20
import Derived.Test.YtekkofldhhdpgaaT23
import Derived.Test.YtekkofldhhdpgaaT08
import Derived.ProofKit
import Derived.OpenShut
import Derived.WalkKit

section

/-
  LAYER 6: live.
-/
namespace Go.Proofs.Ytekkofldhhdpgaa
open Go.RowKit

theorem lf1 : frMay ⟨1, 300, true, [97, 110, 110], ⟨4, 0, 5, []⟩, 0, []⟩ = true := by decide +kernel
theorem lf2 : frPlain ⟨1, 300, true, [97, 110, 110], ⟨4, 0, 5, []⟩, 0, []⟩ = [1, 172, 2, 1, 3, 97, 110, 110, 4, 128, 5, 0] := by decide +kernel
theorem lf3 : frEnc ⟨1, 300, true, [97, 110, 110], ⟨4, 0, 5, []⟩, 0, []⟩ = (cseal [1, 172, 2, 1, 3, 97, 110, 110, 4, 128, 5, 0], 0) := by unfold frEnc; rw [if_pos lf1, lf2]
theorem lf4 : frDec (cseal [1, 172, 2, 1, 3, 97, 110, 110, 4, 128, 5, 0]) = (⟨1, 300, true, [97, 110, 110], ⟨4, 0, 5, []⟩, 0, []⟩, 0) := (frDec_plain lf1 (by decide) (by rw [lf2])).1
theorem lf5 : frMay ⟨4, 5, false, [], ⟨0, 0, 0, []⟩, 0, []⟩ = true := by decide +kernel
theorem lf6 : frPlain ⟨4, 5, false, [], ⟨0, 0, 0, []⟩, 0, []⟩ = [4, 5] := by decide +kernel
theorem lf7 : frEnc ⟨4, 5, false, [], ⟨0, 0, 0, []⟩, 0, []⟩ = (cseal [4, 5], 0) := by unfold frEnc; rw [if_pos lf5, lf6]
theorem lf8 : frMay ⟨4, 0, true, [], ⟨0, 0, 0, []⟩, 0, []⟩ = false := by decide +kernel
theorem lf9 : frEnc ⟨4, 0, true, [], ⟨0, 0, 0, []⟩, 0, []⟩ = ([], 1) := by unfold frEnc; rw [if_neg (by rw [lf8]; decide)]
theorem lf10 : frDec [97, 98, 99] = (⟨0, 0, false, [], ⟨0, 0, 0, []⟩, 0, []⟩, 2) := by
  have h : copen [97, 98, 99] = ([], 2) := by decide +kernel
  unfold frDec; rw [h, if_pos (by decide)]; rfl
theorem lf11 : frDec [97, 98, 99, 100, 101, 102] = (⟨0, 0, false, [], ⟨0, 0, 0, []⟩, 0, []⟩, 4) := by
  have h : copen [97, 98, 99, 100, 101, 102] = ([], 4) := by decide +kernel
  unfold frDec; rw [h, if_pos (by decide)]; rfl
theorem lf12 : frDec (cseal [5, 0]) = (⟨0, 0, false, [], ⟨0, 0, 0, []⟩, 0, []⟩, 3) := by
  unfold frDec; rw [copen_seal, if_neg (by decide)]; rfl
theorem lf13 : frMay ⟨0, 0, false, [], ⟨0, 0, 0, []⟩, 0, []⟩ = false := frMay_zero
theorem lf14 : frSame ⟨1, 300, true, [97, 110, 110], ⟨4, 0, 5, []⟩, 0, []⟩ ⟨1, 300, true, [97, 110, 110], ⟨4, 0, 5, []⟩, 0, []⟩ = true := frSame_iff.2 rfl
theorem lf15 : frSame ⟨1, 300, true, [97, 110, 110], ⟨4, 0, 5, []⟩, 0, []⟩ ⟨0, 0, false, [], ⟨0, 0, 0, []⟩, 0, []⟩ = false := by decide +kernel

theorem seal_lenL (l : List UInt8) : (cseal l).length = l.length + 4 := by
  unfold cseal
  rw [List.length_append]
  rfl

end Go.Proofs.Ytekkofldhhdpgaa

end

section

/-
  FOR THE WALKS OF LAYER 6.
-/
namespace Go.Proofs.Ytekkofldhhdpgaa
open Go.RowKit

theorem fewF_get {f : Frm} (h : fewF f = true) : Short f.t ∧ f.c.length ≤ 4294967296 ∧ f.v.st.length ≤ 4294967296 := by
  unfold fewF at h
  simp only [Bool.and_eq_true, decide_eq_true_eq] at h
  exact ⟨fewT_short h.1, by omega, by omega⟩

end Go.Proofs.Ytekkofldhhdpgaa

end

section

/-
  PLAIN MATHEMATICS OF CrcSpoils: up to four bytes, one behind the other, changed in a sealed text.
-/
namespace Go.Proofs.Ytekkofldhhdpgaa

/-- Behind i bytes that may have been changed, from 'place' on: what the text is now; V: what was changed, as a number. -/
def SpoilAt (t : List UInt8) (place i : Nat) (u : List UInt8) (V : Nat) : Prop :=
  u.length = t.length ∧ cfold 4294967295 u = cfold 4294967295 t ^^^ cN (8 * (t.length - place)) V ∧ V < 2 ^ (8 * i) ∧ (V = 0 → u = t)

theorem spoil_start (t : List UInt8) (place : Nat) : SpoilAt t place 0 t 0 := by
  refine ⟨rfl, ?_, by simp, fun _ => rfl⟩
  rw [cN_zero, Nat.xor_zero]

theorem spoil_next {t u : List UInt8} {place i V : Nat} (m : UInt8) (h : SpoilAt t place i u V) (hj : place + i < u.length) :
    SpoilAt t place (i + 1) (u.set (place + i) (u[place + i] ^^^ m)) (V ^^^ m.toNat * 2 ^ (8 * i)) ∧ (V ^^^ m.toNat * 2 ^ (8 * i) = 0 ↔ V = 0 ∧ m.toNat = 0) := by
  obtain ⟨hl, hf, hV, hz⟩ := h
  have hm := m.toNat_lt
  have key : V ^^^ m.toNat * 2 ^ (8 * i) = 0 ↔ V = 0 ∧ m.toNat = 0 := by
    constructor
    · intro h0
      have h1 := xor_zero_eq h0
      by_cases hm0 : m.toNat = 0
      · rw [hm0, Nat.zero_mul] at h1
        exact ⟨h1, hm0⟩
      · exfalso
        have : 1 * 2 ^ (8 * i) ≤ m.toNat * 2 ^ (8 * i) := Nat.mul_le_mul_right _ (by omega)
        omega
    · rintro ⟨h1, h2⟩
      rw [h1, h2, Nat.zero_mul, Nat.xor_zero]
  refine ⟨⟨by simpa using hl, ?_, ?_, ?_⟩, key⟩
  · rw [cfold_set u _ _ m hj, hf, cN_xor]
    have e : 8 * (t.length - place) = 8 * i + 8 * (u.length - (place + i)) := by omega
    have e2 : cN (8 * (t.length - place)) (m.toNat * 2 ^ (8 * i)) = cN (8 * (u.length - (place + i))) m.toNat := by
      rw [e, cN_add, cN_shift]
    rw [e2, Nat.xor_assoc]
  · refine Nat.xor_lt_two_pow (Nat.lt_of_lt_of_le hV (Nat.pow_le_pow_right (by decide) (by omega))) ?_
    have h1 : m.toNat * 2 ^ (8 * i) < 2 ^ 8 * 2 ^ (8 * i) := Nat.mul_lt_mul_of_pos_right hm (Nat.pow_pos (by decide))
    rwa [← Nat.pow_add, show 8 + 8 * i = 8 * (i + 1) by omega] at h1
  · intro h0
    obtain ⟨h1, h2⟩ := key.1 h0
    have hm0 : m = 0 := UInt8.toNat_inj.1 (by simpa using h2)
    subst hm0
    simp only [UInt8.xor_zero, List.set_getElem_self]
    exact hz h1

/-- What was changed is told. -/
theorem spoil_end {s u : List UInt8} {place i V : Nat} (h : SpoilAt (cseal s) place i u V) (hi : i ≤ 4) :
    (V = 0 → copen u = (s, 0)) ∧ (V ≠ 0 → copen u = ([], 4)) := by
  obtain ⟨hl, hf, hV, hz⟩ := h
  constructor
  · intro h0
    rw [hz h0]
    exact copen_seal s
  · intro h0
    have h4 : (cseal s).length = s.length + 4 := by simp [cseal, low4]
    refine copen_spoilt (by omega) ?_
    rw [hf, cseal_fold]
    intro hk
    have h1 : cN (8 * ((cseal s).length - place)) V = 0 := by
      have h2 : cK ^^^ (cK ^^^ cN (8 * ((cseal s).length - place)) V) = cK ^^^ cK := by rw [hk]
      rwa [← Nat.xor_assoc, Nat.xor_self, Nat.zero_xor] at h2
    refine h0 (cN_zero_of _ ?_ h1)
    refine Nat.lt_of_lt_of_le hV ?_
    calc 2 ^ (8 * i) ≤ 2 ^ 32 := Nat.pow_le_pow_right (by decide) (by omega)
      _ = 4294967296 := by decide

end Go.Proofs.Ytekkofldhhdpgaa

end

section

/-
  AN ARRAY OF INTEGERS, BY VALUE, AS AN ARGUMENT: opened. Over any program.
-/
namespace Go.Proofs.Ytekkofldhhdpgaa
open Go.RowKit Go.WideShapes

theorem int_list (k : IntKind) : ∀ (l : List Value), (∀ i (h : i < l.length), ∃ n, l[i] = .int k n ∧ (Lit.int k n).wf = true) →
    ∃ zs : List Int, l = zs.map (Value.int k) ∧ ∀ z ∈ zs, (Lit.int k z).wf = true
  | [], _ => ⟨[], rfl, by simp⟩
  | v :: l, h => by
    obtain ⟨zs, hz, hw⟩ := int_list k l (fun i hi => by
      have := h (i + 1) (by simp; omega)
      simpa using this)
    obtain ⟨n, hn, hwf⟩ := h 0 (by simp)
    simp only [List.getElem_cons_zero] at hn
    refine ⟨n :: zs, by simp [hn, hz], ?_⟩
    intro z hz'
    rcases List.mem_cons.1 hz' with rfl | h1
    · exact hwf
    · exact hw z h1

theorem open_ints_array {H : Type} {enc : TypeId × Value → H} {P : Program} {w : World} {b0 base : Nat} {spare : Nat → Bool} {held : Bool} {r : Reach} {t e : TypeId} {n : Nat} {k : IntKind} {v : Value} {d : DataW H} {p : List MemPlace}
    (ht : P.underlying t = some (.array n e)) (he : P.underlying e = some (.int k)) (hc : P.cellsOf t = n) (hce : P.cellsOf e = 1)
    (hv : Value.okWide P w r b0 t v) (h : DataW.Trod enc P w base spare held t v d p) :
    ∃ zs : List Int, v = .agg (zs.map (Value.int k)).toArray ∧ zs.length = n ∧ ∀ z ∈ zs, (Lit.int k z).wf = true := by
  simp only [Value.okWide, ht] at hv
  obtain ⟨cs, rfl, hsz, _⟩ := hv
  obtain ⟨fuel, hf⟩ := h
  obtain ⟨xs, m, _, _, _, hxl, hi⟩ := DataW.trod_array ht hf
  have hcells : (Value.agg cs).cells.toList = cs.toList := rfl
  have hlen : cs.toList.length = n := by simp; omega
  have key : ∀ i (h : i < cs.toList.length), ∃ z, cs.toList[i] = .int k z ∧ (Lit.int k z).wf = true := by
    intro i hlt
    have h1 := hi i (by omega)
    rw [hce, Nat.mul_one, hcells] at h1
    have h2 : xs[i]? = some xs[i] := List.getElem?_eq_getElem (by omega)
    rw [h2] at h1
    obtain ⟨z, hz, _, hw⟩ := DataW.trod_int he h1
    refine ⟨z, ?_, hw⟩
    have h3 : (cs.toList.drop i).take 1 = [cs.toList[i]] := by
      rw [List.drop_eq_getElem_cons hlt]
      rfl
    rw [h3] at hz
    simpa using hz
  obtain ⟨zs, hz, hw⟩ := int_list k cs.toList key
  refine ⟨zs, ?_, ?_, hw⟩
  · rw [← hz]
  · have := congrArg List.length hz
    simp at this
    omega

end Go.Proofs.Ytekkofldhhdpgaa

end
