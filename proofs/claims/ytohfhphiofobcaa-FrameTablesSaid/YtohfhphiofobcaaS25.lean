/-
  TEXTS OF THE PROOF, one behind the other: FraP, CrcSpoil, Arr.
-/
import Derived.Test.YtohfhphiofobcaaS14
import Derived.Test.YtohfhphiofobcaaS07
import Derived.ProofKit
import Derived.OpenShut
import Derived.WalkKit

section

/-
  LAYER 6, PLAIN: what is encoded, how long it is, and a table with a row less.
-/
namespace Go.Proofs.Ytohfhphiofobcaa

theorem enc_mayP {f : Frm} (h : frMay f = true) : frEnc f = (cseal (frPlain f), 0) := by unfold frEnc; rw [if_pos h]
theorem enc_notP {f : Frm} (h : frMay f = false) : frEnc f = ([], 1) := by unfold frEnc; rw [if_neg (by rw [h]; decide)]

theorem seal_lenP (l : List UInt8) : (cseal l).length = l.length + 4 := by simp [cseal, low4]

theorem enc_lenP {f : Frm} (h : frMay f = true) : 6 ≤ (cseal (frPlain f)).length ∧ (cseal (frPlain f)).length ≤ 2000 := by
  have := frPlain_len h
  rw [seal_lenP]
  omega

theorem may3_iff {q sum : Nat} {i : Int} {on : Bool} {c : List UInt8} {v : Val} {t : List Row} (_ : q = 0) :
    frMay ⟨3, i, on, c, v, sum, t⟩ = true ↔ ((decide (0 ≤ i) && decide (i ≤ 1099511627776)) = true ∧ (!on && (c == [] && vSame v Val.zero)) = true ∧ decide (sum = 0) = true) ∧ diMay t = true := by
  unfold frMay frRest
  simp only [show ¬ (3 : Int) = 1 by omega, show ¬ (3 : Int) = 2 by omega, if_false, if_true, Bool.and_eq_true]
  constructor
  · rintro ⟨-, h1, h2, h3, h4⟩
    exact ⟨⟨h1, h2, h3⟩, h4⟩
  · rintro ⟨⟨h1, h2, h3⟩, h4⟩
    exact ⟨⟨rfl, rfl⟩, h1, h2, h3, h4⟩

theorem less_may {i : Int} {on : Bool} {c : List UInt8} {v : Val} {sum n : Nat} {t : List Row} (h : frMay ⟨3, i, on, c, v, sum, t⟩ = true) (hn : t.length = n + 1) :
    frMay ⟨3, i, on, c, v, sum, t.take n⟩ = true ∧ (cseal (frPlain ⟨3, i, on, c, v, sum, t.take n⟩)).length < (cseal (frPlain ⟨3, i, on, c, v, sum, t⟩)).length := by
  obtain ⟨h1, h2⟩ := (may3_iff (q := 0) rfl).1 h
  have h3 := may_less h2
  have h4 := bytes_less h2 (by omega)
  rw [hn, Nat.add_sub_cancel] at h3 h4
  refine ⟨(may3_iff (q := 0) rfl).2 ⟨h1, h3⟩, ?_⟩
  rw [seal_lenP, seal_lenP]
  unfold frPlain frBody diPut
  simp only [show ¬ (3 : Int) = 1 by omega, show ¬ (3 : Int) = 2 by omega, if_false, if_true, h2, h3, List.length_cons, List.length_append]
  omega

end Go.Proofs.Ytohfhphiofobcaa

end

section

/-
  PLAIN MATHEMATICS OF CrcSpoils: up to four bytes, one behind the other, changed in a sealed text.
-/
namespace Go.Proofs.Ytohfhphiofobcaa

/-- Behind i bytes that may have been changed, from 'place' on: what the text is now; V: what was changed, as a number. -/
def SpoilAt (t : List UInt8) (place i : Nat) (u : List UInt8) (V : Nat) : Prop :=
  u.length = t.length ∧ cfold 4294967295 u = cfold 4294967295 t ^^^ cN (8 * (t.length - place)) V ∧ V < 2 ^ (8 * i) ∧ (V = 0 → u = t)

theorem spoil_start (t : List UInt8) (place : Nat) : SpoilAt t place 0 t 0 := by
  refine ⟨rfl, ?_, by simp, fun _ => rfl⟩
  rw [cN_zero, Nat.xor_zero]

theorem spoil_next {t u : List UInt8} {place i V : Nat} (m : UInt8) (h : SpoilAt t place i u V) (hj : place + i < u.length) :
    SpoilAt t place (i + 1) (u.set (place + i) (u[place + i] ^^^ m)) (V ^^^ m.toNat * 2 ^ (8 * i)) ∧ (V ^^^ m.toNat * 2 ^ (8 * i) = 0 ↔ V = 0 ∧ m.toNat = 0) := by
  obtain ⟨hl, hf, hV, hz⟩ := h
  have hm := m.toNat_lt
  have key : V ^^^ m.toNat * 2 ^ (8 * i) = 0 ↔ V = 0 ∧ m.toNat = 0 := by
    constructor
    · intro h0
      have h1 := xor_zero_eq h0
      by_cases hm0 : m.toNat = 0
      · rw [hm0, Nat.zero_mul] at h1
        exact ⟨h1, hm0⟩
      · exfalso
        have : 1 * 2 ^ (8 * i) ≤ m.toNat * 2 ^ (8 * i) := Nat.mul_le_mul_right _ (by omega)
        omega
    · rintro ⟨h1, h2⟩
      rw [h1, h2, Nat.zero_mul, Nat.xor_zero]
  refine ⟨⟨by simpa using hl, ?_, ?_, ?_⟩, key⟩
  · rw [cfold_set u _ _ m hj, hf, cN_xor]
    have e : 8 * (t.length - place) = 8 * i + 8 * (u.length - (place + i)) := by omega
    have e2 : cN (8 * (t.length - place)) (m.toNat * 2 ^ (8 * i)) = cN (8 * (u.length - (place + i))) m.toNat := by
      rw [e, cN_add, cN_shift]
    rw [e2, Nat.xor_assoc]
  · refine Nat.xor_lt_two_pow (Nat.lt_of_lt_of_le hV (Nat.pow_le_pow_right (by decide) (by omega))) ?_
    have h1 : m.toNat * 2 ^ (8 * i) < 2 ^ 8 * 2 ^ (8 * i) := Nat.mul_lt_mul_of_pos_right hm (Nat.pow_pos (by decide))
    rwa [← Nat.pow_add, show 8 + 8 * i = 8 * (i + 1) by omega] at h1
  · intro h0
    obtain ⟨h1, h2⟩ := key.1 h0
    have hm0 : m = 0 := UInt8.toNat_inj.1 (by simpa using h2)
    subst hm0
    simp only [UInt8.xor_zero, List.set_getElem_self]
    exact hz h1

/-- What was changed is told. -/
theorem spoil_end {s u : List UInt8} {place i V : Nat} (h : SpoilAt (cseal s) place i u V) (hi : i ≤ 4) :
    (V = 0 → copen u = (s, 0)) ∧ (V ≠ 0 → copen u = ([], 4)) := by
  obtain ⟨hl, hf, hV, hz⟩ := h
  constructor
  · intro h0
    rw [hz h0]
    exact copen_seal s
  · intro h0
    have h4 : (cseal s).length = s.length + 4 := by simp [cseal, low4]
    refine copen_spoilt (by omega) ?_
    rw [hf, cseal_fold]
    intro hk
    have h1 : cN (8 * ((cseal s).length - place)) V = 0 := by
      have h2 : cK ^^^ (cK ^^^ cN (8 * ((cseal s).length - place)) V) = cK ^^^ cK := by rw [hk]
      rwa [← Nat.xor_assoc, Nat.xor_self, Nat.zero_xor] at h2
    refine h0 (cN_zero_of _ ?_ h1)
    refine Nat.lt_of_lt_of_le hV ?_
    calc 2 ^ (8 * i) ≤ 2 ^ 32 := Nat.pow_le_pow_right (by decide) (by omega)
      _ = 4294967296 := by decide

end Go.Proofs.Ytohfhphiofobcaa

end

section

/-
  AN ARRAY OF INTEGERS, BY VALUE, AS AN ARGUMENT: opened. Over any program.
-/
namespace Go.Proofs.Ytohfhphiofobcaa
open Go.RowKit Go.WideShapes

theorem int_list (k : IntKind) : ∀ (l : List Value), (∀ i (h : i < l.length), ∃ n, l[i] = .int k n ∧ (Lit.int k n).wf = true) →
    ∃ zs : List Int, l = zs.map (Value.int k) ∧ ∀ z ∈ zs, (Lit.int k z).wf = true
  | [], _ => ⟨[], rfl, by simp⟩
  | v :: l, h => by
    obtain ⟨zs, hz, hw⟩ := int_list k l (fun i hi => by
      have := h (i + 1) (by simp; omega)
      simpa using this)
    obtain ⟨n, hn, hwf⟩ := h 0 (by simp)
    simp only [List.getElem_cons_zero] at hn
    refine ⟨n :: zs, by simp [hn, hz], ?_⟩
    intro z hz'
    rcases List.mem_cons.1 hz' with rfl | h1
    · exact hwf
    · exact hw z h1

theorem open_ints_array {H : Type} {enc : TypeId × Value → H} {P : Program} {w : World} {b0 base : Nat} {spare : Nat → Bool} {held : Bool} {r : Reach} {t e : TypeId} {n : Nat} {k : IntKind} {v : Value} {d : DataW H} {p : List MemPlace}
    (ht : P.underlying t = some (.array n e)) (he : P.underlying e = some (.int k)) (hc : P.cellsOf t = n) (hce : P.cellsOf e = 1)
    (hv : Value.okWide P w r b0 t v) (h : DataW.Trod enc P w base spare held t v d p) :
    ∃ zs : List Int, v = .agg (zs.map (Value.int k)).toArray ∧ zs.length = n ∧ ∀ z ∈ zs, (Lit.int k z).wf = true := by
  simp only [Value.okWide, ht] at hv
  obtain ⟨cs, rfl, hsz, _⟩ := hv
  obtain ⟨fuel, hf⟩ := h
  obtain ⟨xs, m, _, _, _, hxl, hi⟩ := DataW.trod_array ht hf
  have hcells : (Value.agg cs).cells.toList = cs.toList := rfl
  have hlen : cs.toList.length = n := by simp; omega
  have key : ∀ i (h : i < cs.toList.length), ∃ z, cs.toList[i] = .int k z ∧ (Lit.int k z).wf = true := by
    intro i hlt
    have h1 := hi i (by omega)
    rw [hce, Nat.mul_one, hcells] at h1
    have h2 : xs[i]? = some xs[i] := List.getElem?_eq_getElem (by omega)
    rw [h2] at h1
    obtain ⟨z, hz, _, hw⟩ := DataW.trod_int he h1
    refine ⟨z, ?_, hw⟩
    have h3 : (cs.toList.drop i).take 1 = [cs.toList[i]] := by
      rw [List.drop_eq_getElem_cons hlt]
      rfl
    rw [h3] at hz
    simpa using hz
  obtain ⟨zs, hz, hw⟩ := int_list k cs.toList key
  refine ⟨zs, ?_, ?_, hw⟩
  · rw [← hz]
  · have := congrArg List.length hz
    simp at this
    omega

end Go.Proofs.Ytohfhphiofobcaa

end
