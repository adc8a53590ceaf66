/-
  TEXTS OF THE PROOF, one behind the other: ViewW, ArrS.
-/
import Derived.Test.YtphfinlfabklmaaGreatA39
import Derived.Test.YtphfinlfabklmaaGreatA23
import Derived.Test.YtphfinlfabklmaaGreatA16
import Derived.ProofKit
import Derived.OpenShut
import Derived.WalkKit

section

/-
  LAYER 15: small words for the walks.
-/
namespace Go.Proofs.YtphfinlfabklmaaGreat
open Go.RowKit

theorem fewSta_V {t : Sta} (h : fewSta t = true) : (ShortE t.e ∧ ShortS t.s) ∧ t.e.length ≤ 80 ∧ t.s.length ≤ 50 := by
  unfold fewSta at h
  rw [Bool.and_eq_true] at h
  refine ⟨⟨fewR_short h.1, fun s hs => ?_⟩, (fewR_get h.1).1, (few_get h.2).1⟩
  have := (few_get h.2).2 s hs
  omega

theorem vwWat_le (t : Sta) (c : List UInt8) : (vwWat t c).length ≤ t.e.length := by
  unfold vwWat
  by_cases h : stMay t = true ∧ seOf t.s c ≠ []
  · rw [if_pos h]
    unfold roWat
    rw [List.length_map]
    exact List.length_filter_le _ _
  · rw [if_neg h]
    exact Nat.zero_le _

theorem long_yes {u : List UInt8} (h : ¬ u.length ≤ 40) : decide ((40 : Int) < (u.length : Int)) = true := by simp; omega
theorem long_no {u : List UInt8} (h : u.length ≤ 40) : decide ((40 : Int) < (u.length : Int)) = false := by simp; omega

theorem bool_eql (q : Bool) : (q == q) = true := by cases q <;> rfl

end Go.Proofs.YtphfinlfabklmaaGreat

end

section

/-
  AN ARRAY OF TEXTS, BY VALUE, AS AN ARGUMENT: opened. Over any program.
-/
namespace Go.Proofs.YtphfinlfabklmaaGreat
open Go.RowKit Go.WideShapes

theorem str_list : ∀ (l : List Value), (∀ i (h : i < l.length), ∃ s : ByteArray, l[i] = .string s ∧ s.size ≤ maxLen) →
    ∃ zs : List (List UInt8), l = zs.map (fun z => Value.string ⟨z.toArray⟩) ∧ ∀ z ∈ zs, z.length ≤ maxLen
  | [], _ => ⟨[], rfl, by simp⟩
  | v :: l, h => by
    obtain ⟨zs, hz, hw⟩ := str_list l (fun i hi => by
      have := h (i + 1) (by simp; omega)
      simpa using this)
    obtain ⟨s, hn, hwf⟩ := h 0 (by simp)
    simp only [List.getElem_cons_zero] at hn
    refine ⟨s.data.toList :: zs, by cases s; simp [hn, hz], ?_⟩
    intro z hz'
    rcases List.mem_cons.1 hz' with rfl | h1
    · exact Nat.le_trans (Nat.le_of_eq (Array.length_toList (xs := s.data))) hwf
    · exact hw z h1

theorem open_strs_array {H : Type} {enc : TypeId × Value → H} {P : Program} {w : World} {b0 base : Nat} {spare : Nat → Bool} {held : Bool} {r : Reach} {t e : TypeId} {n : Nat} {v : Value} {d : DataW H} {p : List MemPlace}
    (ht : P.underlying t = some (.array n e)) (he : P.underlying e = some .string) (hc : P.cellsOf t = n) (hce : P.cellsOf e = 1)
    (hv : Value.okWide P w r b0 t v) (h : DataW.Trod enc P w base spare held t v d p) :
    ∃ zs : List (List UInt8), v = .agg (zs.map (fun z => Value.string ⟨z.toArray⟩)).toArray ∧ zs.length = n ∧ ∀ z ∈ zs, z.length ≤ maxLen := by
  simp only [Value.okWide, ht] at hv
  obtain ⟨cs, rfl, hsz, _⟩ := hv
  obtain ⟨fuel, hf⟩ := h
  obtain ⟨xs, m, _, _, _, hxl, hi⟩ := DataW.trod_array ht hf
  have hcells : (Value.agg cs).cells.toList = cs.toList := rfl
  have hlen : cs.toList.length = n := by simp; omega
  have key : ∀ i (h : i < cs.toList.length), ∃ s : ByteArray, cs.toList[i] = .string s ∧ s.size ≤ maxLen := by
    intro i hlt
    have h1 := hi i (by omega)
    rw [hce, Nat.mul_one, hcells] at h1
    have h2 : xs[i]? = some xs[i] := List.getElem?_eq_getElem (by omega)
    rw [h2] at h1
    obtain ⟨z, hz, _, hw⟩ := DataW.trod_string he h1
    refine ⟨z, ?_, hw⟩
    have h3 : (cs.toList.drop i).take 1 = [cs.toList[i]] := by
      rw [List.drop_eq_getElem_cons hlt]
      rfl
    rw [h3] at hz
    simpa using hz
  obtain ⟨zs, hz, hw⟩ := str_list cs.toList key
  refine ⟨zs, ?_, ?_, hw⟩
  · rw [← hz]
  · have := congrArg List.length hz
    simp at this
    omega

end Go.Proofs.YtphfinlfabklmaaGreat

end
