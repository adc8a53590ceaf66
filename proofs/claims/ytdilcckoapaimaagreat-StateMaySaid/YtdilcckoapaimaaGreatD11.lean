/-
  TEXTS OF THE PROOF, one behind the other: SesOf, ArrS.
-/
import Derived.Test.YtdilcckoapaimaaGreatD05
import Derived.Test.YtdilcckoapaimaaGreatD01
import Derived.Test.YtdilcckoapaimaaGreatD08
import Derived.ProofKit
import Derived.OpenShut
import Derived.WalkKit

section

/-
  LAYER 9: the sessions of a User, the code's and the document's.
-/
namespace Go.Proofs.YtdilcckoapaimaaGreat
open Go.RowKit

theorem seOf_succ {l : List Ses} {k : Nat} (hk : k < l.length) (u : List UInt8) : seOf (l.take (k + 1)) u = if (l.getD k Ses.zero).u = u then seOf (l.take k) u ++ [l.getD k Ses.zero] else seOf (l.take k) u := by
  unfold seOf
  rw [List.take_succ_eq_append_getElem hk, sgetD hk, List.filter_append]
  by_cases h : l[k].u = u
  · rw [if_pos h, List.filter_cons, if_pos (by simp [h])]
    rfl
  · rw [if_neg h, List.filter_cons, if_neg (by simp [h])]
    simp

theorem seOf_le (l : List Ses) (u : List UInt8) : (seOf l u).length ≤ l.length := List.length_filter_le _ _

set_option maxHeartbeats 1600000 in
set_option maxRecDepth 100000 in
theorem rsof_any {w : World} {v : Value} {l : List Ses} (hv : Sess w v l) (hl : l.length ≤ 1000) (u : List UInt8) :
    Calls Tryz.prog 28 #[v, .string ⟨u.toArray⟩] w fun e w' => ∃ x, e = .returned x ∧ OwnSes w' w.heap.size x (seOf l u) ∧ Below w.heap.size w w' := by
  have HV := Lib.hid hv
  obtain ⟨a, cap, rfl, _⟩ := hv.open'
  clear hv
  go_enter Tryz.func28, Tryz.ntmps28
  go_wp2_with fail
  go_loopw [5, 6] (fun s i wr => ∃ k : Nat, k ≤ l.length ∧ i = .int .i64 k ∧ Hid (OwnSes wr w.heap.size s (seOf (l.take k) u)) ∧ Hid (Below w.heap.size w wr)) (fun _ i _ => l.length - (intOf i).toNat)
  case atStart => exact ⟨0, by omega, rfl, ownS_nil _ _, Below.refl _ _⟩
  case round =>
    obtain ⟨k, hk, rfl, HO, HN⟩ := hrel
    by_cases hlt : k < l.length
    · obtain ⟨b, off, rfl, hc⟩ := HV.out.row HN.out k hlt
      have hX := seOf_succ hlt u
      obtain ⟨⟨eu, ei, ⟨ea, eb, ec, es⟩⟩, hr⟩ : ∃ r, l.getD k Ses.zero = r := ⟨_, rfl⟩
      rw [hr] at hc hX
      try simp only at hX
      obtain ⟨h0, h1, h2, h3, h4, h5⟩ := cells6 hc
      try simp only at h0 h1 h2 h3 h4 h5
      clear hr hc
      by_cases ho : eu = u
      · rw [if_pos ho] at hX
        have HX := Lib.hid hX
        subst ho
        have O2 := Lib.hid (HO.out.alloc (.cells #[.string ⟨eu.toArray⟩, .int .i64 ei, .int .i64 ea, .int .i64 eb, .int .i64 ec, .string ⟨es.toArray⟩] 83))
        have N2 := Lib.hid (bl_allocZ HN.out (.cells #[.string ⟨eu.toArray⟩, .int .i64 ei, .int .i64 ea, .int .i64 eb, .int .i64 ec, .string ⟨es.toArray⟩] 83))
        have hz3 := N2.out.size
        have hcl : (seOf (l.take k) eu).length ≤ 1000 := by have := seOf_le (l.take k) eu; rw [List.length_take] at this; omega
        have C4 := Lib.hid (srcS_new (vals := sesVals) (w := wr) (r := ⟨eu, ei, ⟨ea, eb, ec, es⟩⟩) (cs := #[.string ⟨eu.toArray⟩, .int .i64 ei, .int .i64 ea, .int .i64 eb, .int .i64 ec, .string ⟨es.toArray⟩]) (e := 83) rfl (B := wr.heap.size) rfl)
        clear hX HO
        go_wp2_with (at_builtin; refine wpList_append_S sesOK rfl _ _ rfl w.heap.size _ (seOf (l.take k) eu) rfl O2.out (some ⟨wr.heap.size, 0, none⟩) 1 1 [⟨eu, ei, ⟨ea, eb, ec, es⟩⟩] rfl rfl (fun e => by cases e) C4.out (by simp only [List.length_cons, List.length_nil]; omega) hz3 ?_)
        intro v' w' hown' hb'
        rw [← HX.out] at hown'
        have O3 := Lib.hid hown'
        have N3 := Lib.hid (N2.out.trans hb')
        clear hown' hb' O2 C4 h0 h1 h2 h3 h4 h5
        go_wp2_with fail
        go_roundw
        case rel => exact ⟨k + 1, by omega, by go_num, O3, N3⟩
        case measure => simp [intOf]; omega
      · rw [if_neg ho] at hX
        have o3 := HO.out
        rw [← hX] at o3
        have O3 := Lib.hid o3
        clear o3
        have t1 : (eu == u) = false := by rw [beq_eq_false_iff_ne]; exact ho
        clear hX HO ho
        go_wp2_with fail
        go_roundw
        case rel => exact ⟨k + 1, by omega, by go_num, O3, HN⟩
        case measure => simp [intOf]; omega
    · obtain rfl : k = l.length := by omega
      have ht := HO.out
      rw [List.take_length] at ht
      have HT := Lib.hid ht
      clear ht
      go_wp2_with fail
      go_ret
      exact ⟨_, rfl, HT.out, HN.out⟩

end Go.Proofs.YtdilcckoapaimaaGreat

end

section

/-
  AN ARRAY OF TEXTS, BY VALUE, AS AN ARGUMENT: opened. Over any program.
-/
namespace Go.Proofs.YtdilcckoapaimaaGreat
open Go.RowKit Go.WideShapes

theorem str_list : ∀ (l : List Value), (∀ i (h : i < l.length), ∃ s : ByteArray, l[i] = .string s ∧ s.size ≤ maxLen) →
    ∃ zs : List (List UInt8), l = zs.map (fun z => Value.string ⟨z.toArray⟩) ∧ ∀ z ∈ zs, z.length ≤ maxLen
  | [], _ => ⟨[], rfl, by simp⟩
  | v :: l, h => by
    obtain ⟨zs, hz, hw⟩ := str_list l (fun i hi => by
      have := h (i + 1) (by simp; omega)
      simpa using this)
    obtain ⟨s, hn, hwf⟩ := h 0 (by simp)
    simp only [List.getElem_cons_zero] at hn
    refine ⟨s.data.toList :: zs, by cases s; simp [hn, hz], ?_⟩
    intro z hz'
    rcases List.mem_cons.1 hz' with rfl | h1
    · exact Nat.le_trans (Nat.le_of_eq (Array.length_toList (xs := s.data))) hwf
    · exact hw z h1

theorem open_strs_array {H : Type} {enc : TypeId × Value → H} {P : Program} {w : World} {b0 base : Nat} {spare : Nat → Bool} {held : Bool} {r : Reach} {t e : TypeId} {n : Nat} {v : Value} {d : DataW H} {p : List MemPlace}
    (ht : P.underlying t = some (.array n e)) (he : P.underlying e = some .string) (hc : P.cellsOf t = n) (hce : P.cellsOf e = 1)
    (hv : Value.okWide P w r b0 t v) (h : DataW.Trod enc P w base spare held t v d p) :
    ∃ zs : List (List UInt8), v = .agg (zs.map (fun z => Value.string ⟨z.toArray⟩)).toArray ∧ zs.length = n ∧ ∀ z ∈ zs, z.length ≤ maxLen := by
  simp only [Value.okWide, ht] at hv
  obtain ⟨cs, rfl, hsz, _⟩ := hv
  obtain ⟨fuel, hf⟩ := h
  obtain ⟨xs, m, _, _, _, hxl, hi⟩ := DataW.trod_array ht hf
  have hcells : (Value.agg cs).cells.toList = cs.toList := rfl
  have hlen : cs.toList.length = n := by simp; omega
  have key : ∀ i (h : i < cs.toList.length), ∃ s : ByteArray, cs.toList[i] = .string s ∧ s.size ≤ maxLen := by
    intro i hlt
    have h1 := hi i (by omega)
    rw [hce, Nat.mul_one, hcells] at h1
    have h2 : xs[i]? = some xs[i] := List.getElem?_eq_getElem (by omega)
    rw [h2] at h1
    obtain ⟨z, hz, _, hw⟩ := DataW.trod_string he h1
    refine ⟨z, ?_, hw⟩
    have h3 : (cs.toList.drop i).take 1 = [cs.toList[i]] := by
      rw [List.drop_eq_getElem_cons hlt]
      rfl
    rw [h3] at hz
    simpa using hz
  obtain ⟨zs, hz, hw⟩ := str_list cs.toList key
  refine ⟨zs, ?_, ?_, hw⟩
  · rw [← hz]
  · have := congrArg List.length hz
    simp at this
    omega

end Go.Proofs.YtdilcckoapaimaaGreat

end
