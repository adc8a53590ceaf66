/-
  LAYER 9: the sessions of a User, the code's and the document's.
-/
import Derived.Test.YtkmbnpjnjlcjmaaSesRow
import Derived.Test.YtkmbnpjnjlcjmaaSesPure
import Derived.Test.YtkmbnpjnjlcjmaaSesIns
namespace Go.Proofs.Ytkmbnpjnjlcjmaa
open Go.RowKit

theorem seOf_succ {l : List Ses} {k : Nat} (hk : k < l.length) (u : List UInt8) : seOf (l.take (k + 1)) u = if (l.getD k Ses.zero).u = u then seOf (l.take k) u ++ [l.getD k Ses.zero] else seOf (l.take k) u := by
  unfold seOf
  rw [List.take_succ_eq_append_getElem hk, sgetD hk, List.filter_append]
  by_cases h : l[k].u = u
  · rw [if_pos h, List.filter_cons, if_pos (by simp [h])]
    rfl
  · rw [if_neg h, List.filter_cons, if_neg (by simp [h])]
    simp

theorem seOf_le (l : List Ses) (u : List UInt8) : (seOf l u).length ≤ l.length := List.length_filter_le _ _

set_option maxHeartbeats 1600000 in
set_option maxRecDepth 100000 in
theorem sof_any {w : World} {v : Value} {l : List Ses} (hv : Sess w v l) (hl : l.length ≤ 1000) (u : List UInt8) :
    Calls Try.prog 20 #[v, .string ⟨u.toArray⟩] w fun e w' => ∃ x, e = .returned x ∧ OwnSes w' w.heap.size x (seOf l u) ∧ Below w.heap.size w w' := by
  have HV := Lib.hid hv
  obtain ⟨a, cap, rfl, _⟩ := hv.open'
  clear hv
  go_enter Try.func20, Try.ntmps20
  go_wp2_with fail
  go_loopw [5, 10] (fun s i wr => ∃ k : Nat, k ≤ l.length ∧ i = .int .i64 k ∧ Hid (OwnSes wr w.heap.size s (seOf (l.take k) u)) ∧ Hid (Below w.heap.size w wr)) (fun _ i _ => l.length - (intOf i).toNat)
  case atStart => exact ⟨0, by omega, rfl, ownS_nil _ _, Below.refl _ _⟩
  case round =>
    obtain ⟨k, hk, rfl, HO, HN⟩ := hrel
    by_cases hlt : k < l.length
    · obtain ⟨b, off, rfl, hc⟩ := HV.out.row HN.out k hlt
      have hX := seOf_succ hlt u
      obtain ⟨⟨eu, ei, ⟨ea, eb, ec, es⟩⟩, hr⟩ : ∃ r, l.getD k Ses.zero = r := ⟨_, rfl⟩
      rw [hr] at hc hX
      try simp only at hX
      obtain ⟨h0, h1, h2, h3, h4, h5⟩ := cells6 hc
      try simp only at h0 h1 h2 h3 h4 h5
      have O1 := Lib.hid (HO.out.alloc (.cells #[.string ⟨eu.toArray⟩, .int .i64 ei, .int .i64 ea, .int .i64 eb, .int .i64 ec, .string ⟨es.toArray⟩] 34))
      have N1 := Lib.hid (bl_allocZ HN.out (.cells #[.string ⟨eu.toArray⟩, .int .i64 ei, .int .i64 ea, .int .i64 eb, .int .i64 ec, .string ⟨es.toArray⟩] 34))
      clear hr hc
      by_cases ho : eu = u
      · rw [if_pos ho] at hX
        have HX := Lib.hid hX
        subst ho
        have O2 := Lib.hid (O1.out.alloc (.cells #[.string ⟨eu.toArray⟩, .int .i64 ei, .int .i64 ea, .int .i64 eb, .int .i64 ec, .string ⟨es.toArray⟩] 34))
        have N2 := Lib.hid (bl_allocZ N1.out (.cells #[.string ⟨eu.toArray⟩, .int .i64 ei, .int .i64 ea, .int .i64 eb, .int .i64 ec, .string ⟨es.toArray⟩] 34))
        have hz3 := N2.out.size
        have hcl : (seOf (l.take k) eu).length ≤ 1000 := by have := seOf_le (l.take k) eu; rw [List.length_take] at this; omega
        have C4 := Lib.hid (srcS_new (vals := sesVals) (w := wr.alloc (.cells #[.string ⟨eu.toArray⟩, .int .i64 ei, .int .i64 ea, .int .i64 eb, .int .i64 ec, .string ⟨es.toArray⟩] 34)) (r := ⟨eu, ei, ⟨ea, eb, ec, es⟩⟩) (cs := #[.string ⟨eu.toArray⟩, .int .i64 ei, .int .i64 ea, .int .i64 eb, .int .i64 ec, .string ⟨es.toArray⟩]) (e := 34) rfl (B := wr.heap.size + 1) (by simp))
        clear hX HO O1 N1
        go_wp2_with (at_builtin; refine wpList_append_S sesOK rfl _ _ rfl w.heap.size _ (seOf (l.take k) eu) rfl O2.out (some ⟨wr.heap.size + 1, 0, none⟩) 1 1 [⟨eu, ei, ⟨ea, eb, ec, es⟩⟩] rfl rfl (fun e => by cases e) C4.out (by simp only [List.length_cons, List.length_nil]; omega) hz3 ?_)
        intro v' w' hown' hb'
        rw [← HX.out] at hown'
        have O3 := Lib.hid hown'
        have N3 := Lib.hid (N2.out.trans hb')
        clear hown' hb' O2 C4 h0 h1 h2 h3 h4 h5
        go_wp2_with fail
        go_roundw
        case rel => exact ⟨k + 1, by omega, by go_num, O3, N3⟩
        case measure => simp [intOf]; omega
      · rw [if_neg ho] at hX
        have o3 := O1.out
        rw [← hX] at o3
        have O3 := Lib.hid o3
        clear o3
        have t1 : (eu == u) = false := by rw [beq_eq_false_iff_ne]; exact ho
        clear hX HO ho
        go_wp2_with fail
        go_roundw
        case rel => exact ⟨k + 1, by omega, by go_num, O3, N1⟩
        case measure => simp [intOf]; omega
    · obtain rfl : k = l.length := by omega
      have ht := HO.out
      rw [List.take_length] at ht
      have HT := Lib.hid ht
      clear ht
      go_wp2_with fail
      go_ret
      exact ⟨_, rfl, HT.out, HN.out⟩

set_option maxHeartbeats 1600000 in
set_option maxRecDepth 100000 in
theorem rsof_any {w : World} {v : Value} {l : List Ses} (hv : Sess w v l) (hl : l.length ≤ 1000) (u : List UInt8) :
    Calls Try.prog 21 #[v, .string ⟨u.toArray⟩] w fun e w' => ∃ x, e = .returned x ∧ OwnSes w' w.heap.size x (seOf l u) ∧ Below w.heap.size w w' := by
  have HV := Lib.hid hv
  obtain ⟨a, cap, rfl, _⟩ := hv.open'
  clear hv
  go_enter Try.func21, Try.ntmps21
  go_wp2_with fail
  go_loopw [5, 6] (fun s i wr => ∃ k : Nat, k ≤ l.length ∧ i = .int .i64 k ∧ Hid (OwnSes wr w.heap.size s (seOf (l.take k) u)) ∧ Hid (Below w.heap.size w wr)) (fun _ i _ => l.length - (intOf i).toNat)
  case atStart => exact ⟨0, by omega, rfl, ownS_nil _ _, Below.refl _ _⟩
  case round =>
    obtain ⟨k, hk, rfl, HO, HN⟩ := hrel
    by_cases hlt : k < l.length
    · obtain ⟨b, off, rfl, hc⟩ := HV.out.row HN.out k hlt
      have hX := seOf_succ hlt u
      obtain ⟨⟨eu, ei, ⟨ea, eb, ec, es⟩⟩, hr⟩ : ∃ r, l.getD k Ses.zero = r := ⟨_, rfl⟩
      rw [hr] at hc hX
      try simp only at hX
      obtain ⟨h0, h1, h2, h3, h4, h5⟩ := cells6 hc
      try simp only at h0 h1 h2 h3 h4 h5
      clear hr hc
      by_cases ho : eu = u
      · rw [if_pos ho] at hX
        have HX := Lib.hid hX
        subst ho
        have O2 := Lib.hid (HO.out.alloc (.cells #[.string ⟨eu.toArray⟩, .int .i64 ei, .int .i64 ea, .int .i64 eb, .int .i64 ec, .string ⟨es.toArray⟩] 34))
        have N2 := Lib.hid (bl_allocZ HN.out (.cells #[.string ⟨eu.toArray⟩, .int .i64 ei, .int .i64 ea, .int .i64 eb, .int .i64 ec, .string ⟨es.toArray⟩] 34))
        have hz3 := N2.out.size
        have hcl : (seOf (l.take k) eu).length ≤ 1000 := by have := seOf_le (l.take k) eu; rw [List.length_take] at this; omega
        have C4 := Lib.hid (srcS_new (vals := sesVals) (w := wr) (r := ⟨eu, ei, ⟨ea, eb, ec, es⟩⟩) (cs := #[.string ⟨eu.toArray⟩, .int .i64 ei, .int .i64 ea, .int .i64 eb, .int .i64 ec, .string ⟨es.toArray⟩]) (e := 34) rfl (B := wr.heap.size) rfl)
        clear hX HO
        go_wp2_with (at_builtin; refine wpList_append_S sesOK rfl _ _ rfl w.heap.size _ (seOf (l.take k) eu) rfl O2.out (some ⟨wr.heap.size, 0, none⟩) 1 1 [⟨eu, ei, ⟨ea, eb, ec, es⟩⟩] rfl rfl (fun e => by cases e) C4.out (by simp only [List.length_cons, List.length_nil]; omega) hz3 ?_)
        intro v' w' hown' hb'
        rw [← HX.out] at hown'
        have O3 := Lib.hid hown'
        have N3 := Lib.hid (N2.out.trans hb')
        clear hown' hb' O2 C4 h0 h1 h2 h3 h4 h5
        go_wp2_with fail
        go_roundw
        case rel => exact ⟨k + 1, by omega, by go_num, O3, N3⟩
        case measure => simp [intOf]; omega
      · rw [if_neg ho] at hX
        have o3 := HO.out
        rw [← hX] at o3
        have O3 := Lib.hid o3
        clear o3
        have t1 : (eu == u) = false := by rw [beq_eq_false_iff_ne]; exact ho
        clear hX HO ho
        go_wp2_with fail
        go_roundw
        case rel => exact ⟨k + 1, by omega, by go_num, O3, HN⟩
        case measure => simp [intOf]; omega
    · obtain rfl : k = l.length := by omega
      have ht := HO.out
      rw [List.take_length] at ht
      have HT := Lib.hid ht
      clear ht
      go_wp2_with fail
      go_ret
      exact ⟨_, rfl, HT.out, HN.out⟩

end Go.Proofs.Ytkmbnpjnjlcjmaa
