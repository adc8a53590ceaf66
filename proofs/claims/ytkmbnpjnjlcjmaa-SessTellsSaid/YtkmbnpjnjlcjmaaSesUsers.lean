/-
  LAYER 9: all Users, the code's and the document's.
-/
import Derived.Test.YtkmbnpjnjlcjmaaSesRow
import Derived.Test.YtkmbnpjnjlcjmaaSesPure
import Derived.Test.YtkmbnpjnjlcjmaaTxtRow
import Derived.Test.YtkmbnpjnjlcjmaaIdRmerge
namespace Go.Proofs.Ytkmbnpjnjlcjmaa
open Go.RowKit

theorem seNames_len (l : List Ses) : (seNames l).length = l.length := by simp [seNames]
theorem seNames_at {l : List Ses} {k : Nat} (hk : k < l.length) : (seNames l).getD k [] = (l.getD k Ses.zero).u := by
  unfold seNames
  rw [sgetD hk, List.getD_eq_getElem?_getD, List.getElem?_map, List.getElem?_eq_getElem hk]
  rfl

theorem seNames_succ {l : List Ses} {k : Nat} (hk : k < l.length) : seNames (l.take (k + 1)) = seNames (l.take k) ++ [(l.getD k Ses.zero).u] := by
  unfold seNames
  rw [List.take_succ_eq_append_getElem hk, sgetD hk, List.map_append]
  rfl

set_option maxHeartbeats 1600000 in
set_option maxRecDepth 100000 in
theorem susers_any {w : World} {v : Value} {l : List Ses} (hv : Sess w v l) (hl : l.length ≤ 100) :
    Calls Try.prog 23 #[v] w fun e w' => ∃ x, e = .returned x ∧ Texts w' x (mrg (seNames l)) ∧ Below w.heap.size w w' := by
  have HV := Lib.hid hv
  obtain ⟨a, cap, rfl, _⟩ := hv.open'
  clear hv
  go_enter Try.func23, Try.ntmps23
  go_wp2_with (at_make; go_must (refine wpList_make_txt rfl _ _ rfl _ _ l.length rfl rfl (by omega) (by omega) (by omega) ?_))
  intro w1 h1 hb1 hz1
  have R1 : Hid (RowX w1 w.heap.size (txtAt (seNames l) 0)) := by show RowX _ _ _; simpa [txtAt, seNames_len] using h1
  have B1 := Lib.hid hb1
  clear h1 hb1
  go_wp2_with fail
  go_loopw [11] (fun i wr => ∃ k : Nat, k ≤ l.length ∧ i = .int .i64 k ∧ Hid (RowX wr w.heap.size (txtAt (seNames l) k)) ∧ Hid (Below w.heap.size w wr) ∧ w.heap.size < wr.heap.size) (fun i _ => l.length - (intOf i).toNat)
  case atStart => exact ⟨0, by omega, rfl, R1, B1, hz1⟩
  case round =>
    clear R1 B1 hz1
    obtain ⟨k, hk, rfl, HR, HN, hz⟩ := hrel
    by_cases hlt : k < l.length
    · obtain ⟨b, off, rfl, hc⟩ := HV.out.row HN.out k hlt
      have hlen : (txtAt (seNames l) k).length = l.length := by rw [txtAt_len (by rw [seNames_len]; omega), seNames_len]
      have HS := HR.out.set k ((seNames l).getD k []) (by omega)
      rw [txtAt_set (by rw [seNames_len]; exact hlt), seNames_at hlt] at HS
      have hc0 := (HR.out k (by omega)).1
      have hf0 := (HR.out k (by omega)).2
      obtain ⟨⟨eu, ei, ⟨ea, eb, ec, es⟩⟩, hr⟩ : ∃ r, l.getD k Ses.zero = r := ⟨_, rfl⟩
      rw [hr] at hc HS
      obtain ⟨h0, h1, h2, h3, h4, h5⟩ := cells6 hc
      try simp only at h0 h1 h2 h3 h4 h5 HS
      unfold encS at HS hc0
      have HS2 := Lib.hid HS
      have HN2 : Hid (Below w.heap.size w (wr.setCell ⟨w.heap.size, k, none⟩ (.string ⟨eu.toArray⟩))) := HN.out.setCell (Nat.le_refl _) _
      have hz2 : w.heap.size < (wr.setCell ⟨w.heap.size, k, none⟩ (.string ⟨eu.toArray⟩)).heap.size := by simpa using hz
      have HS3 := Lib.hid (HS2.out.later hz2 ((Below.refl _ _).alloc (Nat.le_refl _) (.cells #[.string ⟨eu.toArray⟩, .int .i64 ei, .int .i64 ea, .int .i64 eb, .int .i64 ec, .string ⟨es.toArray⟩] 34)))
      have HN3 := Lib.hid (bl_allocZ HN2.out (.cells #[.string ⟨eu.toArray⟩, .int .i64 ei, .int .i64 ea, .int .i64 eb, .int .i64 ec, .string ⟨es.toArray⟩] 34))
      clear hr HS hc
      go_wp2_with fail
      go_roundw
      case rel => exact ⟨k + 1, by omega, by go_num, HS3, HN3, by simp; omega⟩
      case measure => simp [intOf]; omega
    · obtain rfl : k = l.length := by omega
      have HT : Hid (Texts wr (.slice (some ⟨w.heap.size, 0, none⟩) l.length l.length) (seNames l)) := by
        show Texts _ _ _
        have := HR.out
        rw [← seNames_len l, txtAt_end] at this
        have h2 := this.texts hz (by rw [seNames_len]; omega)
        rwa [seNames_len] at h2
      have HM := Lib.hid (merge_any HT.out (texts_nil wr) (by rw [seNames_len]; omega) (by simp))
      clear HR HT
      go_wp2_with fail
      refine HM.out.mono ?_
      rintro e w5 ⟨x, rfl, ht, b5⟩
      rw [List.append_nil] at ht
      have T5 := Lib.hid ht
      have B5 := Lib.hid (below2Z HN.out b5)
      clear ht b5 HM
      go_wp2_with fail
      go_ret
      exact ⟨_, rfl, T5.out, B5.out⟩

set_option maxHeartbeats 1600000 in
set_option maxRecDepth 100000 in
theorem rsusers_any {w : World} {v : Value} {l : List Ses} (hv : Sess w v l) (hl : l.length ≤ 100) :
    Calls Try.prog 24 #[v] w fun e w' => ∃ x, e = .returned x ∧ Texts w' x (mrg (seNames l)) ∧ Below w.heap.size w w' := by
  obtain ⟨i0, hi, hz0, hz1, hz2⟩ := info_parts Try.infoStr
  have HV := Lib.hid hv
  obtain ⟨a, cap, rfl, _⟩ := hv.open'
  clear hv
  go_enter Try.func24, Try.ntmps24
  go_wp2_with fail
  go_loopw [3, 4] (fun s i wr => ∃ k : Nat, k ≤ l.length ∧ i = .int .i64 k ∧ Hid (OwnT wr w.heap.size 9 s (seNames (l.take k))) ∧ Hid (Below w.heap.size w wr)) (fun _ i _ => l.length - (intOf i).toNat)
  case atStart => exact ⟨0, by omega, rfl, World.ownsRow_nil _ _ _ _, Below.refl _ _⟩
  case round =>
    obtain ⟨k, hk, rfl, HO, HN⟩ := hrel
    by_cases hlt : k < l.length
    · obtain ⟨b, off, rfl, hc⟩ := HV.out.row HN.out k hlt
      have HX := Lib.hid (seNames_succ hlt)
      obtain ⟨⟨eu, ei, ⟨ea, eb, ec, es⟩⟩, hr⟩ : ∃ r, l.getD k Ses.zero = r := ⟨_, rfl⟩
      rw [hr] at hc HX
      obtain ⟨h0, h1, h2, h3, h4, h5⟩ := cells6 hc
      try simp only at h0
      have O2 := Lib.hid (HO.out.alloc (.cells #[.string ⟨eu.toArray⟩] 9))
      have N2 := Lib.hid (bl_allocZ HN.out (.cells #[.string ⟨eu.toArray⟩] 9))
      have hz3 := N2.out.size
      have hcl : (seNames (l.take k)).length ≤ 4294967 := by rw [seNames_len, List.length_take]; omega
      clear hr hc HO h1 h2 h3 h4 h5
      go_wp2_with (at_builtin; go_must (refine wpList_append_texts rfl _ _ 28 rfl w.heap.size 9 i0 _ 16 Try.underlying28 hi hz0 hz1 hz2 rfl _ (seNames (l.take k)) rfl (by exact O2.out) _ 1 1 [eu] rfl rfl (fun e => nomatch e) ?c1 (by simp only [List.length_cons, List.length_nil]; omega) (by decide) hz3 ?_))
      case c1 => intro j u hu; exact hu
      intro v' w' hown' hb'
      rw [← HX.out] at hown'
      have O3 := Lib.hid hown'
      have N3 := Lib.hid (N2.out.trans hb')
      clear hown' hb' O2 h0
      go_wp2_with fail
      go_roundw
      case rel => exact ⟨k + 1, by omega, by go_num, O3, N3⟩
      case measure => simp [intOf]; omega
    · obtain rfl : k = l.length := by omega
      have ht := HO.out.texts
      rw [List.take_length] at ht
      have HM := Lib.hid (irmerge_any ht (texts_nil wr) (by rw [seNames_len]; omega) (by simp))
      obtain ⟨a5, c5, e5, _⟩ := ht
      subst e5
      clear HO
      go_wp2_with fail
      refine HM.out.mono ?_
      rintro e w5 ⟨x, rfl, ht, b5⟩
      rw [List.append_nil] at ht
      have T5 := Lib.hid ht
      have B5 := Lib.hid (below2Z HN.out b5)
      clear ht b5 HM
      go_wp2_with fail
      go_ret
      exact ⟨_, rfl, T5.out, B5.out⟩

end Go.Proofs.Ytkmbnpjnjlcjmaa
