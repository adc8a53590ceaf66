/-
  THE CONTRACT OF ident.Merge: the lists as one, sorted, each text once.
-/
import Derived.Test.YtkmbnpjnjlcjmaaIdConcat
import Derived.Lib.OwnBridge
namespace Go.Proofs.Ytkmbnpjnjlcjmaa
open Go.RowKit Go.Lib Go.Sort

theorem encS_cell : OneCell encS := fun _ => rfl

theorem eql_S : EqlAt Try.prog 9 encS (fun x y => decide (x = y)) :=
  ⟨fun x y w => by rw [show encS x = .string ⟨x.toArray⟩ from rfl, show encS y = .string ⟨y.toArray⟩ from rfl, (EqlAt.string Try.prog 9).1]; by_cases h : x = y <;> simp [h, ByteArray.toList_eq],
   fun op a b x y w => GuardAt.string Try.prog 9 op a b _ _ w⟩

theorem neq_S : NeqAt Try.prog 9 encS (fun x y => decide (x = y)) :=
  ⟨fun x y w => by rw [show encS x = .string ⟨x.toArray⟩ from rfl, show encS y = .string ⟨y.toArray⟩ from rfl, (NeqAt.string Try.prog 9).1]; by_cases h : x = y <;> simp [h, ByteArray.toList_eq],
   fun op a b x y w => GuardAt.string Try.prog 9 op a b _ _ w⟩

theorem compare_lays (blk off size : Nat) (w : World) : CmpLays1 Try.prog 84 #[] encS idCmp blk off size w :=
  fun m os dk _ x y => (compare_any x y (sortWorld encS w blk off m dk os)).mono fun _ _ ⟨he, o, hw⟩ => ⟨he, 0, #[o], by rw [hw, alloc_eq_grow]; rfl⟩

theorem below_grow {B : Nat} {w0 w : World} (h : Below B w0 w) (hB : B ≤ w.heap.size) (os : Array Obj) : Below B w0 (grow w os) :=
  ⟨h.os, h.tape, h.output, by have := h.size; simp only [grow, Array.size_append]; omega, fun k hk => by
    rw [← h.block k hk]
    simp only [grow]
    rw [Array.getElem?_append_left (by omega)]⟩

/-- The row behind the sort. -/
theorem sorted_row {w1 : World} {g n : Nat} {d d' : Array (List UInt8)} {os : Array Obj} (hH : Holds encS w1 g 0 d) (hg : g < w1.heap.size) (hd : d'.size = d.size) :
    Holds encS (sortWorld encS w1 g 0 n d' os) g 0 d' := by
  unfold sortWorld
  refine holds_grow encS _ os g 0 d' ?_ (holds_putRow encS _ g 0 d d' (holds_ahead encS w1 n g 0 d hH) hd)
  simpa [putRow, mapBlock, Sort.ahead] using hg

theorem sorted_below {B : Nat} {w0 w1 : World} {g n : Nat} {d' : Array (List UInt8)} {os : Array Obj} (h : Below B w0 w1) (hB : B ≤ w1.heap.size) (hg : B ≤ g) : Below B w0 (sortWorld encS w1 g 0 n d' os) := by
  unfold sortWorld
  refine below_grow (below_putRow h hg) ?_ os
  simpa [putRow, mapBlock, Sort.ahead] using hB

/-- The row behind Compact. -/
theorem compact_texts {w2 : World} {g q cap : Nat} {d : Array (List UInt8)} (hH : Holds encS w2 g 0 d) (hg : g < w2.heap.size) (hn : d.size ≤ cap) (hc : cap ≤ maxLen) {ls : List (List UInt8)} (hle : ls.length ≤ d.size) :
    Texts (putRow encS (Sort.ahead w2 q) g 0 (ls ++ List.replicate (d.size - ls.length) []).toArray) (.slice (some ⟨g, 0, none⟩) ls.length cap) ls := by
  refine ⟨some ⟨g, 0, none⟩, cap, rfl, by omega, hc, (fun e => by cases e), .inr ⟨g, 0, rfl, ?_, fun i hi => ?_⟩⟩
  · simpa [putRow, mapBlock, Sort.ahead] using hg
  · have h := holds_putRow encS (Sort.ahead w2 q) g 0 d (ls ++ List.replicate (d.size - ls.length) []).toArray (holds_ahead encS w2 q g 0 d hH) (by simp; omega)
    have h1 := (h i (by simp; omega)).1
    rw [h1]
    congr 2
    rw [getElem!_pos _ i (by simp; omega)]
    simp [List.getD, hi]

theorem compact_len (d : Array (List UInt8)) : (compactUpTo d d.size).length ≤ d.size := by
  unfold compactUpTo
  rw [List.length_map]
  exact Nat.le_trans (List.length_filter_le _ _) (by simp)

set_option maxHeartbeats 1600000 in
set_option maxRecDepth 100000 in
theorem merge_any {w : World} {va vb : Value} {ls ms : List (List UInt8)} (ha : Texts w va ls) (hb : Texts w vb ms) (hl : ls.length ≤ 100) (hm : ms.length ≤ 100) :
    Calls Try.prog 54 #[va, vb] w fun e w' => ∃ v, e = .returned v ∧ Texts w' v (mrg (ls ++ ms)) ∧ Below w.heap.size w w' := by
  have eg : ∀ args w, (callFunc 84 args).run Try.prog w = .ok (.enter 84 args) w := enters_of Try.func84 (by kernel_rfl) rfl
  have hB0 : Below w.heap.size w (w.alloc (.cells #[va, vb] 28)) := (Below.refl _ _).alloc (Nat.le_refl _) _
  have HC := Lib.hid (concat_any (ha.later hB0) (hb.later hB0) hl hm w.heap.size (by simp) (by simp))
  have HB0 := Lib.hid hB0
  obtain ⟨a, cap, rfl, _, _, _, _⟩ := ha
  obtain ⟨a2, cap2, rfl, _, _, _, _⟩ := hb
  clear hB0
  go_enter Try.func54, Try.ntmps54
  go_wp2_with fail
  refine HC.out.mono ?_
  rintro e w1 ⟨v1, rfl, ho1, hb1⟩
  have HB1 := Lib.hid (below2' HB0.out hb1)
  have hsz1 : w.heap.size + 1 ≤ w1.heap.size := by have := hb1.size; simpa using this
  have HO1 := Lib.hid ho1
  clear hb1 ho1 HC HB0
  by_cases h0 : ls ++ ms = []
  · have hr : Hid (mrg (ls ++ ms) = []) := by show _ = _; rw [h0]; rfl
    obtain ⟨p, c, rfl, _⟩ : ∃ p c, v1 = .slice p 0 c ∧ True := by
      obtain ⟨p, c, e, _⟩ := HO1.out.texts
      rw [h0] at e
      exact ⟨p, c, e, trivial⟩
    have HT := Lib.hid HO1.out.texts
    have HS := Lib.hid (Try.slices_SortFunc_none (α := List UInt8) p c (.func (.func 84) #[] #[]) w1)
    have HK := Lib.hid (Try.slices_Compact_string_empty p c w1)
    have H0 := Lib.hid h0
    clear h0
    go_wp2_with fail
    refine HS.out.mono ?_
    rintro e w' ⟨rfl, rfl⟩
    go_wp2_with fail
    refine HK.out.mono ?_
    rintro e w' ⟨rfl, rfl⟩
    go_wp2_with fail
    go_ret
    exact ⟨_, rfl, by rw [hr.out]; have := HT.out; rw [H0.out] at this; exact this, HB1.out⟩
  · have hv : v1 ≠ .slice none 0 0 := by
      intro e
      obtain ⟨p, c, e', _⟩ := HO1.out.texts
      rw [e'] at e
      simp only [Value.slice.injEq] at e
      exact h0 (List.length_eq_zero_iff.1 e.2.1)
    obtain ⟨g, c, rfl, hg1, hg2, hn, hc, _, hH⟩ := holds_of_ownsRow (zs := ls ++ ms) (HO1.out : World.ownsRow _ _ _ _ _ _ _) hv
    have hg1' : w.heap.size + 1 ≤ g := by simpa using hg1
    have HS := Lib.hid (Try.slices_SortFunc_total encS (fun _ => rfl) idCmp idSWO 84 #[] g 0 c (ls ++ ms).toArray w1 eg (compare_lays g 0 _ w1) hH hg2 (by simp; omega) idTot)
    have hlen : (ls ++ ms).length = ls.length + ms.length := List.length_append
    simp only [List.size_toArray, hlen] at HS
    have HH := Lib.hid hH
    rw [hlen] at hn
    clear eg hH hg1 hv h0 hlen
    go_wp2_with fail
    refine HS.out.mono ?_
    rintro e w2 ⟨rfl, nn, os, hw2⟩
    have hD : Hid (Holds encS w2 g 0 ((ls ++ ms).mergeSort fun x y => !(ltOf idCmp) y x).toArray) := by
      show Holds _ _ _ _ _
      rw [hw2]
      exact sorted_row HH.out hg2 (by simp)
    have HB2 : Hid (Below w.heap.size w w2) := by
      show Below _ _ _
      rw [hw2]
      exact sorted_below HB1.out (by omega) (by omega)
    have hg3 : Hid (g < w2.heap.size) := by
      show g < _
      rw [hw2]
      simp only [sortWorld, grow, Array.size_append, putRow, mapBlock, Array.size_modify, Sort.ahead]
      omega
    have hsl : ((ls ++ ms).mergeSort fun x y => !(ltOf idCmp) y x).length = ls.length + ms.length := by simp
    obtain ⟨d, hd⟩ : ∃ d, d = ((ls ++ ms).mergeSort fun x y => !(ltOf idCmp) y x).toArray := ⟨_, rfl⟩
    have hds : d.size = ls.length + ms.length := by rw [hd]; simp
    have HM : Hid (compactUpTo d d.size = mrg (ls ++ ms)) := by show _ = _; rw [hd]; exact sort_compact _
    rw [← hd] at hD
    have HK := Lib.hid (Try.slices_Compact encS encS_cell eql_S neq_S [] (fun _ => by kernel_rfl) g 0 c d w2 hD.out (by omega) (by omega))
    have hcl := compact_len d
    rw [HM.out] at HK hcl
    rw [hds] at HK
    have HT : Hid (∀ q, Texts (putRow encS (Sort.ahead w2 q) g 0 (mrg (ls ++ ms) ++ List.replicate (d.size - (mrg (ls ++ ms)).length) []).toArray) (.slice (some ⟨g, 0, none⟩) (mrg (ls ++ ms)).length c) (mrg (ls ++ ms))) :=
      fun q => compact_texts hD.out hg3.out (by omega) hc hcl
    rw [hds] at HT
    clear hw2 hd hds hsl HM HS hD hcl HH
    obtain ⟨r, hr⟩ : ∃ r, mrg (ls ++ ms) = r := ⟨_, rfl⟩
    rw [hr] at HK HT
    have HR := Lib.hid hr
    clear hr
    go_wp2_with fail
    refine HK.out.mono ?_
    rintro e w3 ⟨rfl, q, hw3⟩
    have HT3 := HT.out q
    rw [← hw3] at HT3
    have HB3 : Hid (Below w.heap.size w w3) := by
      show Below _ _ _
      rw [hw3]
      exact below_putRow HB2.out (by omega)
    have HT3' := Lib.hid HT3
    clear hw3 HT3 HK HT
    go_wp2_with fail
    go_ret
    exact ⟨_, rfl, by rw [HR.out]; exact HT3'.out, HB3.out⟩

end Go.Proofs.Ytkmbnpjnjlcjmaa
