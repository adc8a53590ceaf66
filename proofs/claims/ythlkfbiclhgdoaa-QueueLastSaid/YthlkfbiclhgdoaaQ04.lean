/-
  TEXTS OF THE PROOF, one behind the other: IdConcat, IdMerge, DigCts, DigMap, DigChgs, DigLay, DigDel, DigWithout, DigIns, DigInsR, DigSet, Seq, Aid, QueRow.
-/
import Derived.Test.YthlkfbiclhgdoaaQ03
import Derived.Lib.AppendZeros
import Derived.Lib.OwnBridge
import Derived.Maps.OwnSet
import Derived.Laws.IdiomCopy
import Derived.Lib.AppendZerosOnto
import Derived.Lib.Overlaps
import Derived.Deep.RegionLaw
import Derived.WalkSpells
import Derived.Laws.Externs
import Derived.Test.YthlkfbiclhgdoaaQ01
import Derived.Laws.AppendOwnNone
import Derived.Lib.SliceRun
import Derived.Lib.Hide
import Derived.BigRegion

section

/-
  THE CONTRACTS OF slices.Grow (of nil) AND slices.Concat (of two rows of texts), AT THIS PROGRAM.
-/
namespace Go.Proofs.Ythlkfbiclhgdoaa
open Go.RowKit

theorem zeros_size (z : Value) (hz : z.cells.size = 1) (n : Nat) : (Builtin.zeroCells z.cells n).size = n := by
  unfold Builtin.zeroCells
  simp [hz]

set_option maxHeartbeats 800000 in
set_option maxRecDepth 100000 in
theorem grow_nil (n : Nat) (hn : n ≤ 1000) (w : World) :
    Calls Try.prog 89 #[.slice none 0 0, .int .i64 n] w fun e w' => ∃ v, e = .returned v ∧ OwnT w' w.heap.size 9 v [] ∧ Below w.heap.size w w' := by
  obtain ⟨i0, hi, hz0, hz1, hz2⟩ := info_parts Try.infoStr
  by_cases h0 : n = 0
  · subst h0
    go_enter Try.func89, Try.ntmps89
    go_wp2_with fail
    go_ret
    exact ⟨_, rfl, World.ownsRow_nil _ _ _ _, Below.refl _ _⟩
  · have hrz := fun ty => Lib.run_append_nil_zeros (P := Try.prog) w 101 3 ty 9 i0 _ .i64 .i64 Try.underlying101 Try.underlying3 hi hz0 n (by omega) (by omega) (by omega) (by rw [hz2]; omega)
    have hG1 := grownCap_ge w n 0 9
    have hG2 := grownCap_le_maxLen w n 0 9 (by unfold maxLen; omega)
    obtain ⟨G, hG⟩ : ∃ G, G = grownCap w n 0 9 := ⟨_, rfl⟩
    rw [← hG] at hrz hG1 hG2
    have hO : Hid (OwnT (w.drew.alloc (.cells (Builtin.zeroCells (Value.string ⟨#[]⟩).cells n ++ Builtin.zeroCells (Value.string ⟨#[]⟩).cells (G - n)) 9)) w.heap.size 9 (.slice (some ⟨w.heap.size, 0, none⟩) 0 G) []) := by
      refine World.ownsRow_made (base := w.heap.size) w.drew _ G (Nat.le_refl _) hG2 ?_
      rw [Array.size_append, zeros_size _ rfl, zeros_size _ rfl]
      omega
    have h1 : 0 < n := by omega
    unfold maxLen at hG2
    clear hG h0
    go_enter Try.func89, Try.ntmps89
    go_wp2_with (at_builtin; go_must (refine Lib.wpList_append_run _ rfl _ _ _ _ rfl _ _ rfl rfl _ _ (hrz _) ?_))
    go_wp2_with fail
    go_ret
    exact ⟨_, rfl, hO.out, (Below.refl _ _).drew.alloc (Nat.le_refl _) _⟩

/-- A slice of texts as the source of an append. -/
theorem texts_src {W : World} {a : Option Addr} {n cap : Nat} {ls : List (List UInt8)} (h : Texts W (.slice a n cap) ls) :
    n = ls.length ∧ (a = none → cap = 0 ∧ ls = []) ∧ (∀ ad, a = some ad → ∀ j u, (ls.map encS)[j]? = some u → W.cell? (ad.add j) = some u) := by
  obtain ⟨a', cap', e, h1, h2, h3, h4⟩ := h
  simp only [Value.slice.injEq] at e
  obtain ⟨rfl, rfl, rfl⟩ := e
  refine ⟨rfl, fun e => ⟨h3 e, List.length_eq_zero_iff.1 (by have := h3 e; omega)⟩, ?_⟩
  rintro ad rfl j u hu
  have hj : j < ls.length := by
    have := (List.getElem?_eq_some_iff.1 hu).1
    simpa using this
  rcases h4 with h | ⟨b, off, e, _, hc⟩
  · rw [h] at hj; simp at hj
  · obtain rfl := Option.some.inj e
    rw [List.getElem?_map, getD_some hj] at hu
    simp only [Option.map_some, Option.some.injEq] at hu
    rw [Addr.add_lit, hc j hj, hu]

set_option maxHeartbeats 1600000 in
set_option maxRecDepth 100000 in
theorem concat_any {w : World} {va vb : Value} {ls ms : List (List UInt8)} (ha : Texts w va ls) (hb : Texts w vb ms) (hl : ls.length ≤ 100) (hm : ms.length ≤ 100)
    (B : Nat) (k0 : w.cell? ⟨B, 0, none⟩ = some va) (k1 : w.cell? ⟨B, 1, none⟩ = some vb) :
    Calls Try.prog 82 #[.slice (some ⟨B, 0, none⟩) 2 2] w fun e w' => ∃ v, e = .returned v ∧ OwnT w' w.heap.size 9 v (ls ++ ms) ∧ Below w.heap.size w w' := by
  obtain ⟨i0, hi, hz0, hz1, hz2⟩ := info_parts Try.infoStr
  have HA := Lib.hid ha
  have HB := Lib.hid hb
  obtain ⟨a, cap, rfl, _, _, _, _⟩ := ha
  obtain ⟨a2, cap2, rfl, _, _, _, _⟩ := hb
  have HG := Lib.hid (grow_nil (ls.length + ms.length) (by omega))
  have K0 := Lib.hid k0
  have K1 := Lib.hid k1
  have hB := World.block_lt_of_cell? w _ k0
  simp only at hB
  go_enter Try.func82, Try.ntmps82
  go_wp2_with fail
  refine wp_loop_rounds 3 ?_
  rw [rounds_succ]
  go_wp2_with fail
  rw [rounds_succ]
  go_wp2_with fail
  rw [rounds_succ]
  go_wp2_with fail
  refine (HG.out _).mono ?_
  rintro e w1 ⟨v1, rfl, ho1, hb1⟩
  have HO1 := Lib.hid ho1
  have HB1 := Lib.hid hb1
  have k0 := cell_after K0.out hb1
  have k1 := cell_after K1.out hb1
  have hA1 := Lib.hid (texts_src (HA.out.later hb1))
  have hsz1 := hb1.size
  clear hb1 ho1
  go_wp2_with fail
  refine wp_loop_rounds 3 ?_
  rw [rounds_succ]
  go_wp2_with (at_builtin; go_must (refine wpList_append_texts rfl _ _ 101 rfl w.heap.size 9 i0 _ 16 Try.underlying101 hi hz0 hz1 hz2 rfl _ _ rfl (by exact HO1.out) a ls.length cap ls rfl rfl hA1.out.2.1 hA1.out.2.2 (by simp; omega) (by decide) hsz1 ?_))
  intro v2 w2 hown2 hb2
  have HB2 : Hid (Below w.heap.size w w2) := HB1.out.trans hb2
  have hsz2 : w.heap.size ≤ w2.heap.size := HB2.out.size
  have k1 := cell_after K1.out HB2.out
  have hA2 := Lib.hid (texts_src (HB.out.later HB2.out))
  have HO2 := Lib.hid hown2
  clear hb2 hown2 k0
  go_wp2_with fail
  rw [rounds_succ]
  go_wp2_with (at_builtin; go_must (refine wpList_append_texts rfl _ _ 101 rfl w.heap.size 9 i0 _ 16 Try.underlying101 hi hz0 hz1 hz2 rfl _ _ rfl (by exact HO2.out) a2 ms.length cap2 ms rfl rfl hA2.out.2.1 hA2.out.2.2 (by first | omega | (simp; omega)) (by decide) hsz2 ?_))
  intro v3 w3 hown3 hb3
  have HB3 : Hid (Below w.heap.size w w3) := HB2.out.trans hb3
  have HO3 := Lib.hid hown3
  clear hb3 hown3 k1
  go_wp2_with fail
  rw [rounds_succ]
  go_wp2_with fail
  go_ret
  exact ⟨_, rfl, by have := HO3.out; simpa using this, HB3.out⟩

end Go.Proofs.Ythlkfbiclhgdoaa

end

section

/-
  THE CONTRACT OF ident.Merge: the lists as one, sorted, each text once.
-/
namespace Go.Proofs.Ythlkfbiclhgdoaa
open Go.RowKit Go.Lib Go.Sort

theorem encS_cell : OneCell encS := fun _ => rfl

theorem eql_S : EqlAt Try.prog 9 encS (fun x y => decide (x = y)) :=
  ⟨fun x y w => by rw [show encS x = .string ⟨x.toArray⟩ from rfl, show encS y = .string ⟨y.toArray⟩ from rfl, (EqlAt.string Try.prog 9).1]; by_cases h : x = y <;> simp [h, ByteArray.toList_eq],
   fun op a b x y w => GuardAt.string Try.prog 9 op a b _ _ w⟩

theorem neq_S : NeqAt Try.prog 9 encS (fun x y => decide (x = y)) :=
  ⟨fun x y w => by rw [show encS x = .string ⟨x.toArray⟩ from rfl, show encS y = .string ⟨y.toArray⟩ from rfl, (NeqAt.string Try.prog 9).1]; by_cases h : x = y <;> simp [h, ByteArray.toList_eq],
   fun op a b x y w => GuardAt.string Try.prog 9 op a b _ _ w⟩

theorem compare_lays (blk off size : Nat) (w : World) : CmpLays1 Try.prog 84 #[] encS idCmp blk off size w :=
  fun m os dk _ x y => (compare_any x y (sortWorld encS w blk off m dk os)).mono fun _ _ ⟨he, o, hw⟩ => ⟨he, 0, #[o], by rw [hw, alloc_eq_grow]; rfl⟩

theorem below_grow {B : Nat} {w0 w : World} (h : Below B w0 w) (hB : B ≤ w.heap.size) (os : Array Obj) : Below B w0 (grow w os) :=
  ⟨h.os, h.tape, h.output, by have := h.size; simp only [grow, Array.size_append]; omega, fun k hk => by
    rw [← h.block k hk]
    simp only [grow]
    rw [Array.getElem?_append_left (by omega)]⟩

/-- The row behind the sort. -/
theorem sorted_row {w1 : World} {g n : Nat} {d d' : Array (List UInt8)} {os : Array Obj} (hH : Holds encS w1 g 0 d) (hg : g < w1.heap.size) (hd : d'.size = d.size) :
    Holds encS (sortWorld encS w1 g 0 n d' os) g 0 d' := by
  unfold sortWorld
  refine holds_grow encS _ os g 0 d' ?_ (holds_putRow encS _ g 0 d d' (holds_ahead encS w1 n g 0 d hH) hd)
  simpa [putRow, mapBlock, Sort.ahead] using hg

theorem sorted_below {B : Nat} {w0 w1 : World} {g n : Nat} {d' : Array (List UInt8)} {os : Array Obj} (h : Below B w0 w1) (hB : B ≤ w1.heap.size) (hg : B ≤ g) : Below B w0 (sortWorld encS w1 g 0 n d' os) := by
  unfold sortWorld
  refine below_grow (below_putRow h hg) ?_ os
  simpa [putRow, mapBlock, Sort.ahead] using hB

/-- The row behind Compact. -/
theorem compact_texts {w2 : World} {g q cap : Nat} {d : Array (List UInt8)} (hH : Holds encS w2 g 0 d) (hg : g < w2.heap.size) (hn : d.size ≤ cap) (hc : cap ≤ maxLen) {ls : List (List UInt8)} (hle : ls.length ≤ d.size) :
    Texts (putRow encS (Sort.ahead w2 q) g 0 (ls ++ List.replicate (d.size - ls.length) []).toArray) (.slice (some ⟨g, 0, none⟩) ls.length cap) ls := by
  refine ⟨some ⟨g, 0, none⟩, cap, rfl, by omega, hc, (fun e => by cases e), .inr ⟨g, 0, rfl, ?_, fun i hi => ?_⟩⟩
  · simpa [putRow, mapBlock, Sort.ahead] using hg
  · have h := holds_putRow encS (Sort.ahead w2 q) g 0 d (ls ++ List.replicate (d.size - ls.length) []).toArray (holds_ahead encS w2 q g 0 d hH) (by simp; omega)
    have h1 := (h i (by simp; omega)).1
    rw [h1]
    congr 2
    rw [getElem!_pos _ i (by simp; omega)]
    simp [List.getD, hi]

theorem compact_len (d : Array (List UInt8)) : (compactUpTo d d.size).length ≤ d.size := by
  unfold compactUpTo
  rw [List.length_map]
  exact Nat.le_trans (List.length_filter_le _ _) (by simp)

set_option maxHeartbeats 1600000 in
set_option maxRecDepth 100000 in
theorem merge_any {w : World} {va vb : Value} {ls ms : List (List UInt8)} (ha : Texts w va ls) (hb : Texts w vb ms) (hl : ls.length ≤ 100) (hm : ms.length ≤ 100) :
    Calls Try.prog 67 #[va, vb] w fun e w' => ∃ v, e = .returned v ∧ Texts w' v (mrg (ls ++ ms)) ∧ Below w.heap.size w w' := by
  have eg : ∀ args w, (callFunc 84 args).run Try.prog w = .ok (.enter 84 args) w := enters_of Try.func84 (by kernel_rfl) rfl
  have hB0 : Below w.heap.size w (w.alloc (.cells #[va, vb] 101)) := (Below.refl _ _).alloc (Nat.le_refl _) _
  have HC := Lib.hid (concat_any (ha.later hB0) (hb.later hB0) hl hm w.heap.size (by simp) (by simp))
  have HB0 := Lib.hid hB0
  obtain ⟨a, cap, rfl, _, _, _, _⟩ := ha
  obtain ⟨a2, cap2, rfl, _, _, _, _⟩ := hb
  clear hB0
  go_enter Try.func67, Try.ntmps67
  go_wp2_with fail
  refine HC.out.mono ?_
  rintro e w1 ⟨v1, rfl, ho1, hb1⟩
  have HB1 := Lib.hid (below2' HB0.out hb1)
  have hsz1 : w.heap.size + 1 ≤ w1.heap.size := by have := hb1.size; simpa using this
  have HO1 := Lib.hid ho1
  clear hb1 ho1 HC HB0
  by_cases h0 : ls ++ ms = []
  · have hr : Hid (mrg (ls ++ ms) = []) := by show _ = _; rw [h0]; rfl
    obtain ⟨p, c, rfl, _⟩ : ∃ p c, v1 = .slice p 0 c ∧ True := by
      obtain ⟨p, c, e, _⟩ := HO1.out.texts
      rw [h0] at e
      exact ⟨p, c, e, trivial⟩
    have HT := Lib.hid HO1.out.texts
    have HS := Lib.hid (Try.slices_SortFunc_none (α := List UInt8) p c (.func (.func 84) #[] #[]) w1)
    have HK := Lib.hid (Try.slices_Compact_string_empty p c w1)
    have H0 := Lib.hid h0
    clear h0
    go_wp2_with fail
    refine HS.out.mono ?_
    rintro e w' ⟨rfl, rfl⟩
    go_wp2_with fail
    refine HK.out.mono ?_
    rintro e w' ⟨rfl, rfl⟩
    go_wp2_with fail
    go_ret
    exact ⟨_, rfl, by rw [hr.out]; have := HT.out; rw [H0.out] at this; exact this, HB1.out⟩
  · have hv : v1 ≠ .slice none 0 0 := by
      intro e
      obtain ⟨p, c, e', _⟩ := HO1.out.texts
      rw [e'] at e
      simp only [Value.slice.injEq] at e
      exact h0 (List.length_eq_zero_iff.1 e.2.1)
    obtain ⟨g, c, rfl, hg1, hg2, hn, hc, _, hH⟩ := holds_of_ownsRow (zs := ls ++ ms) (HO1.out : World.ownsRow _ _ _ _ _ _ _) hv
    have hg1' : w.heap.size + 1 ≤ g := by simpa using hg1
    have HS := Lib.hid (Try.slices_SortFunc_total encS (fun _ => rfl) idCmp idSWO 84 #[] g 0 c (ls ++ ms).toArray w1 eg (compare_lays g 0 _ w1) hH hg2 (by simp; omega) idTot)
    have hlen : (ls ++ ms).length = ls.length + ms.length := List.length_append
    simp only [List.size_toArray, hlen] at HS
    have HH := Lib.hid hH
    rw [hlen] at hn
    clear eg hH hg1 hv h0 hlen
    go_wp2_with fail
    refine HS.out.mono ?_
    rintro e w2 ⟨rfl, nn, os, hw2⟩
    have hD : Hid (Holds encS w2 g 0 ((ls ++ ms).mergeSort fun x y => !(ltOf idCmp) y x).toArray) := by
      show Holds _ _ _ _ _
      rw [hw2]
      exact sorted_row HH.out hg2 (by simp)
    have HB2 : Hid (Below w.heap.size w w2) := by
      show Below _ _ _
      rw [hw2]
      exact sorted_below HB1.out (by omega) (by omega)
    have hg3 : Hid (g < w2.heap.size) := by
      show g < _
      rw [hw2]
      simp only [sortWorld, grow, Array.size_append, putRow, mapBlock, Array.size_modify, Sort.ahead]
      omega
    have hsl : ((ls ++ ms).mergeSort fun x y => !(ltOf idCmp) y x).length = ls.length + ms.length := by simp
    obtain ⟨d, hd⟩ : ∃ d, d = ((ls ++ ms).mergeSort fun x y => !(ltOf idCmp) y x).toArray := ⟨_, rfl⟩
    have hds : d.size = ls.length + ms.length := by rw [hd]; simp
    have HM : Hid (compactUpTo d d.size = mrg (ls ++ ms)) := by show _ = _; rw [hd]; exact sort_compact _
    rw [← hd] at hD
    have HK := Lib.hid (Try.slices_Compact encS encS_cell eql_S neq_S [] (fun _ => by kernel_rfl) g 0 c d w2 hD.out (by omega) (by omega))
    have hcl := compact_len d
    rw [HM.out] at HK hcl
    rw [hds] at HK
    have HT : Hid (∀ q, Texts (putRow encS (Sort.ahead w2 q) g 0 (mrg (ls ++ ms) ++ List.replicate (d.size - (mrg (ls ++ ms)).length) []).toArray) (.slice (some ⟨g, 0, none⟩) (mrg (ls ++ ms)).length c) (mrg (ls ++ ms))) :=
      fun q => compact_texts hD.out hg3.out (by omega) hc hcl
    rw [hds] at HT
    clear hw2 hd hds hsl HM HS hD hcl HH
    obtain ⟨r, hr⟩ : ∃ r, mrg (ls ++ ms) = r := ⟨_, rfl⟩
    rw [hr] at HK HT
    have HR := Lib.hid hr
    clear hr
    go_wp2_with fail
    refine HK.out.mono ?_
    rintro e w3 ⟨rfl, q, hw3⟩
    have HT3 := HT.out q
    rw [← hw3] at HT3
    have HB3 : Hid (Below w.heap.size w w3) := by
      show Below _ _ _
      rw [hw3]
      exact below_putRow HB2.out (by omega)
    have HT3' := Lib.hid HT3
    clear hw3 HT3 HK HT
    go_wp2_with fail
    go_ret
    exact ⟨_, rfl, by rw [HR.out]; exact HT3'.out, HB3.out⟩

end Go.Proofs.Ythlkfbiclhgdoaa

end

section

/-
  THE CONTRACTS OF digest.place, digest.contacts AND OF THE DOCUMENT'S contacts.
-/
namespace Go.Proofs.Ythlkfbiclhgdoaa
open Go.RowKit

set_option maxHeartbeats 1600000 in
set_option maxRecDepth 100000 in
theorem diplace_any {w : World} {v : Value} {t : List Row} (hv : Tab w v t) (key : List UInt8) :
    Calls Try.prog 52 #[v, .string ⟨key.toArray⟩] w fun e w' => e = .returned (.int .i64 (diPlace t key)) ∧ Below w.heap.size w w' := by
  have HV := Lib.hid hv
  obtain ⟨a, cap, rfl, hm⟩ := hv.open'
  clear hv
  go_enter Try.func52, Try.ntmps52
  go_wp2_with fail
  go_loopw [5] (fun i wr => ∃ k : Nat, k ≤ t.length ∧ i = .int .i64 k ∧ Hid (Below w.heap.size w wr) ∧ Hid (plc t key k = diPlace t key)) (fun i _ => (intOf i).toNat)
  case atStart => exact ⟨t.length, by omega, rfl, Below.refl _ _, rfl⟩
  case round =>
    obtain ⟨k, hk, rfl, HN, HA⟩ := hrel
    rcases Nat.eq_zero_or_pos k with rfl | hpos
    · have HR : Hid (diPlace t key = 0) := by show _ = _; rw [← HA.out]; rfl
      go_wp2_with fail
      go_ret
      exact ⟨by rw [HR.out]; rfl, HN.out⟩
    · obtain ⟨j, rfl⟩ : ∃ j, k = j + 1 := ⟨k - 1, by omega⟩
      obtain ⟨b, off, rfl, h0, _, _, _, _⟩ := HV.out.row HN.out j (by omega)
      obtain ⟨yy, hy⟩ : ∃ yy, (t.getD j Row.zero).c = yy := ⟨_, rfl⟩
      rw [hy] at h0
      have ha := HA.out
      unfold plc at ha
      rw [hy] at ha
      cases hle : idLess yy key with
      | true =>
        rw [if_pos hle] at ha
        have HR := Lib.hid ha
        have HLe := Lib.hid (less_eq yy key (r := true) (Lib.hid hle))
        clear hle ha hy hpos
        go_wp2_with fail
        refine (HLe.out _).mono ?_
        rintro e w1 ⟨rfl, hb1⟩
        have N1 := Lib.hid (below2' HN.out hb1)
        clear hb1 h0
        go_wp2_with fail
        go_ret
        exact ⟨by rw [← HR.out]; rfl, N1.out⟩
      | false =>
        rw [if_neg (by rw [hle]; decide)] at ha
        have HA2 := Lib.hid ha
        have HLe := Lib.hid (less_eq yy key (r := false) (Lib.hid hle))
        clear hle ha hy hpos
        go_wp2_with fail
        refine (HLe.out _).mono ?_
        rintro e w1 ⟨rfl, hb1⟩
        have N1 := Lib.hid (below2' HN.out hb1)
        clear hb1 h0
        go_wp2_with fail
        go_roundw
        case rel => exact ⟨j, by omega, by go_num, N1, HA2⟩
        case measure => first | (simp [intOf]; done) | (simp [intOf]; omega)

/-- A row of texts that may be written. -/
def RowT (w : World) (B : Nat) (u : List (List UInt8)) : Prop := ∀ j, j < u.length → w.cell? ⟨B, j, none⟩ = some (encS (u.getD j [])) ∧ w.frozen? ⟨B, j, none⟩ = false

theorem RowT.set {w : World} {B : Nat} {u : List (List UInt8)} (h : RowT w B u) (j : Nat) (x : List UInt8) (hj : j < u.length) : RowT (w.setCell ⟨B, j, none⟩ (encS x)) B (u.set j x) := by
  intro i hi
  have hi' : i < u.length := by simpa using hi
  refine ⟨?_, (World.frozen?_setCell w _ _ _).trans (h i hi').2⟩
  by_cases hij : i = j
  · subst hij
    rw [World.cell?_setCell_same _ _ _ (h i hj).1]
    simp [List.getD, hj]
  · rw [World.cell?_setCell_other _ _ _ _ (by simp), (h i hi').1]
    simp [List.getD, show ¬ j = i by omega]

theorem RowT.later {w w' : World} {B : Nat} {u : List (List UInt8)} (h : RowT w B u) (hB : B < w.heap.size) (hb : Below w.heap.size w w') : RowT w' B u := fun j hj =>
  ⟨(hb.cell (p := ⟨B, j, none⟩) hB).trans (h j hj).1, (hb.frozen (p := ⟨B, j, none⟩) hB).trans (h j hj).2⟩

theorem RowT.texts {w : World} {B : Nat} {u : List (List UInt8)} (h : RowT w B u) (hB : B < w.heap.size) (hl : u.length ≤ 4294967296) : Texts w (.slice (some ⟨B, 0, none⟩) u.length u.length) u :=
  ⟨_, u.length, rfl, Nat.le_refl _, by unfold maxLen; omega, (fun e => by cases e), .inr ⟨B, 0, rfl, hB, fun i hi => by rw [Nat.zero_add]; exact (h i hi).1⟩⟩

/-- The contacts up to k, and nothing yet behind. -/
def ctsAt (t : List Row) (k : Nat) : List (List UInt8) := (cts t).take k ++ List.replicate (t.length - k) []

theorem madeTexts (n : Nat) : (madeCells (Value.string ⟨#[]⟩).cells (n * 1)).toList = List.replicate n (encS []) := by
  rw [Nat.mul_one]
  exact toList_madeCells_one _ n

/-- 'make([]string, n)'. -/
theorem wpList_make_texts {w : World} {ops : Array Oper} {rest : List Oper} {o : Oper} {a : Act} {Q : Exit → Act → World → Prop}
    (hg : o.guard = none) (l c : Operand) (hop : o.op = Op.makeSlice 101 l c)
    (L C : Int) (n : Nat) (hl : a.eval l = .int .i64 L) (hc : a.eval c = .int .i64 C) (hL : L = (n : Int)) (hC : C = (n : Int)) (hn : n ≤ 4294967296)
    (hK : ∀ w', RowT w' w.heap.size (List.replicate n []) → Below w.heap.size w w' → w.heap.size < w'.heap.size → wpList Try.prog ops Q rest (a.put o.dst (.slice (some ⟨w.heap.size, 0, none⟩) n n)) w') :
    wpList Try.prog ops Q (o :: rest) a w := by
  obtain ⟨i, hi, hz, hsize, hby⟩ := info_parts Try.infoStr
  refine wpList_make_full w hg l c _ hop w.heap.size 9 i _ 1 Try.underlying101 hi hz hsize .i64 .i64 L C n hl hc hL hC (by rw [hby]; omega) (by unfold maxLen; omega) (Nat.le_refl _) ?_
  intro w' hown hgrow
  refine hK w' (fun j hj => ?_) ((Below.refl _ _).grown hgrow (Nat.le_refl _) (fun k hk => by simp at hk)) (hown.lt w.heap.size rfl).2
  have hj' : j < n := by simpa using hj
  refine ⟨?_, hown.frozenAt j⟩
  rw [hown.cellAt j (by omega), madeTexts]
  simp [List.getD, hj']

end Go.Proofs.Ythlkfbiclhgdoaa

end

section

/-
  THE CONTRACT OF digest.firsts: a map of the call's own, from each Contact to its first row.
-/
namespace Go.Proofs.Ythlkfbiclhgdoaa
open Go.RowKit Go.ChangeMaps Go.MapKept

/-- How a row reads as a map's element. -/
def seenData (r : Row) : DataW Unit := .agg [.lit (.string r.c), .lit (.int .i64 r.v.sh), .lit (.int .i64 r.v.pr), .lit (.int .i64 r.v.si), .lit (.string r.v.st)]

def seenElem : Value → Option (DataW Unit × List MemPlace)
  | .agg cs => match cs.toList with
    | [.string c, .int .i64 x, .int .i64 y, .int .i64 z, .string s] => some (seenData ⟨c.data.toList, x, y, z, s.data.toList⟩, [])
    | _ => none
  | _ => none

/-- The row that a Contact's key stands for. -/
def firstRow (t : List Row) (x : List UInt8) : Row := if (diGet t x).2 = true then ⟨x, (diGet t x).1⟩ else Row.zero

/-- Block B is a map that holds of each Contact of t the first row. -/
def FirstsAt (w : World) (B : Nat) (t : List Row) : Prop :=
  ∃ n, ∃ D : DataW Unit, n ≤ t.length ∧ w.ownsMap Try.prog 9 seenElem B n D ∧
    ∀ x : List UInt8, Maps.has D (.string x) = (diGet t x).2 ∧ D.atKey (.string x) (seenData Row.zero) = seenData (firstRow t x)

theorem FirstsAt.lt {w : World} {B : Nat} {t : List Row} (h : FirstsAt w B t) : B < w.heap.size := by
  obtain ⟨_, _, _, h, _⟩ := h
  exact h.lt

theorem FirstsAt.later {w w' : World} {B : Nat} {t : List Row} (h : FirstsAt w B t) (hb : Below w.heap.size w w') : FirstsAt w' B t := by
  have hlt := h.lt
  obtain ⟨n, D, h1, ⟨es, clock, h2, h3, h4, h5⟩, h6⟩ := h
  exact ⟨n, D, h1, ⟨es, clock, (hb.block B hlt).trans h2, h3, h4, h5⟩, h6⟩

end Go.Proofs.Ythlkfbiclhgdoaa

end

section

/-
  LISTS OF CHANGES IN MEMORY: rows of six cells.
-/
namespace Go.Proofs.Ythlkfbiclhgdoaa
open Go.RowKit

def Chg.zero : Chg := ⟨[], false, Val.zero⟩

def chgVals (r : Chg) : List Value := [.string ⟨r.c.toArray⟩, .bool r.on, .int .i64 r.v.sh, .int .i64 r.v.pr, .int .i64 r.v.si, .string ⟨r.v.st.toArray⟩]

def Cells6 (w : World) (b o : Nat) (r : Chg) : Prop :=
  w.cell? ⟨b, o, none⟩ = some (.string ⟨r.c.toArray⟩) ∧ w.cell? ⟨b, o + 1, none⟩ = some (.bool r.on) ∧ w.cell? ⟨b, o + 2, none⟩ = some (.int .i64 r.v.sh) ∧ w.cell? ⟨b, o + 3, none⟩ = some (.int .i64 r.v.pr) ∧
    w.cell? ⟨b, o + 4, none⟩ = some (.int .i64 r.v.si) ∧ w.cell? ⟨b, o + 5, none⟩ = some (.string ⟨r.v.st.toArray⟩)

theorem Cells6.later {w w' : World} {b o : Nat} {r : Chg} (h : Cells6 w b o r) (hb : Below w.heap.size w w') (hlt : b < w.heap.size) : Cells6 w' b o r := by
  obtain ⟨h0, h1, h2, h3, h4, h5⟩ := h
  have k : ∀ o, w'.cell? ⟨b, o, none⟩ = w.cell? ⟨b, o, none⟩ := fun o => hb.cell (p := ⟨b, o, none⟩) hlt
  exact ⟨(k _).trans h0, (k _).trans h1, (k _).trans h2, (k _).trans h3, (k _).trans h4, (k _).trans h5⟩

/-- Which changes a slice holds. -/
def Chgs (w : World) (v : Value) (t : List Chg) : Prop :=
  ∃ a cap, v = .slice a t.length cap ∧ t.length ≤ cap ∧ cap ≤ maxLen ∧ (a = none → cap = 0) ∧
    (t = [] ∨ ∃ b off, a = some ⟨b, off, none⟩ ∧ b < w.heap.size ∧ ∀ i, i < t.length → Cells6 w b (off + i * 6) (t.getD i Chg.zero))

theorem Chgs.later {w w' : World} {v : Value} {t : List Chg} (h : Chgs w v t) (hb : Below w.heap.size w w') : Chgs w' v t := by
  obtain ⟨a, cap, h1, h2, h3, h4, h5⟩ := h
  refine ⟨a, cap, h1, h2, h3, h4, ?_⟩
  rcases h5 with h5 | ⟨b, off, e, hlt, hc⟩
  · exact .inl h5
  · exact .inr ⟨b, off, e, Nat.lt_of_lt_of_le hlt hb.size, fun i hi => (hc i hi).later hb hlt⟩

theorem chgs_nil (w : World) : Chgs w (.slice none 0 0) [] := ⟨none, 0, rfl, by simp, by simp, fun _ => rfl, .inl rfl⟩

/-- A change of a list, in a later world. -/
theorem Chgs.row {w wr : World} {a : Option Addr} {n cap : Nat} {t : List Chg} (h : Chgs w (.slice a n cap) t) (hb : Below w.heap.size w wr) (k : Nat) (hk : k < t.length) :
    ∃ b off, a = some ⟨b, off, none⟩ ∧ Cells6 wr b (off + k * 6) (t.getD k Chg.zero) := by
  obtain ⟨a', cap', e, _, _, _, h⟩ := h.later hb
  simp only [Value.slice.injEq] at e
  rcases h with h | ⟨b, off, e', _, hc⟩
  · rw [h] at hk; simp at hk
  · exact ⟨b, off, e.1.trans e', hc k hk⟩

theorem Chgs.open' {w : World} {v : Value} {t : List Chg} (h : Chgs w v t) : ∃ a cap, v = .slice a t.length cap ∧ t.length ≤ 9223372036854775807 := by
  obtain ⟨a, cap, e, h1, h2, _⟩ := h
  unfold maxLen at h2
  exact ⟨a, cap, e, by omega⟩

/-- The cells of rows, one row behind the other. -/
def cellsOfC (t : List Chg) : List Value := (t.map chgVals).flatten

theorem cellsOfC_cons (r : Chg) (t : List Chg) : cellsOfC (r :: t) = chgVals r ++ cellsOfC t := rfl
theorem chgVals_len (r : Chg) : (chgVals r).length = 6 := rfl

theorem cellsOfC_at : ∀ (t : List Chg) (i j : Nat), i < t.length → j < 6 → (cellsOfC t)[i * 6 + j]? = (chgVals (t.getD i Chg.zero))[j]?
  | [], i, j, h, _ => by simp at h
  | r :: t, 0, j, _, hj => by
    rw [cellsOfC_cons, Nat.zero_mul, Nat.zero_add, List.getElem?_append_left (by rw [chgVals_len]; exact hj)]
    rfl
  | r :: t, i + 1, j, h, hj => by
    rw [cellsOfC_cons, List.getElem?_append_right (by rw [chgVals_len]; omega), chgVals_len, show (i + 1) * 6 + j - 6 = i * 6 + j by omega, cellsOfC_at t i j (by simpa using h) hj]
    rfl

theorem cells6_of {w : World} {b o : Nat} {r : Chg} (h : ∀ j u, (chgVals r)[j]? = some u → w.cell? ⟨b, o + j, none⟩ = some u) : Cells6 w b o r :=
  ⟨h 0 _ rfl, h 1 _ rfl, h 2 _ rfl, h 3 _ rfl, h 4 _ rfl, h 5 _ rfl⟩

/-- A list of changes of the call's own. -/
def OwnC (w : World) (base : Nat) (v : Value) (t : List Chg) : Prop := w.ownsRow base 33 6 v t.length (cellsOfC t)

theorem OwnC.alloc {w : World} {base : Nat} {v : Value} {t : List Chg} (h : OwnC w base v t) (o : Obj) : OwnC (w.alloc o) base v t := World.ownsRow.alloc h o

theorem OwnC.later {w w' : World} {base : Nat} {v : Value} {t : List Chg} (h : OwnC w base v t) (hb : Below w.heap.size w w') : OwnC w' base v t := by
  refine ⟨h.1, ?_⟩
  rcases h.2 with h' | ⟨g, cap, cur, h1, h2, h3, h4⟩
  · exact .inl h'
  · exact .inr ⟨g, cap, cur, h1, h2, by rw [hb.block g (Array.getElem?_eq_some_iff.1 h3).1]; exact h3, h4⟩

theorem OwnC.chgs {w : World} {base : Nat} {v : Value} {t : List Chg} (h : OwnC w base v t) : Chgs w v t := by
  rcases h with ⟨_, ⟨rfl, h0⟩ | ⟨g, cap, cur, rfl, hb, hg, hn, hc, hsz, htk⟩⟩
  · obtain rfl : t = [] := List.length_eq_zero_iff.1 h0
    exact chgs_nil w
  · refine ⟨some ⟨g, 0, none⟩, cap, rfl, hn, hc, (fun e => by cases e), .inr ⟨g, 0, rfl, (Array.getElem?_eq_some_iff.1 hg).1, fun i hi => ?_⟩⟩
    refine cells6_of fun j u hu => ?_
    have hj : j < 6 := by have := (List.getElem?_eq_some_iff.1 hu).1; rwa [chgVals_len] at this
    rw [Nat.zero_add, cell_of_row w g (i * 6 + j) cur _ (0, 0) hg]
    have h1 : cur.toList[i * 6 + j]? = (cellsOfC t)[i * 6 + j]? := by
      rw [← htk, List.getElem?_take, if_pos (by omega)]
    rw [← hu, ← cellsOfC_at t i j hi hj, ← h1]
    simp

theorem Try.infoChange : (Try.prog.info? 33).map (fun i => (i.zero, i.size, i.bytes)) = some (some (.agg #[.string ⟨#[]⟩, .bool false, .int .i64 0, .int .i64 0, .int .i64 0, .string ⟨#[]⟩]), 6, 64) := by kernel_rfl

end Go.Proofs.Ythlkfbiclhgdoaa

end

section

/-
  ROWS OF A TABLE OF THE CALL'S OWN: stored into, copied, cleared, grown by zero rows.
-/
namespace Go.Proofs.Ythlkfbiclhgdoaa
open Go.RowKit

/-- 'ms' laid over 'u' from place 'o' on. -/
def lay {α : Type} (u : List α) (o : Nat) (ms : List α) : List α := u.take o ++ (ms ++ u.drop (o + ms.length))

theorem lay_len {α : Type} {u : List α} {o : Nat} {ms : List α} (h : o + ms.length ≤ u.length) : (lay u o ms).length = u.length := by
  unfold lay
  simp
  omega

theorem lay_nil {α : Type} (u : List α) (o : Nat) : lay u o [] = u := by simp [lay]

theorem lay_cons {α : Type} (u : List α) (o : Nat) (x : α) (r : List α) (h : o < u.length) : lay (u.set o x) (o + 1) r = lay u o (x :: r) := by
  unfold lay
  have h1 : (u.set o x).take (o + 1) = u.take o ++ [x] := by
    rw [List.take_set, List.set_eq_take_append_cons_drop]
    rw [if_pos (by rw [List.length_take]; omega)]
    rw [List.take_take, List.drop_of_length_le (by rw [List.length_take]; omega), show min o (o + 1) = o by omega]
  have h2 : (u.set o x).drop (o + 1 + r.length) = u.drop (o + (x :: r).length) := by
    rw [List.drop_set, if_pos (by omega)]
    congr 1
    simp only [List.length_cons]
    omega
  rw [h1, h2]
  simp

theorem own_setCells {e size base g n cap : Nat} : ∀ (vs : List Value) (o : Nat) (w : World) (xs : List Value), w.ownsRow base e size (.slice (some ⟨g, 0, none⟩) n cap) n xs → o + vs.length ≤ xs.length →
    (w.setCells g o vs).ownsRow base e size (.slice (some ⟨g, 0, none⟩) n cap) n (lay xs o vs)
  | [], o, w, xs, h, _ => by rw [lay_nil]; exact h
  | v :: r, o, w, xs, h, hl => by
    rw [World.setCells, ← lay_cons xs o v r (by simp at hl; omega)]
    exact own_setCells r (o + 1) _ _ (h.stored o v).1 (by simp at hl ⊢; omega)

theorem below_setCells {B g : Nat} {w0 : World} (hB : B ≤ g) : ∀ (vs : List Value) (o : Nat) (w : World), Below B w0 w → Below B w0 (w.setCells g o vs)
  | [], _, _, h => h
  | v :: r, o, w, h => by
    rw [World.setCells]
    exact below_setCells hB r (o + 1) _ (h.setCell hB v)

theorem cellsOf_take (u : List Row) (o : Nat) : (cellsOf u).take (o * 5) = cellsOf (u.take o) := by
  have h := cellsOf_append (u.take o) (u.drop o)
  rw [List.take_append_drop] at h
  rw [h]
  by_cases ho : o ≤ u.length
  · rw [List.take_left' (by rw [cellsOf_len, List.length_take]; omega)]
  · have e1 : u.drop o = [] := List.drop_of_length_le (by omega)
    have e2 : u.take o = u := List.take_of_length_le (by omega)
    rw [e1, e2, cellsOf_nil, List.append_nil, List.take_of_length_le (by rw [cellsOf_len]; omega)]

theorem cellsOf_drop (u : List Row) (o : Nat) : (cellsOf u).drop (o * 5) = cellsOf (u.drop o) := by
  have h := cellsOf_append (u.take o) (u.drop o)
  rw [List.take_append_drop] at h
  by_cases ho : o ≤ u.length
  · rw [h, List.drop_left' (by rw [cellsOf_len, List.length_take]; omega)]
  · have e1 : u.drop o = [] := List.drop_of_length_le (by omega)
    rw [e1, cellsOf_nil, List.drop_of_length_le (by rw [cellsOf_len]; omega)]

theorem cellsOf_lay (u : List Row) (o : Nat) (ms : List Row) : lay (cellsOf u) (o * 5) (cellsOf ms) = cellsOf (lay u o ms) := by
  unfold lay
  rw [cellsOf_append, cellsOf_append, cellsOf_take, cellsOf_len, ← Nat.add_mul, cellsOf_drop]

/-- Rows laid over a table of the call's own. -/
theorem ownR_lay {w : World} {base g n cap : Nat} {u : List Row} (h : OwnR w base (.slice (some ⟨g, 0, none⟩) n cap) u) (hn : n = u.length) (o : Nat) (ms : List Row) (ho : o + ms.length ≤ u.length) :
    OwnR (w.setCells g (o * 5) (cellsOf ms)) base (.slice (some ⟨g, 0, none⟩) n cap) (lay u o ms) := by
  subst hn
  unfold OwnR at h ⊢
  rw [lay_len ho, ← cellsOf_lay]
  exact own_setCells _ _ _ _ h (by rw [cellsOf_len, cellsOf_len, ← Nat.add_mul]; exact Nat.mul_le_mul_right _ ho)

theorem OwnR.head {w : World} {base g n cap : Nat} {u : List Row} (h : OwnR w base (.slice (some ⟨g, 0, none⟩) n cap) u) : n = u.length ∧ base ≤ g ∧ g < w.heap.size ∧ n ≤ cap ∧ cap ≤ maxLen ∧ ∃ cur : Array Value, w.heap[g]? = some (.cells cur 72 (0, 0)) ∧ cur.size = cap * 5 := by
  rcases h with ⟨_, ⟨h', _⟩ | ⟨g', cap', cur, h', hb, hg, hnc, hcm, hcs, _⟩⟩
  · simp at h'
  · simp only [Value.slice.injEq, Option.some.injEq, Addr.mk.injEq, and_true] at h'
    obtain ⟨rfl, h2, rfl⟩ := h'
    exact ⟨h2, hb, (Array.getElem?_eq_some_iff.1 hg).1, by omega, hcm, cur, hg, hcs⟩

theorem OwnR.cellAt {w : World} {base g n cap : Nat} {u : List Row} (h : OwnR w base (.slice (some ⟨g, 0, none⟩) n cap) u) (j : Nat) (hj : j < u.length * 5) : w.cell? ⟨g, j, none⟩ = (cellsOf u)[j]? := by
  have hn := h.head.1
  subst hn
  exact World.ownsRow.cellAt h j hj

theorem OwnR.frozenAt {w : World} {base g n cap : Nat} {u : List Row} (h : OwnR w base (.slice (some ⟨g, 0, none⟩) n cap) u) (j : Nat) : w.frozen? ⟨g, j, none⟩ = false := by
  have hn := h.head.1
  subst hn
  exact World.ownsRow.frozenAt h j

theorem OwnR.someAt {w : World} {base g n cap : Nat} {u : List Row} (h : OwnR w base (.slice (some ⟨g, 0, none⟩) n cap) u) (j : Nat) (hj : j < u.length * 5) : (w.cell? ⟨g, j, none⟩).isSome = true := by
  rw [h.cellAt j hj, List.getElem?_eq_getElem (by rw [cellsOf_len]; exact hj)]
  rfl

/-- One row stored. -/
theorem ownR_store {w : World} {base g n cap : Nat} {u : List Row} (h : OwnR w base (.slice (some ⟨g, 0, none⟩) n cap) u) (i : Nat) (hi : i < u.length) (r : Row) :
    OwnR (((((w.setCell ⟨g, i * 5, none⟩ (.string ⟨r.c.toArray⟩)).setCell ⟨g, i * 5 + 1, none⟩ (.int .i64 r.v.sh)).setCell ⟨g, i * 5 + 2, none⟩ (.int .i64 r.v.pr)).setCell ⟨g, i * 5 + 3, none⟩ (.int .i64 r.v.si)).setCell ⟨g, i * 5 + 4, none⟩ (.string ⟨r.v.st.toArray⟩)) base (.slice (some ⟨g, 0, none⟩) n cap) (u.set i r) := by
  have := ownR_lay h h.head.1 i [r] (by simp; omega)
  rw [cellsOf_one] at this
  have e : lay u i [r] = u.set i r := by
    unfold lay
    rw [List.set_eq_take_append_cons_drop, if_pos hi]
    rfl
  rw [e] at this
  exact this

/-- The cells that a slice of rows reads. -/
def SrcR (w : World) (ad : Addr) (ms : List Row) : Prop := ∀ j u, (cellsOf ms)[j]? = some u → w.cell? (ad.add j) = some u

theorem OwnR.src {w : World} {base g n cap : Nat} {u : List Row} (h : OwnR w base (.slice (some ⟨g, 0, none⟩) n cap) u) (o k : Nat) (hk : o + k ≤ u.length) : SrcR w ⟨g, o * 5, none⟩ ((u.drop o).take k) := by
  intro j x hx
  have hj := (List.getElem?_eq_some_iff.1 hx).1
  rw [cellsOf_len, List.length_take, List.length_drop] at hj
  rw [Addr.add_lit, h.cellAt _ (by omega), ← hx]
  rw [← cellsOf_take, ← cellsOf_drop, List.getElem?_take, if_pos (by omega), List.getElem?_drop]

theorem run_copy_rows {w : World} (base g n cap : Nat) (u : List Row) (h : OwnR w base (.slice (some ⟨g, 0, none⟩) n cap) u) (o dl dc : Nat) (ad : Addr) (sl sc : Nat) (ms : List Row) (hn : ms.length = Nat.min sl dl) (hsrc : SrcR w ad ms) (ho : o + ms.length ≤ u.length) (ty : TypeId) :
    (Builtin.copy_ #[25, 25] ty #[.slice (some ⟨g, o * 5, none⟩) dl dc, .slice (some ad) sl sc]).run Try.prog w = .ok (goInt ms.length) (w.setCells g (o * 5) (cellsOf ms)) := by
  obtain ⟨i, hi, hz, hsize, hby⟩ := info_parts Try.infoSeen
  have hl := run_loadCells_list (P := Try.prog) w ad (cellsOf ms) hsrc
  rw [cellsOf_len] at hl
  have hst := run_storeCells_cells (P := Try.prog) g (o * 5) (cellsOf ms) 0 w (fun j hj => by
    rw [cellsOf_len] at hj
    exact h.someAt _ (by omega)) (fun j _ => h.frozenAt _) (cellsOf_single ms)
  rw [Nat.add_zero] at hst
  simp [Builtin.copy_, run_underlying Try.underlying25, Builtin.lenOf, Builtin.firstCells, sizeOf, typeInfo, hi, hsize, ← hn, hl, hst]

/-- 'copy(dst, src)', dst within a table of the call's own. -/
theorem wp_copy_rows {w : World} {o : Oper} {a : Act} {K : Act → World → Prop} {Q : Exit → Act → World → Prop} (d s : Operand)
    (ho : o.op = .call { callee := .builtin .copy, args := #[d, s], argTypes := #[25, 25] })
    (base g n cap : Nat) (u : List Row) (h : OwnR w base (.slice (some ⟨g, 0, none⟩) n cap) u) (p dl dc : Nat) (ad : Addr) (sl sc : Nat)
    (hd : a.eval d = .slice (some ⟨g, p * 5, none⟩) dl dc) (hs : a.eval s = .slice (some ad) sl sc) (ms : List Row) (hn : ms.length = Nat.min sl dl) (hsrc : SrcR w ad ms) (hp : p + ms.length ≤ u.length)
    (hK : ∀ w', OwnR w' base (.slice (some ⟨g, 0, none⟩) n cap) (lay u p ms) → Below g w w' → (∀ x : Addr, x.block ≠ g → w'.cell? x = w.cell? x) → K (a.put o.dst (goInt ms.length)) w') : o.wp Try.prog a w K Q := by
  have hr := run_copy_rows base g n cap u h p dl dc ad sl sc ms hn hsrc hp o.type
  unfold Oper.wp execOp
  simp only [ho, resolve, invoke, builtin, Sem.run_bind, Sem.run_pure, Result.andThen_ok, List.map_toArray, List.map_cons, List.map_nil, hd, hs, hr]
  refine hK _ (ownR_lay h h.head.1 p ms hp) (below_setCells (Nat.le_refl _) _ _ _ (Below.refl _ _)) (fun x hx => ?_)
  exact World.cell?_setCells_out g _ _ _ _ (fun hb _ => absurd hb hx)

theorem wpList_copy_rows {w : World} {ops : Array Oper} {rest : List Oper} {o : Oper} {a : Act} {Q : Exit → Act → World → Prop} (hgd : o.guard = none) (d s : Operand)
    (ho : o.op = .call { callee := .builtin .copy, args := #[d, s], argTypes := #[25, 25] })
    (base g n cap : Nat) (u : List Row) (h : OwnR w base (.slice (some ⟨g, 0, none⟩) n cap) u) (p dl dc : Nat) (ad : Addr) (sl sc : Nat)
    (hd : a.eval d = .slice (some ⟨g, p * 5, none⟩) dl dc) (hs : a.eval s = .slice (some ad) sl sc) (ms : List Row) (hn : ms.length = Nat.min sl dl) (hsrc : SrcR w ad ms) (hp : p + ms.length ≤ u.length)
    (hK : ∀ w', OwnR w' base (.slice (some ⟨g, 0, none⟩) n cap) (lay u p ms) → Below g w w' → (∀ x : Addr, x.block ≠ g → w'.cell? x = w.cell? x) → wpList Try.prog ops Q rest (a.put o.dst (goInt ms.length)) w') : wpList Try.prog ops Q (o :: rest) a w :=
  wpList_plain hgd fun _ hK' => wp_copy_rows d s ho base g n cap u h p dl dc ad sl sc hd hs ms hn hsrc hp fun w' h1 h2 h3 => hK' _ _ (hK w' h1 h2 h3)

theorem step_copy_rows {w : World} {ops : Array Oper} {o : Oper} {a : Act} {K : Act → World → Prop} {Q : Exit → Act → World → Prop} {E : Prop} (hgd : o.guard = none) (d s : Operand)
    (ho : o.op = .call { callee := .builtin .copy, args := #[d, s], argTypes := #[25, 25] })
    (base g n cap : Nat) (u : List Row) (h : OwnR w base (.slice (some ⟨g, 0, none⟩) n cap) u) (p dl dc : Nat) (ad : Addr) (sl sc : Nat)
    (hd : a.eval d = .slice (some ⟨g, p * 5, none⟩) dl dc) (hs : a.eval s = .slice (some ad) sl sc) (ms : List Row) (hn : ms.length = Nat.min sl dl) (hsrc : SrcR w ad ms) (hp : p + ms.length ≤ u.length)
    (hK : ∀ w', OwnR w' base (.slice (some ⟨g, 0, none⟩) n cap) (lay u p ms) → Below g w w' → (∀ x : Addr, x.block ≠ g → w'.cell? x = w.cell? x) → K (a.put o.dst (goInt ms.length)) w') :
    if Region.wanted o (yielded ops a.tmps) = true then Oper.wp Try.prog o a w K Q else E := by
  have hw : Region.wanted o (yielded ops a.tmps) = true := by simp [Region.wanted, hgd]
  rw [if_pos hw]
  exact wp_copy_rows d s ho base g n cap u h p dl dc ad sl sc hd hs ms hn hsrc hp hK

theorem zeroRows (n : Nat) : (Builtin.zeroCells (Value.agg #[.string ⟨#[]⟩, .int .i64 0, .int .i64 0, .int .i64 0, .string ⟨#[]⟩]).cells n).toList = cellsOf (List.replicate n Row.zero) := by
  apply List.ext_getElem?
  intro j
  by_cases hj : j < n * 5
  · have e : j = j / 5 * 5 + j % 5 := by omega
    have h1 : (cellsOf (List.replicate n Row.zero))[j]? = (rowVals Row.zero)[j % 5]? := by
      conv => lhs; rw [e]
      rw [cellsOf_at _ _ _ (by rw [List.length_replicate]; omega) (by omega)]
      simp [List.getD, show j / 5 < n by omega]
    rw [h1]
    have h5 : j % 5 = 0 ∨ j % 5 = 1 ∨ j % 5 = 2 ∨ j % 5 = 3 ∨ j % 5 = 4 := by omega
    simp only [Builtin.zeroCells, Value.cells]
    rcases h5 with h | h | h | h | h <;> simp [hj, h, rowVals, Row.zero, Val.zero]
  · rw [List.getElem?_eq_none (by simp [Builtin.zeroCells, Value.cells]; omega), List.getElem?_eq_none (by rw [cellsOf_len, List.length_replicate]; omega)]

/-- 'append(s[:i], make([]Seen, k)...)' where there is no room for k more. -/
theorem wpList_append_zero_rows {w : World} {ops : Array Oper} {rest : List Oper} {o : Oper} {a : Act} {Q : Exit → Act → World → Prop} (hgd : o.guard = none) (s x : Operand)
    (ho : o.op = .call { callee := .builtin .append, args := #[s, x], argTypes := #[25, 3] })
    (base g n cap : Nat) (u : List Row) (h : OwnR w base (.slice (some ⟨g, 0, none⟩) n cap) u) (i k L : Nat) (K : Int) (hs : a.eval s = .slice (some ⟨g, 0, none⟩) i cap) (hx : a.eval x = .int .i64 K) (hKk : K = (k : Int)) (hL : L = i + k) (hi : i ≤ u.length) (h0 : 0 < k) (hno : cap < i + k) (hsm : i + k ≤ 4294967)
    (hK : ∀ w' G, OwnR w' w.heap.size (.slice (some ⟨w.heap.size, 0, none⟩) L G) (u.take i ++ List.replicate k Row.zero) → L ≤ G → G ≤ 9223372036854775807 → Below w.heap.size w w' → wpList Try.prog ops Q rest (a.put o.dst (.slice (some ⟨w.heap.size, 0, none⟩) L G)) w') :
    wpList Try.prog ops Q (o :: rest) a w := by
  obtain ⟨i0, hi0, hz0, hzs, hzb⟩ := info_parts Try.infoSeen
  subst hKk
  subst hL
  have hold : (Builtin.firstCells i0.size i (.slice (some ⟨g, 0, none⟩) i cap)).run Try.prog w.drew = .ok (cellsOf (u.take i)).toArray w.drew := by
    rw [hzs]
    refine run_firstCells_some w.drew 5 i ⟨g, 0, none⟩ i cap (cellsOf (u.take i)) (by rw [cellsOf_len, List.length_take]; omega) (fun j v hj => ?_)
    have := (h.src 0 i (by omega)) j v (by simpa using hj)
    rw [Nat.zero_mul] at this
    exact this
  have hr := Lib.run_append_grow_zeros w 25 3 o.type 72 i0 _ .i64 .i64 Try.underlying25 Try.underlying3 hi0 hz0 (some ⟨g, 0, none⟩) i cap (cellsOf (u.take i)) hold k h0 (by omega) hno (by omega) (by rw [hzb]; omega) (by rw [hzb]; exact growslice_fits hno (by omega))
  have hG := grownCap_ge w (i + k) cap 72
  have hGm := grownCap_le_maxLen w (i + k) cap 72 (by unfold maxLen; omega)
  refine Lib.wpList_append_run w hgd s x _ _ ho _ _ hs hx _ _ hr ?_
  obtain ⟨G, hG'⟩ : ∃ G, G = grownCap w (i + k) cap 72 := ⟨_, rfl⟩
  rw [← hG'] at hG hGm ⊢
  have hb : Below w.heap.size w (w.drew.alloc (.cells ((cellsOf (u.take i)).toArray ++ Builtin.zeroCells (Value.agg #[.string ⟨#[]⟩, .int .i64 0, .int .i64 0, .int .i64 0, .string ⟨#[]⟩]).cells k ++ Builtin.zeroCells (Value.agg #[.string ⟨#[]⟩, .int .i64 0, .int .i64 0, .int .i64 0, .string ⟨#[]⟩]).cells (G - (i + k))) 72)) := (Below.refl _ w).drew.alloc (Nat.le_refl _) _
  refine hK _ G ?_ hG (by unfold maxLen at hGm; omega) hb
  have hl1 : (u.take i ++ List.replicate k Row.zero).length = i + k := by rw [List.length_append, List.length_take, List.length_replicate]; omega
  have hzl : ∀ m, (Builtin.zeroCells (Value.agg #[.string ⟨#[]⟩, .int .i64 0, .int .i64 0, .int .i64 0, .string ⟨#[]⟩]).cells m).size = m * 5 := fun m => by simp [Builtin.zeroCells, Value.cells]
  refine ⟨by rw [cellsOf_len], .inr ⟨w.heap.size, G, _, by rw [hl1], Nat.le_refl _, heap_alloc_new w.drew _, by rw [hl1]; exact hG, hGm, ?_, ?_⟩⟩
  · rw [Array.size_append, Array.size_append, hzl, hzl, List.size_toArray, cellsOf_len, List.length_take]
    omega
  · rw [hl1, Array.toList_append, Array.toList_append, zeroRows, cellsOf_append]
    rw [List.take_append_of_le_length (by rw [List.length_append, cellsOf_len, cellsOf_len, List.length_take, List.length_replicate]; omega)]
    rw [List.take_of_length_le (by rw [List.length_append, cellsOf_len, List.length_take, List.size_toArray.symm, List.size_toArray, cellsOf_len, List.length_replicate]; omega)]

/-- 'clear(s[o:])' of a table of the call's own. -/
theorem wpList_clear_rows {w : World} {ops : Array Oper} {rest : List Oper} {o : Oper} {a : Act} {Q : Exit → Act → World → Prop} (hgd : o.guard = none) (x : Operand)
    (ho : o.op = .call { callee := .builtin .clear, args := #[x], argTypes := #[25] })
    (base g n cap : Nat) (u : List Row) (h : OwnR w base (.slice (some ⟨g, 0, none⟩) n cap) u) (p : Nat) (ad : Option Addr) (m c : Nat) (hx : a.eval x = .slice ad m c) (hpos : 0 < m → ad = some ⟨g, p * 5, none⟩) (hm : p + m = u.length)
    (hK : ∀ w', OwnR w' base (.slice (some ⟨g, 0, none⟩) n cap) (u.take p ++ List.replicate m Row.zero) → Below g w w' → wpList Try.prog ops Q rest (a.put o.dst (.tuple #[])) w') : wpList Try.prog ops Q (o :: rest) a w := by
  refine wpList_plain hgd fun K hK' => ?_
  rcases Nat.eq_zero_or_pos m with rfl | hp
  · have hrun : (Builtin.clear_ #[25] o.type #[.slice ad 0 c]).run Try.prog w = .ok (.tuple #[]) w := by
      cases ad <;> simp [Builtin.clear_, run_underlying Try.underlying25]
    unfold Oper.wp
    simp [execOp, ho, resolve, invoke, builtin, hx, hrun, Result.andThen]
    refine hK' _ _ (hK w ?_ (Below.refl _ _))
    rw [List.take_of_length_le (by omega)]
    simpa using h
  · obtain rfl := hpos hp
    obtain ⟨i0, hi0, hz0, hzs, hzb⟩ := info_parts Try.infoSeen
    have hst := run_storeCells_cells (P := Try.prog) g (p * 5) (cellsOf (List.replicate m Row.zero)) 0 w (fun j hj => by
      rw [cellsOf_len, List.length_replicate] at hj
      exact h.someAt _ (by omega)) (fun j _ => h.frozenAt _) (cellsOf_single _)
    rw [Nat.add_zero, ← zeroRows] at hst
    have hrun : (Builtin.clear_ #[25] o.type #[.slice (some ⟨g, p * 5, none⟩) m c]).run Try.prog w = .ok (.tuple #[]) (w.setCells g (p * 5) (cellsOf (List.replicate m Row.zero))) := by
      obtain ⟨m', rfl⟩ : ∃ m', m = m' + 1 := ⟨m - 1, by omega⟩
      rw [← zeroRows]
      simp [Builtin.clear_, run_underlying Try.underlying25, zeroValue, typeInfo, hi0, hz0, hst]
    unfold Oper.wp
    simp [execOp, ho, resolve, invoke, builtin, hx, hrun, Result.andThen]
    refine hK' _ _ (hK _ ?_ (below_setCells (Nat.le_refl _) _ _ _ (Below.refl _ _)))
    have := ownR_lay h h.head.1 p (List.replicate m Row.zero) (by rw [List.length_replicate]; omega)
    have e : lay u p (List.replicate m Row.zero) = u.take p ++ List.replicate m Row.zero := by
      unfold lay
      rw [List.length_replicate, List.drop_of_length_le (by omega), List.append_nil]
    rwa [e] at this

end Go.Proofs.Ythlkfbiclhgdoaa

end

section

/-
  THE CONTRACTS OF slices.Clone, slices.IndexFunc, slices.DeleteFunc (of rows, at the one predicate that asks for a Contact) AND OF digest.without.
-/
namespace Go.Proofs.Ythlkfbiclhgdoaa
open Go.RowKit

set_option maxHeartbeats 800000 in
set_option maxRecDepth 100000 in
theorem del_any {w : World} {B : Nat} {key : List UInt8} (hk : w.cell? ⟨B, 0, none⟩ = some (.string ⟨key.toArray⟩)) (c st : List UInt8) (x y z : Int) :
    Calls Try.prog 69 #[.agg #[.string ⟨c.toArray⟩, .int .i64 x, .int .i64 y, .int .i64 z, .string ⟨st.toArray⟩], .pointer (some ⟨B, 0, none⟩)] w fun e w' => e = .returned (.bool (c == key)) ∧ Below w.heap.size w w' := by
  have hB := World.block_lt_of_cell? w _ hk
  simp only at hB
  go_enter Try.func69, Try.ntmps69
  go_wp2_with fail
  go_ret
  exact ⟨rfl, (Below.refl _ _).alloc (Nat.le_refl _) _⟩

theorem del_eq {w : World} {B : Nat} {key : List UInt8} (hk : w.cell? ⟨B, 0, none⟩ = some (.string ⟨key.toArray⟩)) {c st : List UInt8} {x y z : Int} {r : Bool} (h : Hid ((c == key) = r)) :
    Calls Try.prog 69 #[.agg #[.string ⟨c.toArray⟩, .int .i64 x, .int .i64 y, .int .i64 z, .string ⟨st.toArray⟩], .pointer (some ⟨B, 0, none⟩)] w fun e w' => e = .returned (.bool r) ∧ Below w.heap.size w w' := by
  have := del_any hk c st x y z
  rwa [h.out] at this

/-- Where the first row of a Contact stands. -/
def Found (t : List Row) (key : List UInt8) (n : Int) : Prop :=
  (∃ k : Nat, k < t.length ∧ n = k ∧ (t.getD k Row.zero).c = key ∧ ∀ j, j < k → ¬ (t.getD j Row.zero).c = key) ∨ (n = -1 ∧ ∀ j, j < t.length → ¬ (t.getD j Row.zero).c = key)

set_option maxHeartbeats 1600000 in
set_option maxRecDepth 100000 in
theorem indexf_any {w : World} {v : Value} {t : List Row} (hv : Tab w v t) {B : Nat} {key : List UInt8} (hk : w.cell? ⟨B, 0, none⟩ = some (.string ⟨key.toArray⟩)) :
    Calls Try.prog 86 #[v, .func (.func 69) #[] #[.pointer (some ⟨B, 0, none⟩)]] w fun e w' => ∃ n, e = .returned (.int .i64 n) ∧ Found t key n ∧ Below w.heap.size w w' := by
  have HV := Lib.hid hv
  have HK := Lib.hid hk
  obtain ⟨a, cap, rfl, hm⟩ := hv.open'
  clear hv hk
  go_enter Try.func86, Try.ntmps86
  go_wp2_with fail
  go_loopw [8] (fun i wr => ∃ k : Nat, k ≤ t.length ∧ i = .int .i64 k ∧ Hid (Below w.heap.size w wr) ∧ Hid (∀ j, j < k → ¬ (t.getD j Row.zero).c = key)) (fun i _ => t.length - (intOf i).toNat)
  case atStart => exact ⟨0, by omega, rfl, Below.refl _ _, fun j hj => absurd hj (by omega)⟩
  case round =>
    obtain ⟨k, hk, rfl, HN, HA⟩ := hrel
    by_cases hlt : k < t.length
    · obtain ⟨b, off, rfl, h0, h1, h2, h3, h4⟩ := HV.out.row HN.out k hlt
      obtain ⟨⟨c, ⟨x, y, z, st⟩⟩, hr⟩ : ∃ r, t.getD k Row.zero = r := ⟨_, rfl⟩
      rw [hr] at h0 h1 h2 h3 h4
      have HR := Lib.hid hr
      simp only at h0 h1 h2 h3 h4
      have HKr := Lib.hid (cell_later HK.out HN.out)
      clear hr
      cases hc : (c == key) with
      | true =>
        have HD := Lib.hid (del_eq (c := c) (st := st) (x := x) (y := y) (z := z) HKr.out (Lib.hid hc))
        have HF : Hid (Found t key k) := .inl ⟨k, hlt, rfl, by rw [HR.out]; simpa using hc, HA.out⟩
        clear hc
        go_wp2_with fail
        refine HD.out.mono ?_
        rintro e w1 ⟨rfl, hb1⟩
        have N1 := Lib.hid (below2' HN.out hb1)
        clear hb1 h0 h1 h2 h3 h4
        go_wp2_with fail
        go_ret
        exact ⟨_, rfl, HF.out, N1.out⟩
      | false =>
        have HD := Lib.hid (del_eq (c := c) (st := st) (x := x) (y := y) (z := z) HKr.out (Lib.hid hc))
        have HA2 : Hid (∀ j, j < k + 1 → ¬ (t.getD j Row.zero).c = key) := by
          show ∀ j, j < k + 1 → _
          intro j hj
          by_cases hjk : j = k
          · rw [hjk, HR.out]; simpa using hc
          · exact HA.out j (by omega)
        clear hc
        go_wp2_with fail
        refine HD.out.mono ?_
        rintro e w1 ⟨rfl, hb1⟩
        have N1 := Lib.hid (below2' HN.out hb1)
        clear hb1 h0 h1 h2 h3 h4
        go_wp2_with fail
        go_roundw
        case rel => exact ⟨k + 1, by omega, by go_num, N1, HA2⟩
        case measure => simp [intOf]; omega
    · obtain rfl : k = t.length := by omega
      have HF : Hid (Found t key (-1)) := .inr ⟨rfl, HA.out⟩
      go_wp2_with fail
      go_ret
      exact ⟨_, rfl, HF.out, HN.out⟩

theorem rest_none {t : List Row} {key : List UInt8} (h : ∀ j, j < t.length → ¬ (t.getD j Row.zero).c = key) : diRest t key = t := by
  unfold diRest
  rw [List.filter_eq_self]
  intro r hr
  obtain ⟨k, hk, rfl⟩ := List.getElem_of_mem hr
  have := h k hk
  rw [row_get hk]
  simpa using this

theorem rest_next {t : List Row} {key : List UInt8} {j : Nat} (hj : j < t.length) {r : Row} (hr : t.getD j Row.zero = r) :
    (r.c = key → diRest (t.take (j + 1)) key = diRest (t.take j) key) ∧ (¬ r.c = key → diRest (t.take (j + 1)) key = diRest (t.take j) key ++ [r]) := by
  unfold diRest
  rw [List.take_succ_eq_append_getElem hj, row_get hj, hr, List.filter_append]
  constructor
  · intro h
    simp [h]
  · intro h
    simp [h]

theorem set_take_next {u : List Row} {i : Nat} (hi : i < u.length) (r : Row) : (u.set i r).take (i + 1) = u.take i ++ [r] := by
  rw [List.take_set, List.set_eq_take_append_cons_drop]
  rw [if_pos (by rw [List.length_take]; omega)]
  rw [List.take_take, List.drop_of_length_le (by rw [List.length_take]; omega), show min i (i + 1) = i by omega]

theorem ownR_cut {w : World} {base g n cap : Nat} {u : List Row} (h : OwnR w base (.slice (some ⟨g, 0, none⟩) n cap) u) {i : Nat} (hi : i ≤ u.length) : OwnR w base (.slice (some ⟨g, 0, none⟩) i cap) (u.take i) := by
  rcases h with ⟨h1, ⟨h', _⟩ | ⟨g', cap', cur, h', hb, hg, hnc, hcm, hcs, htk⟩⟩
  · simp at h'
  · simp only [Value.slice.injEq, Option.some.injEq, Addr.mk.injEq, and_true] at h'
    obtain ⟨rfl, h2, rfl⟩ := h'
    have hl : (u.take i).length = i := by rw [List.length_take]; omega
    refine ⟨by rw [cellsOf_len], .inr ⟨g, cap, cur, by rw [hl], hb, hg, by omega, hcm, hcs, ?_⟩⟩
    rw [hl, ← cellsOf_take, ← htk, List.take_take, show min (i * 5) (u.length * 5) = i * 5 by omega]

/-- What a row of the table holds, at its cells. -/
theorem OwnR.row {w : World} {base g n cap : Nat} {u : List Row} (h : OwnR w base (.slice (some ⟨g, 0, none⟩) n cap) u) {k : Nat} (hk : k < u.length) : Cells5 w g (k * 5) (u.getD k Row.zero) := by
  refine cells5_of fun j x hx => ?_
  have hj : j < 5 := by have := (List.getElem?_eq_some_iff.1 hx).1; rwa [rowVals_len] at this
  rw [h.cellAt _ (by omega), cellsOf_at u k j hk hj, hx]

theorem below_store5 {B g : Nat} {w0 w : World} (h : Below B w0 w) (hB : B ≤ g) (o0 o1 o2 o3 o4 : Nat) (a b c d e : Value) :
    Below B w0 (((((w.setCell ⟨g, o0, none⟩ a).setCell ⟨g, o1, none⟩ b).setCell ⟨g, o2, none⟩ c).setCell ⟨g, o3, none⟩ d).setCell ⟨g, o4, none⟩ e) :=
  ((((h.setCell hB a).setCell hB b).setCell hB c).setCell hB d).setCell hB e

/-- Where DeleteFunc stands: rows kept up to i, rows looked at up to j. -/
def DelAt (t u : List Row) (key : List UInt8) (i j : Nat) : Prop := u.length = t.length ∧ i < j ∧ j ≤ t.length ∧ u.take i = diRest (t.take j) key ∧ u.drop j = t.drop j

theorem delAt_start {t : List Row} {key : List UInt8} {k : Nat} (hk : k < t.length) (hc : (t.getD k Row.zero).c = key) (hn : ∀ j, j < k → ¬ (t.getD j Row.zero).c = key) : DelAt t t key k (k + 1) := by
  refine ⟨rfl, by omega, hk, ?_, rfl⟩
  rw [(rest_next hk rfl).1 hc]
  refine (rest_none fun j hj => ?_).symm
  rw [List.length_take] at hj
  have : (t.take k).getD j Row.zero = t.getD j Row.zero := by simp [List.getD, show j < k by omega]
  rw [this]
  exact hn j (by omega)

theorem delAt_row {t u : List Row} {key : List UInt8} {i j : Nat} (h : DelAt t u key i j) (hj : j < t.length) : u.getD j Row.zero = t.getD j Row.zero := by
  obtain ⟨h1, _, _, _, h5⟩ := h
  have a := List.drop_eq_getElem_cons (show j < u.length by omega)
  have b := List.drop_eq_getElem_cons hj
  rw [h5, b] at a
  rw [← row_get hj, ← row_get (show j < u.length by omega)]
  exact (List.cons.inj a).1.symm

theorem delAt_skip {t u : List Row} {key : List UInt8} {i j : Nat} (h : DelAt t u key i j) (hj : j < t.length) {r : Row} (hr : t.getD j Row.zero = r) (hc : r.c = key) : DelAt t u key i (j + 1) := by
  obtain ⟨h1, h2, h3, h4, h5⟩ := h
  refine ⟨h1, by omega, hj, by rw [(rest_next hj hr).1 hc, h4], ?_⟩
  have e : ∀ l : List Row, l.drop (j + 1) = (l.drop j).drop 1 := fun l => by rw [List.drop_drop]
  rw [e u, e t, h5]

theorem delAt_keep {t u : List Row} {key : List UInt8} {i j : Nat} (h : DelAt t u key i j) (hj : j < t.length) {r : Row} (hr : t.getD j Row.zero = r) (hc : ¬ r.c = key) : DelAt t (u.set i r) key (i + 1) (j + 1) := by
  obtain ⟨h1, h2, h3, h4, h5⟩ := h
  refine ⟨by simpa using h1, by omega, hj, by rw [set_take_next (by omega), h4, (rest_next hj hr).2 hc], ?_⟩
  have e : ∀ l : List Row, l.drop (j + 1) = (l.drop j).drop 1 := fun l => by rw [List.drop_drop]
  rw [List.drop_set, if_pos (by omega), e u, e t, h5]

set_option maxHeartbeats 3200000 in
set_option maxRecDepth 100000 in
theorem deletef_some {w : World} {base g n cap : Nat} {t : List Row} (ho : OwnR w base (.slice (some ⟨g, 0, none⟩) n cap) t) {B : Nat} {key : List UInt8} (hk : w.cell? ⟨B, 0, none⟩ = some (.string ⟨key.toArray⟩)) (hB : B < base) (hbase : base ≤ w.heap.size) :
    Calls Try.prog 68 #[.slice (some ⟨g, 0, none⟩) n cap, .func (.func 69) #[] #[.pointer (some ⟨B, 0, none⟩)]] w fun e w' => ∃ v, e = .returned v ∧ OwnR w' base v (diRest t key) ∧ Below base w w' := by
  have HO := Lib.hid ho
  have HK := Lib.hid hk
  obtain ⟨hn, hbg, hgw, hnc, hcm, _⟩ := ho.head
  subst hn
  unfold maxLen at hcm
  have HI := Lib.hid (indexf_any ho.tab hk)
  clear ho hk
  go_enter Try.func68, Try.ntmps68
  go_wp2_with fail
  refine HI.out.mono ?_
  rintro e w1 ⟨m, rfl, hf, hb1⟩
  have B1 := Lib.hid hb1
  have O1 := Lib.hid (HO.out.later hb1)
  clear hb1 HI HO
  rcases hf with ⟨k, hklt, rfl, hkc, hkn⟩ | ⟨rfl, hno⟩
  · have HD := Lib.hid (delAt_start hklt hkc hkn)
    have t0 : ((k : Int) == -1) = false := by simp
    clear hkc hkn
    go_wp2_with fail
    go_loopw [5, 6] (fun a b wr => ∃ (i j : Nat) (u : List Row), a = .int .i64 i ∧ b = .int .i64 j ∧ Hid (DelAt t u key i j) ∧ Hid (OwnR wr base (.slice (some ⟨g, 0, none⟩) t.length cap) u) ∧ Hid (Below base w wr)) (fun _ b _ => t.length - (intOf b).toNat)
    case atStart => exact ⟨k, k + 1, t, rfl, by go_num, HD, O1, B1.out.mono hbase⟩
    case round =>
      clear HD O1 B1 hklt
      obtain ⟨i, j, u, rfl, rfl, HD, HO, HN⟩ := hrel
      have hij := HD.out.2.1
      have hjn := HD.out.2.2.1
      have hul := HD.out.1
      by_cases hlt : j < t.length
      · obtain ⟨h0, h1, h2, h3, h4⟩ := HO.out.row (show j < u.length by omega)
        have hgr := HO.out.head.2.2.1
        have hrow := delAt_row HD.out hlt
        obtain ⟨⟨c, ⟨x, y, z, st⟩⟩, hr⟩ : ∃ r, t.getD j Row.zero = r := ⟨_, rfl⟩
        rw [hrow, hr] at h0 h1 h2 h3 h4
        simp only at h0 h1 h2 h3 h4
        have HR := Lib.hid hr
        have HKr := Lib.hid ((HN.out.cell (p := ⟨B, 0, none⟩) hB).trans HK.out)
        have hbr : base ≤ wr.heap.size := by omega
        clear hr hrow
        cases hc : (c == key) with
        | true =>
          have HD2 := Lib.hid (delAt_skip HD.out hlt HR.out (by simpa using hc))
          have hcell : (wr.alloc (.cells #[.string ⟨c.toArray⟩, .int .i64 x, .int .i64 y, .int .i64 z, .string ⟨st.toArray⟩] 72)).cell? ⟨B, 0, none⟩ = some (.string ⟨key.toArray⟩) := cell_later HKr.out ((Below.refl _ _).alloc (Nat.le_refl _) _)
          have HDel := Lib.hid (del_eq (c := c) (st := st) (x := x) (y := y) (z := z) hcell (Lib.hid hc))
          clear hc hcell
          go_wp2_with fail
          refine HDel.out.mono ?_
          rintro e w2 ⟨rfl, hb2⟩
          have bx := (box5 hb2).2
          have N2 := Lib.hid (HN.out.trans (bx.mono hbr))
          have O2 := Lib.hid (HO.out.later bx)
          clear hb2 bx h0 h1 h2 h3 h4
          go_wp2_with fail
          go_roundw
          case rel => exact ⟨i, j + 1, u, rfl, by go_num, HD2, O2, N2⟩
          case measure => simp [intOf]; omega
        | false =>
          have HD2 := Lib.hid (delAt_keep HD.out hlt HR.out (by simpa using hc))
          have hcell : (wr.alloc (.cells #[.string ⟨c.toArray⟩, .int .i64 x, .int .i64 y, .int .i64 z, .string ⟨st.toArray⟩] 72)).cell? ⟨B, 0, none⟩ = some (.string ⟨key.toArray⟩) := cell_later HKr.out ((Below.refl _ _).alloc (Nat.le_refl _) _)
          have HDel := Lib.hid (del_eq (c := c) (st := st) (x := x) (y := y) (z := z) hcell (Lib.hid hc))
          clear hc hcell
          go_wp2_with fail
          refine HDel.out.mono ?_
          rintro e w2 ⟨rfl, hb2⟩
          obtain ⟨⟨k0, k1, k2, k3, k4⟩, bx⟩ := box5 hb2
          have N2 := Lib.hid (HN.out.trans (bx.mono hbr))
          have O2 := Lib.hid (HO.out.later bx)
          have hsz := bx.size
          obtain ⟨s0, s1, s2, s3, s4⟩ := O2.out.row (show i < u.length by omega)
          have f0 := O2.out.frozenAt (i * 5)
          have f1 := O2.out.frozenAt (i * 5 + 1)
          have f2 := O2.out.frozenAt (i * 5 + 2)
          have f3 := O2.out.frozenAt (i * 5 + 3)
          have f4 := O2.out.frozenAt (i * 5 + 4)
          have O3 := Lib.hid (ownR_store O2.out i (by omega) ⟨c, x, y, z, st⟩)
          have N3 := Lib.hid (below_store5 N2.out hbg (i * 5) (i * 5 + 1) (i * 5 + 2) (i * 5 + 3) (i * 5 + 4) (.string ⟨c.toArray⟩) (.int .i64 x) (.int .i64 y) (.int .i64 z) (.string ⟨st.toArray⟩))
          clear hb2 bx h0 h1 h2 h3 h4 O2 N2
          go_wp2_with fail
          go_roundw
          case rel => exact ⟨i + 1, j + 1, u.set i ⟨c, x, y, z, st⟩, by go_num, by go_num, HD2, O3, N3⟩
          case measure => simp [intOf]; omega
      · obtain rfl : j = t.length := by omega
        have hR : u.take i = diRest t key := by have := HD.out.2.2.2.1; rwa [List.take_length] at this
        have HR := Lib.hid hR
        have hne : ¬ cap = i := by omega
        clear hR
        go_wp2_with (with_reducible refine wpList_clear_rows rfl (.tmp 38) rfl base g t.length cap u HO.out i (some ⟨g, i * 5, none⟩) (t.length - i) (cap - i) rfl (fun _ => rfl) (by omega) ?_)
        intro w3 h3 hb3
        have O3 := Lib.hid (ownR_cut h3 (i := i) (by rw [List.length_append, List.length_take, List.length_replicate]; omega))
        have N3 := Lib.hid (HN.out.trans (hb3.mono hbg))
        clear h3 hb3
        go_wp2_with fail
        go_ret
        refine ⟨_, rfl, ?_, N3.out⟩
        have := O3.out
        rw [List.take_append_of_le_length (by rw [List.length_take]; omega), List.take_take, Nat.min_self, HR.out] at this
        exact this
  · have HR := Lib.hid (rest_none hno)
    clear hno
    go_wp2_with fail
    go_ret
    exact ⟨_, rfl, by rw [HR.out]; exact O1.out, B1.out.mono hbase⟩

end Go.Proofs.Ythlkfbiclhgdoaa

end

section

/-
  THE CONTRACTS OF slices.Clone (of rows) AND OF digest.without.
-/
namespace Go.Proofs.Ythlkfbiclhgdoaa
open Go.RowKit

/-- The cells of a table, at its slice's address. -/
theorem Tab.src {w : World} {ad : Addr} {n cap : Nat} {t : List Row} (h : Tab w (.slice (some ad) n cap) t) : SrcR w ad t := by
  obtain ⟨a', cap', e, _, _, _, h⟩ := h
  simp only [Value.slice.injEq] at e
  intro j u hu
  have hj := (List.getElem?_eq_some_iff.1 hu).1
  rw [cellsOf_len] at hj
  rcases h with h | ⟨b, off, e', _, hc⟩
  · rw [h] at hj; simp at hj
  · have e2 := e.1.trans e'
    injection e2 with e2
    subst e2
    have hd : j = j / 5 * 5 + j % 5 := by omega
    rw [hd, cellsOf_at t (j / 5) (j % 5) (by omega) (by omega)] at hu
    have := cells5_get (hc (j / 5) (by omega)) (j % 5) u hu
    rw [Addr.add_lit, hd, ← Nat.add_assoc]
    exact this

theorem eql_nil_some (w : World) (x : Addr) (n c : Nat) : (binOp .eql 25 (.slice (some x) n c) (.slice none 0 0)).run Try.prog w = .ok (.bool false) w := by
  rw [Lib.run_eql_slice_nil w _ _ _ _ _ _ _ Try.underlying25]
  rfl

theorem eql_nil_nil (w : World) (n c : Nat) : (binOp .eql 25 (.slice none n c) (.slice none 0 0)).run Try.prog w = .ok (.bool true) w := by
  rw [Lib.run_eql_slice_nil w _ _ _ _ _ _ _ Try.underlying25]
  rfl

set_option maxHeartbeats 800000 in
set_option maxRecDepth 100000 in
theorem clone_any {w : World} {v : Value} {t : List Row} (hv : Tab w v t) (hl : t.length ≤ 4294967) :
    Calls Try.prog 47 #[v] w fun e w' => ∃ u, e = .returned u ∧ OwnR w' w.heap.size u t ∧ Below w.heap.size w w' := by
  have HV := Lib.hid hv
  obtain ⟨a, cap, rfl, h1, h2, h3, h4⟩ := hv
  cases a with
  | none =>
    obtain rfl : cap = 0 := h3 rfl
    obtain rfl : t = [] := List.length_eq_zero_iff.1 (by omega)
    have heq := fun w => eql_nil_nil w 0 0
    clear h4
    go_enter Try.func47, Try.ntmps47
    go_wp2_with fail
    go_ret
    exact ⟨_, rfl, ownR_nil _ _, Below.refl _ _⟩
  | some x =>
    have HS := Lib.hid (HV.out.later ((Below.refl _ _).alloc (Nat.le_refl _) (.cells #[] 72))).src
    have heq := fun w => eql_nil_some w x t.length cap
    clear h4 h3
    go_enter Try.func47, Try.ntmps47
    go_wp2_with (at_builtin; go_must (refine wpList_append_rows rfl _ _ rfl w.heap.size _ [] rfl (by exact ownR_made w) (some x) t.length cap t rfl rfl (fun e => nomatch e) ?c1 (by simp only [List.length_nil]; omega) (by simp) ?_))
    case c1 => intro ad had; obtain rfl := Option.some.inj had; exact HS.out
    intro v' w' ho' hb'
    have O := Lib.hid ho'
    have hbB : Hid (Below w.heap.size w w') := ((Below.refl w.heap.size w).alloc (Nat.le_refl _) _).trans hb'
    clear ho' hb'
    go_wp2_with fail
    go_ret
    exact ⟨_, rfl, by have := O.out; simpa using this, hbB.out⟩

theorem deletef_any {w : World} {base : Nat} {v : Value} {t : List Row} (ho : OwnR w base v t) {B : Nat} {key : List UInt8} (hk : w.cell? ⟨B, 0, none⟩ = some (.string ⟨key.toArray⟩)) (hB : B < base) (hbase : base ≤ w.heap.size) :
    Calls Try.prog 68 #[v, .func (.func 69) #[] #[.pointer (some ⟨B, 0, none⟩)]] w fun e w' => ∃ u, e = .returned u ∧ OwnR w' base u (diRest t key) ∧ Below base w w' := by
  rcases ho.2 with ⟨rfl, h0⟩ | ⟨g, cap, cur, rfl, _⟩
  · obtain rfl : t = [] := List.length_eq_zero_iff.1 h0
    have HI := Lib.hid (indexf_any ho.tab hk)
    clear ho hk h0
    go_enter Try.func68, Try.ntmps68
    go_wp2_with fail
    refine HI.out.mono ?_
    rintro e w1 ⟨m, rfl, hf, hb1⟩
    have B1 := Lib.hid hb1
    clear hb1 HI
    rcases hf with ⟨k, hk, _⟩ | ⟨rfl, _⟩
    · simp at hk
    · go_wp2_with fail
      go_ret
      exact ⟨_, rfl, ownR_nil _ _, B1.out.mono hbase⟩
  · exact deletef_some ho hk hB hbase

set_option maxHeartbeats 800000 in
set_option maxRecDepth 100000 in
theorem without_any {w : World} {v : Value} {t : List Row} (hv : Tab w v t) (hl : t.length ≤ 4294967) (key : List UInt8) :
    Calls Try.prog 50 #[v, .string ⟨key.toArray⟩] w fun e w' => ∃ u, e = .returned u ∧ OwnR w' (w.heap.size + 1) u (diRest t key) ∧ Below w.heap.size w w' ∧ w.heap.size < w'.heap.size := by
  have HC := Lib.hid (clone_any (hv.later ((Below.refl _ _).alloc (Nat.le_refl _) (.cells #[.string ⟨key.toArray⟩] 9))) hl)
  obtain ⟨a, cap, rfl, _⟩ := hv.open'
  clear hv
  go_enter Try.func50, Try.ntmps50
  go_wp2_with fail
  refine HC.out.mono ?_
  rintro e w1 ⟨u, rfl, ho1, hb1⟩
  have hk : w1.cell? ⟨w.heap.size, 0, none⟩ = some (.string ⟨key.toArray⟩) := cell_later (by simp) hb1
  have hsz := hb1.size
  simp at hsz
  have ho2 : OwnR w1 (w.heap.size + 1) u t := by simpa using ho1
  have HD := Lib.hid (deletef_any ho2 hk (Nat.lt_succ_self _) hsz)
  have B1 : Hid (Below w.heap.size w w1) := below2' ((Below.refl _ _).alloc (Nat.le_refl _) _) hb1
  clear ho1 ho2 hb1 hk HC
  go_wp2_with fail
  refine HD.out.mono ?_
  rintro e w2 ⟨u2, rfl, ho3, hb3⟩
  have O3 := Lib.hid ho3
  have B3 := Lib.hid (B1.out.trans (hb3.mono (Nat.le_succ _)))
  have hz3 := hb3.size
  clear ho3 hb3
  go_wp2_with fail
  go_ret
  exact ⟨_, rfl, O3.out, B3.out, by omega⟩

end Go.Proofs.Ythlkfbiclhgdoaa

end

section

/-
  THE CONTRACT OF slices.Insert (of one row, into a table of the call's own).
-/
namespace Go.Proofs.Ythlkfbiclhgdoaa
open Go.RowKit

/-- Block B holds one row, and nothing else. -/
def Lone (w : World) (B : Nat) (r : Row) : Prop := w.heap[B]? = some (.cells #[.string ⟨r.c.toArray⟩, .int .i64 r.v.sh, .int .i64 r.v.pr, .int .i64 r.v.si, .string ⟨r.v.st.toArray⟩] 72 (0, 0))

theorem Lone.later {w w' : World} {B : Nat} {r : Row} (h : Lone w B r) (hb : Below w.heap.size w w') : Lone w' B r :=
  (hb.block B (Array.getElem?_eq_some_iff.1 h).1).trans h

theorem Lone.lt {w : World} {B : Nat} {r : Row} (h : Lone w B r) : B < w.heap.size := (Array.getElem?_eq_some_iff.1 h).1

theorem Lone.src {w : World} {B : Nat} {r : Row} (h : Lone w B r) : SrcR w ⟨B, 0, none⟩ [r] := by
  intro j u hu
  rw [cellsOf_one] at hu
  rw [Addr.add_lit, Nat.zero_add, cell_of_row w B j _ _ (0, 0) h, ← hu]
  simp [rowVals]

theorem Lone.free {w : World} {B : Nat} {r : Row} (h : Lone w B r) (j : Nat) : w.frozen? ⟨B, j, none⟩ = false := frozen_of_row w B j _ _ h

theorem Lone.shape {w : World} {B : Nat} {r : Row} (h : Lone w B r) : w.shape? B = some (72, 5) := by
  have h' := h
  unfold Lone at h'
  simp only [World.shape?, h']
  rfl

theorem own_shape {w : World} {g : Nat} {cur : Array Value} {T : TypeId} (h : w.heap[g]? = some (.cells cur T (0, 0))) : w.shape? g = some (T, cur.size) := by
  simp only [World.shape?, h]

theorem lone_new (w : World) (r : Row) : Lone (w.alloc (.cells #[.string ⟨r.c.toArray⟩, .int .i64 r.v.sh, .int .i64 r.v.pr, .int .i64 r.v.si, .string ⟨r.v.st.toArray⟩] 72)) w.heap.size r := heap_alloc_new w _

/-- One row put in. -/
def put1 (t : List Row) (i : Nat) (r : Row) : List Row := t.take i ++ ([r] ++ t.drop i)

set_option maxHeartbeats 1600000 in
set_option maxRecDepth 100000 in
theorem insert_end {w : World} {base : Nat} {v : Value} {t : List Row} (ho : OwnR w base v t) (hbase : base ≤ w.heap.size) (hl : t.length ≤ 1000) {B : Nat} {r : Row} (hr : Lone w B r) :
    Calls Try.prog 51 #[v, .int .i64 t.length, .slice (some ⟨B, 0, none⟩) 1 1] w fun e w' => ∃ u, e = .returned u ∧ OwnR w' base u (put1 t t.length r) ∧ Below base w w' := by
  have HO := Lib.hid ho
  have HS := Lib.hid hr.src
  have HE : Hid (put1 t t.length r = t ++ [r]) := by show _ = _; simp [put1]
  have t0 : ((t.length : Int) == (t.length : Int)) = true := by simp
  rcases ho.2 with ⟨rfl, h0⟩ | ⟨g, cap, cur, rfl, _, _, hnc, hcm, _⟩
  · obtain rfl : t = [] := List.length_eq_zero_iff.1 h0
    clear ho hr h0
    go_enter Try.func51, Try.ntmps51
    go_wp2_with (at_builtin; go_must (refine wpList_append_rows rfl _ _ rfl base _ [] rfl (by exact HO.out) (some ⟨B, 0, none⟩) 1 1 [r] rfl rfl (fun e => nomatch e) ?c1 (by simp) hbase ?_))
    case c1 => intro ad had; obtain rfl := Option.some.inj had; exact HS.out
    intro v' w' ho' hb'
    have O := Lib.hid ho'
    have HB := Lib.hid hb'
    clear ho' hb'
    go_wp2_with fail
    go_ret
    exact ⟨_, rfl, O.out, HB.out⟩
  · unfold maxLen at hcm
    clear ho hr
    by_cases hc : cap = t.length
    · subst hc
      go_enter Try.func51, Try.ntmps51
      go_wp2_with (at_builtin; go_must (refine wpList_append_rows rfl _ _ rfl base _ t rfl (by exact HO.out) (some ⟨B, 0, none⟩) 1 1 [r] rfl rfl (fun e => nomatch e) ?c1 (by simp only [List.length_cons, List.length_nil]; omega) hbase ?_))
      case c1 => intro ad had; obtain rfl := Option.some.inj had; exact HS.out
      intro v' w' ho' hb'
      have O := Lib.hid ho'
      have HB := Lib.hid hb'
      clear ho' hb'
      go_wp2_with fail
      go_ret
      exact ⟨_, rfl, by rw [HE.out]; exact O.out, HB.out⟩
    · go_enter Try.func51, Try.ntmps51
      go_wp2_with (at_builtin; go_must (refine wpList_append_rows rfl _ _ rfl base _ t rfl (by exact HO.out) (some ⟨B, 0, none⟩) 1 1 [r] rfl rfl (fun e => nomatch e) ?c1 (by simp only [List.length_cons, List.length_nil]; omega) hbase ?_))
      case c1 => intro ad had; obtain rfl := Option.some.inj had; exact HS.out
      intro v' w' ho' hb'
      have O := Lib.hid ho'
      have HB := Lib.hid hb'
      clear ho' hb'
      go_wp2_with fail
      go_ret
      exact ⟨_, rfl, by rw [HE.out]; exact O.out, HB.out⟩

theorem ownR_low {w : World} {base base' : Nat} {v : Value} {t : List Row} (h : OwnR w base v t) (hb : base' ≤ base) : OwnR w base' v t := by
  refine ⟨h.1, ?_⟩
  rcases h.2 with h' | ⟨g, cap, cur, h1, h2, h3⟩
  · exact .inl h'
  · exact .inr ⟨g, cap, cur, h1, by omega, h3⟩

theorem lay_grow {t : List Row} {i : Nat} (hi : i < t.length) (r : Row) :
    lay (lay (t.take i ++ List.replicate (t.length + 1 - i) Row.zero) i [r]) (i + 1) (t.drop i) = put1 t i r := by
  have h1 : (t.take i).length = i := by rw [List.length_take]; omega
  have e2 : (t.take i ++ List.replicate (t.length + 1 - i) Row.zero).drop (i + 1) = List.replicate (t.length - i) Row.zero := by
    rw [List.drop_append, List.drop_of_length_le (by omega), h1, show i + 1 - i = 1 by omega, List.drop_replicate, List.nil_append]
    congr 1
    omega
  have e3 : lay (t.take i ++ List.replicate (t.length + 1 - i) Row.zero) i [r] = (t.take i ++ [r]) ++ List.replicate (t.length - i) Row.zero := by
    unfold lay
    rw [List.take_left' h1, List.length_singleton, e2]
    simp
  have h4 : (t.take i ++ [r]).length = i + 1 := by rw [List.length_append, h1]; rfl
  have h5 : ((t.take i ++ [r]) ++ List.replicate (t.length - i) Row.zero).length ≤ i + 1 + (t.drop i).length := by
    rw [List.length_append, h4, List.length_replicate, List.length_drop]
    omega
  rw [e3]
  unfold lay put1
  rw [List.take_left' h4, List.drop_of_length_le h5]
  simp

set_option maxHeartbeats 3200000 in
set_option maxRecDepth 100000 in
theorem insert_grow {w : World} {base g cap : Nat} {t : List Row} (ho : OwnR w base (.slice (some ⟨g, 0, none⟩) t.length cap) t) (hbase : base ≤ w.heap.size) (hl : t.length ≤ 1000) {i : Nat} (hi : i < t.length) (hc : cap = t.length) {B : Nat} {r : Row} (hr : Lone w B r) :
    Calls Try.prog 51 #[.slice (some ⟨g, 0, none⟩) t.length cap, .int .i64 i, .slice (some ⟨B, 0, none⟩) 1 1] w fun e w' => ∃ u, e = .returned u ∧ OwnR w' base u (put1 t i r) ∧ Below base w w' := by
  subst hc
  have HO := Lib.hid ho
  have HR := Lib.hid hr
  have HE := Lib.hid (lay_grow hi r)
  have t0 : ((i : Int) == (t.length : Int)) = false := by simp; omega
  have t1 : ¬ t.length = i := by omega
  have hw1 : IntKind.i64.wrap ((i : Int) + 1) = (i : Int) + 1 := IntWalk.i64_in _ (by omega)
  have htn : ((i : Int) + 1).toNat = i + 1 := by omega
  have hb0 : (0 : Int) ≤ (i : Int) + 1 := by omega
  have hin : i ≤ t.length := by omega
  have hgw := ho.head.2.2.1
  have hBw := hr.lt
  clear ho hr
  go_enter Try.func51, Try.ntmps51
  go_wp2_with (with_reducible refine wpList_append_zero_rows rfl (.tmp 34) (.tmp 39) rfl base g t.length t.length t HO.out i (t.length + 1 - i) (t.length + 1) ((t.length : Int) + 1 - (i : Int)) rfl rfl (by omega) (by omega) (by omega) (by omega) (by omega) (by omega) ?_)
  intro w1 G h1 hG hGm hb1
  have O1 := Lib.hid h1
  have B1 := Lib.hid hb1
  have S1 := Lib.hid (HR.out.later hb1).src
  have P1 := Lib.hid (HO.out.later hb1)
  have hsz := hb1.size
  have hlen : (t.take i ++ List.replicate (t.length + 1 - i) Row.zero).length = t.length + 1 := by rw [List.length_append, List.length_take, List.length_replicate]; omega
  have t2 : ¬ G = i := by omega
  have t3 : ¬ G = i + 1 := by omega
  clear h1 hb1
  go_wp2_with (with_reducible refine wpList_copy_rows rfl (.tmp 43) (.tmp 44) rfl w.heap.size w.heap.size (t.length + 1) G _ O1.out i (t.length + 1 - i) (G - i) ⟨B, 0, none⟩ 1 1 rfl rfl [r] (by simp only [List.length_singleton, Nat.min_def]; split <;> omega) S1.out (by rw [hlen]; simp only [List.length_singleton]; omega) ?_)
  intro w2 h2 hb2 hk2
  have O2 := Lib.hid h2
  have B2 := Lib.hid (B1.out.trans (hb2.mono (Nat.le_refl _)))
  have P2 : Hid (SrcR w2.drew ⟨g, i * 5, none⟩ (t.drop i)) := by
    show SrcR _ _ _
    intro j x hx
    have := P1.out.src i (t.length - i) (by omega) j x (by rw [List.take_of_length_le (by rw [List.length_drop]; omega)]; exact hx)
    exact (hk2 _ (by rw [Addr.add_lit]; show g ≠ w.heap.size; omega)).trans this
  have hlen2 : (lay (t.take i ++ List.replicate (t.length + 1 - i) Row.zero) i [r]).length = t.length + 1 := by rw [lay_len (by rw [hlen]; simp only [List.length_singleton]; omega), hlen]
  clear h2 hb2 hk2 O1 B1 S1
  go_wp2_with fail
  go_region_law (refine step_copy_rows rfl (.tmp 50) (.tmp 53) rfl w.heap.size w.heap.size (t.length + 1) G _ (World.ownsRow.drew O2.out) (i + 1) (t.length - i) (G - (i + 1)) ⟨g, i * 5, none⟩ (t.length - i) (t.length - i) (by simp [Act.eval, Act.put]) (by simp [Act.eval, Act.put]) (t.drop i) (by simp only [List.length_drop, Nat.min_def]; split <;> omega) P2.out (by rw [hlen2, List.length_drop]; omega) ?_; intro w3 h3 hb3 hk3)
  all_goals
    have O3 := Lib.hid h3
    have B3 := Lib.hid ((B2.out.mono hbase).drew.trans (hb3.mono hbase))
    clear h3 hb3 hk3
    go_wp2_with fail
    go_ret
    refine ⟨_, rfl, ?_, B3.out⟩
    have h := O3.out
    rw [HE.out] at h
    exact ownR_low h hbase

end Go.Proofs.Ythlkfbiclhgdoaa

end

section

/-
  THE CONTRACT OF slices.Insert WHERE THERE IS ROOM; the contract whole.
-/
namespace Go.Proofs.Ythlkfbiclhgdoaa
open Go.RowKit

theorem Try.sizeSeen (w : World) : (Go.sizeOf 72).run Try.prog w = .ok 5 w := by
  obtain ⟨i, hi, hz, hsize, hby⟩ := info_parts Try.infoSeen
  simp [sizeOf, typeInfo, hi, hsize]

/-- Cells of a table of the call's own, whatever they hold. -/
def OwnC5 (w : World) (base g n cap : Nat) (xs : List Value) : Prop := w.ownsRow base 72 5 (.slice (some ⟨g, 0, none⟩) n cap) n xs

theorem OwnC5.head {w : World} {base g n cap : Nat} {xs : List Value} (h : OwnC5 w base g n cap xs) : base ≤ g ∧ xs.length = n * 5 ∧ ∃ cur : Array Value, w.heap[g]? = some (.cells cur 72 (0, 0)) ∧ cur.size = cap * 5 := by
  rcases h with ⟨h0, ⟨h', _⟩ | ⟨g', cap', cur, h', hb, hg, hnc, hcm, hcs, _⟩⟩
  · simp at h'
  · simp only [Value.slice.injEq, Option.some.injEq, Addr.mk.injEq, and_true, true_and] at h'
    obtain ⟨rfl, rfl⟩ := h'
    exact ⟨hb, h0, cur, hg, hcs⟩

theorem OwnC5.someAt {w : World} {base g n cap : Nat} {xs : List Value} (h : OwnC5 w base g n cap xs) (j : Nat) (hj : j < n * 5) : (w.cell? ⟨g, j, none⟩).isSome = true := by
  rw [World.ownsRow.cellAt h j hj, List.getElem?_eq_getElem (by rw [h.head.2.1]; exact hj)]
  rfl

theorem run_copy_raw {w : World} (base g n cap : Nat) (xs : List Value) (h : OwnC5 w base g n cap xs) (o dl dc : Nat) (ad : Addr) (sl sc : Nat) (ms : List Row) (hn : ms.length = Nat.min sl dl) (hsrc : SrcR w ad ms) (ho : o + ms.length ≤ n) (ty : TypeId) :
    (Builtin.copy_ #[25, 25] ty #[.slice (some ⟨g, o * 5, none⟩) dl dc, .slice (some ad) sl sc]).run Try.prog w = .ok (goInt ms.length) (w.setCells g (o * 5) (cellsOf ms)) := by
  obtain ⟨i, hi, hz, hsize, hby⟩ := info_parts Try.infoSeen
  have hl := run_loadCells_list (P := Try.prog) w ad (cellsOf ms) hsrc
  rw [cellsOf_len] at hl
  have hst := run_storeCells_cells (P := Try.prog) g (o * 5) (cellsOf ms) 0 w (fun j hj => by
    rw [cellsOf_len] at hj
    exact h.someAt _ (by omega)) (fun j _ => World.ownsRow.frozenAt h _) (cellsOf_single ms)
  rw [Nat.add_zero] at hst
  simp [Builtin.copy_, run_underlying Try.underlying25, Builtin.lenOf, Builtin.firstCells, sizeOf, typeInfo, hi, hsize, ← hn, hl, hst]

theorem wp_copy_raw {w : World} {o : Oper} {a : Act} {K : Act → World → Prop} {Q : Exit → Act → World → Prop} (d s : Operand)
    (ho : o.op = .call { callee := .builtin .copy, args := #[d, s], argTypes := #[25, 25] })
    (base g n cap : Nat) (xs : List Value) (h : OwnC5 w base g n cap xs) (p dl dc : Nat) (ad : Addr) (sl sc : Nat)
    (hd : a.eval d = .slice (some ⟨g, p * 5, none⟩) dl dc) (hs : a.eval s = .slice (some ad) sl sc) (ms : List Row) (hn : ms.length = Nat.min sl dl) (hsrc : SrcR w ad ms) (hp : p + ms.length ≤ n)
    (hK : ∀ w', OwnC5 w' base g n cap (lay xs (p * 5) (cellsOf ms)) → Below g w w' → (∀ x : Addr, x.block ≠ g → w'.cell? x = w.cell? x) → K (a.put o.dst (goInt ms.length)) w') : o.wp Try.prog a w K Q := by
  have hr := run_copy_raw base g n cap xs h p dl dc ad sl sc ms hn hsrc hp o.type
  unfold Oper.wp execOp
  simp only [ho, resolve, invoke, builtin, Sem.run_bind, Sem.run_pure, Result.andThen_ok, List.map_toArray, List.map_cons, List.map_nil, hd, hs, hr]
  refine hK _ (own_setCells _ _ _ _ h (by rw [cellsOf_len, h.head.2.1, ← Nat.add_mul]; exact Nat.mul_le_mul_right _ hp)) (below_setCells (Nat.le_refl _) _ _ _ (Below.refl _ _)) (fun x hx => ?_)
  exact World.cell?_setCells_out g _ _ _ _ (fun hb _ => absurd hb hx)

theorem wpList_copy_raw {w : World} {ops : Array Oper} {rest : List Oper} {o : Oper} {a : Act} {Q : Exit → Act → World → Prop} (hgd : o.guard = none) (d s : Operand)
    (ho : o.op = .call { callee := .builtin .copy, args := #[d, s], argTypes := #[25, 25] })
    (base g n cap : Nat) (xs : List Value) (h : OwnC5 w base g n cap xs) (p dl dc : Nat) (ad : Addr) (sl sc : Nat)
    (hd : a.eval d = .slice (some ⟨g, p * 5, none⟩) dl dc) (hs : a.eval s = .slice (some ad) sl sc) (ms : List Row) (hn : ms.length = Nat.min sl dl) (hsrc : SrcR w ad ms) (hp : p + ms.length ≤ n)
    (hK : ∀ w', OwnC5 w' base g n cap (lay xs (p * 5) (cellsOf ms)) → Below g w w' → (∀ x : Addr, x.block ≠ g → w'.cell? x = w.cell? x) → wpList Try.prog ops Q rest (a.put o.dst (goInt ms.length)) w') : wpList Try.prog ops Q (o :: rest) a w :=
  wpList_plain hgd fun _ hK' => wp_copy_raw d s ho base g n cap xs h p dl dc ad sl sc hd hs ms hn hsrc hp fun w' h1 h2 h3 => hK' _ _ (hK w' h1 h2 h3)

theorem step_copy_raw {w : World} {ops : Array Oper} {o : Oper} {a : Act} {K : Act → World → Prop} {Q : Exit → Act → World → Prop} {E : Prop} (hgd : o.guard = none) (d s : Operand)
    (ho : o.op = .call { callee := .builtin .copy, args := #[d, s], argTypes := #[25, 25] })
    (base g n cap : Nat) (xs : List Value) (h : OwnC5 w base g n cap xs) (p dl dc : Nat) (ad : Addr) (sl sc : Nat)
    (hd : a.eval d = .slice (some ⟨g, p * 5, none⟩) dl dc) (hs : a.eval s = .slice (some ad) sl sc) (ms : List Row) (hn : ms.length = Nat.min sl dl) (hsrc : SrcR w ad ms) (hp : p + ms.length ≤ n)
    (hK : ∀ w', OwnC5 w' base g n cap (lay xs (p * 5) (cellsOf ms)) → Below g w w' → (∀ x : Addr, x.block ≠ g → w'.cell? x = w.cell? x) → K (a.put o.dst (goInt ms.length)) w') :
    if Region.wanted o (yielded ops a.tmps) = true then Oper.wp Try.prog o a w K Q else E := by
  have hw : Region.wanted o (yielded ops a.tmps) = true := by simp [Region.wanted, hgd]
  rw [if_pos hw]
  exact wp_copy_raw d s ho base g n cap xs h p dl dc ad sl sc hd hs ms hn hsrc hp hK

theorem OwnC5.drew {w : World} {base g n cap : Nat} {xs : List Value} (h : OwnC5 w base g n cap xs) : OwnC5 w.drew base g n cap xs := World.ownsRow.drew h

/-- The row behind the last one, taken in. -/
theorem own_wider {w : World} {base g cap : Nat} {t : List Row} (h : OwnR w base (.slice (some ⟨g, 0, none⟩) t.length cap) t) (hc : t.length < cap) : ∃ z : List Value, z.length = 5 ∧ OwnC5 w base g (t.length + 1) cap (cellsOf t ++ z) := by
  rcases h with ⟨h0, ⟨h', _⟩ | ⟨g', cap', cur, h', hb, hg, hnc, hcm, hcs, htk⟩⟩
  · simp at h'
  · simp only [Value.slice.injEq, Option.some.injEq, Addr.mk.injEq, and_true, true_and] at h'
    obtain ⟨rfl, rfl⟩ := h'
    have hlen : cur.toList.length = cap * 5 := by rw [Array.length_toList]; exact hcs
    have e : cur.toList.take ((t.length + 1) * 5) = cellsOf t ++ (cur.toList.drop (t.length * 5)).take 5 := by
      rw [← htk, show (t.length + 1) * 5 = t.length * 5 + 5 by omega, List.take_add]
    refine ⟨(cur.toList.drop (t.length * 5)).take 5, by rw [List.length_take, List.length_drop, hlen]; omega, ?_, .inr ⟨g, cap, cur, rfl, hb, hg, by omega, hcm, hcs, e⟩⟩
    rw [← e, List.length_take, hlen]
    omega

theorem lay_room {t : List Row} {i : Nat} (hi : i < t.length) (r : Row) (z : List Value) (hz : z.length = 5) :
    lay (lay (cellsOf t ++ z) ((i + 1) * 5) (cellsOf (t.drop i))) (i * 5) (cellsOf [r]) = cellsOf (put1 t i r) := by
  have e1 : (cellsOf t ++ z).drop ((i + 1) * 5 + (cellsOf (t.drop i)).length) = [] := by
    apply List.drop_of_length_le
    rw [List.length_append, cellsOf_len, cellsOf_len, List.length_drop, hz]
    omega
  have e2 : lay (cellsOf t ++ z) ((i + 1) * 5) (cellsOf (t.drop i)) = (cellsOf t ++ z).take ((i + 1) * 5) ++ cellsOf (t.drop i) := by
    unfold lay
    rw [e1, List.append_nil]
  have hl : ((cellsOf t ++ z).take ((i + 1) * 5)).length = (i + 1) * 5 := by
    rw [List.length_take, List.length_append, cellsOf_len, hz]
    omega
  have e3 : ((cellsOf t ++ z).take ((i + 1) * 5)).take (i * 5) = cellsOf (t.take i) := by
    rw [List.take_take, show min (i * 5) ((i + 1) * 5) = i * 5 by omega, List.take_append_of_le_length (by rw [cellsOf_len]; omega), cellsOf_take]
  rw [e2]
  unfold lay put1
  rw [List.take_append_of_le_length (by rw [hl]; omega), e3, List.drop_left' (by rw [hl, cellsOf_len]; simp only [List.length_singleton]; omega)]
  rw [cellsOf_append, cellsOf_append]

theorem put1_len (t : List Row) (i : Nat) (r : Row) : (put1 t i r).length = t.length + 1 := by
  unfold put1
  rw [List.length_append, List.length_append, List.length_singleton, List.length_take, List.length_drop]
  omega

theorem OwnC5.rows {w : World} {base g cap n : Nat} {t : List Row} (h : OwnC5 w base g n cap (cellsOf t)) (hn : n = t.length) : OwnR w base (.slice (some ⟨g, 0, none⟩) n cap) t := by
  subst hn
  exact h

set_option maxHeartbeats 3200000 in
set_option maxRecDepth 100000 in
theorem insert_room {w : World} {base g cap : Nat} {t : List Row} (ho : OwnR w base (.slice (some ⟨g, 0, none⟩) t.length cap) t) (hl : t.length ≤ 1000) {i : Nat} (hi : i < t.length) (hc : t.length < cap) (hcm : cap ≤ 9223372036854775807) {B : Nat} {r : Row} (hr : Lone w B r) (hne : B ≠ g) :
    Calls Try.prog 51 #[.slice (some ⟨g, 0, none⟩) t.length cap, .int .i64 i, .slice (some ⟨B, 0, none⟩) 1 1] w fun e w' => ∃ u, e = .returned u ∧ OwnR w' base u (put1 t i r) ∧ Below base w w' := by
  obtain ⟨z, hz, hw⟩ := own_wider ho hc
  have HO := Lib.hid hw
  have HS := Lib.hid hr.src
  have hin2 : (i : Int) ≤ (t.length : Int) + 1 := by omega
  have S0 : Hid (SrcR w.drew ⟨g, i * 5, none⟩ (t.drop i)) := by
    show SrcR _ _ _
    intro j x hx
    exact ho.src i (t.length - i) (by omega) j x (by rw [List.take_of_length_le (by rw [List.length_drop]; omega)]; exact hx)
  have HE := Lib.hid (lay_room hi r z hz)
  have HG := Lib.hid ho.head.2.1
  have t0 : ((i : Int) == (t.length : Int)) = false := by simp; omega
  have t1 : ¬ cap = i := by omega
  have t2 : ¬ cap = i + 1 := by omega
  have hw1 : IntKind.i64.wrap ((i : Int) + 1) = (i : Int) + 1 := IntWalk.i64_in _ (by omega)
  have htn : ((i : Int) + 1).toNat = i + 1 := by omega
  have hb0 : (0 : Int) ≤ (i : Int) + 1 := by omega
  have hin : i ≤ t.length := by omega
  have hov : ∀ lb cb, (callFunc 70 #[.slice (some ⟨B, 0, none⟩) 1 1, .slice (some ⟨g, (i + 1) * 5, none⟩) lb cb]).run Try.prog w = .ok (.value (.bool false)) w := fun lb cb => by
    obtain ⟨_, _, cur, hg, hcs⟩ := hw.head
    rw [run_callFunc_extern Try.func70 (by kernel_rfl) (by kernel_rfl) (by kernel_rfl) (e := Extern.SlicesOverlaps.overlaps #[25, 25] #[4]) (by kernel_rfl),
      Lib.run_overlaps_apart w 25 4 72 Try.underlying25 5 Try.sizeSeen ⟨B, 0, none⟩ ⟨g, (i + 1) * 5, none⟩ 1 1 lb cb hne _ _ _ _ hr.shape (own_shape hg) (by omega) (hr.free _) (hr.free _)]
    rfl
  clear ho hr hw
  go_enter Try.func51, Try.ntmps51
  go_wp2_with (simp only [hov])
  go_region_law (refine step_copy_raw rfl (.tmp 73) (.tmp 76) rfl base g (t.length + 1) cap _ HO.out.drew (i + 1) (t.length - i) (cap - (i + 1)) ⟨g, i * 5, none⟩ (t.length + 1 - i) (cap - i) (by simp [Act.eval, Act.put]) (by simp [Act.eval, Act.put]) (t.drop i) (by simp only [List.length_drop, Nat.min_def]; split <;> omega) S0.out (by rw [List.length_drop]; omega) ?_; intro w1 h1 hb1 hk1)
  all_goals
    have O1 := Lib.hid h1
    have B1 := Lib.hid ((Below.refl base w).drew.trans (hb1.mono HG.out))
    have S1 : Hid (SrcR w1 ⟨B, 0, none⟩ [r]) := by
      show SrcR _ _ _
      intro j x hx
      exact (hk1 _ (by rw [Addr.add_lit]; exact hne)).trans (HS.out j x hx)
    clear h1 hb1 hk1
    go_wp2_with (with_reducible refine wpList_copy_raw rfl (.tmp 80) (.tmp 81) rfl base g (t.length + 1) cap _ O1.out i (t.length + 1 - i) (cap - i) ⟨B, 0, none⟩ 1 1 rfl rfl [r] (by simp only [List.length_singleton, Nat.min_def]; split <;> omega) S1.out (by simp only [List.length_singleton]; omega) ?_)
    intro w2 h2 hb2 hk2
    rw [HE.out] at h2
    have O2 := Lib.hid (h2.rows (put1_len t i r).symm)
    have B2 := Lib.hid (B1.out.trans (hb2.mono HG.out))
    clear h2 hb2 hk2
    go_wp2_with fail
    go_ret
    exact ⟨_, rfl, O2.out, B2.out⟩

end Go.Proofs.Ythlkfbiclhgdoaa

end

section

/-
  THE CONTRACT OF digest.Set.
-/
namespace Go.Proofs.Ythlkfbiclhgdoaa
open Go.RowKit

theorem OwnR.drew {w : World} {base : Nat} {v : Value} {t : List Row} (h : OwnR w base v t) : OwnR w.drew base v t := World.ownsRow.drew h

theorem own_apart {w : World} {base B : Nat} {v : Value} {t : List Row} (h : OwnR w base v t) (hB : w.heap.size ≤ B) : ∀ g n c, v = .slice (some ⟨g, 0, none⟩) n c → B ≠ g := by
  intro g n c e
  subst e
  have := h.head.2.2.1
  omega

theorem insert_any {w : World} {base : Nat} {v : Value} {t : List Row} (ho : OwnR w base v t) (hbase : base ≤ w.heap.size) (hl : t.length ≤ 1000) {i : Nat} (hi : i ≤ t.length) {B : Nat} {r : Row} (hr : Lone w B r) (hne : ∀ g n c, v = .slice (some ⟨g, 0, none⟩) n c → B ≠ g) :
    Calls Try.prog 51 #[v, .int .i64 i, .slice (some ⟨B, 0, none⟩) 1 1] w fun e w' => ∃ u, e = .returned u ∧ OwnR w' base u (put1 t i r) ∧ Below base w w' := by
  by_cases h : i = t.length
  · subst h
    exact insert_end ho hbase hl hr
  · have hi' : i < t.length := by omega
    rcases ho.2 with ⟨rfl, h0⟩ | ⟨g, cap, cur, rfl, _, _, hnc, hcm, _⟩
    · omega
    · by_cases hc : cap = t.length
      · exact insert_grow ho hbase hl hi' hc hr
      · unfold maxLen at hcm
        exact insert_room ho hl hi' (by omega) (by omega) hr (hne _ _ _ rfl)

def chgAgg (c : Chg) : Value := .agg #[.string ⟨c.c.toArray⟩, .bool c.on, .int .i64 c.v.sh, .int .i64 c.v.pr, .int .i64 c.v.si, .string ⟨c.v.st.toArray⟩]

theorem six_cells (w : World) (a b c d e f : Value) (t : TypeId) : (w.alloc (.cells #[a, b, c, d, e, f] t)).cell? ⟨w.heap.size, 0, none⟩ = some a ∧ (w.alloc (.cells #[a, b, c, d, e, f] t)).cell? ⟨w.heap.size, 1, none⟩ = some b ∧ (w.alloc (.cells #[a, b, c, d, e, f] t)).cell? ⟨w.heap.size, 2, none⟩ = some c ∧ (w.alloc (.cells #[a, b, c, d, e, f] t)).cell? ⟨w.heap.size, 3, none⟩ = some d ∧ (w.alloc (.cells #[a, b, c, d, e, f] t)).cell? ⟨w.heap.size, 4, none⟩ = some e ∧ (w.alloc (.cells #[a, b, c, d, e, f] t)).cell? ⟨w.heap.size, 5, none⟩ = some f :=
  ⟨by rw [World.cell?_alloc_at _ _ _ _ rfl]; rfl, by rw [World.cell?_alloc_at _ _ _ _ rfl]; rfl, by rw [World.cell?_alloc_at _ _ _ _ rfl]; rfl, by rw [World.cell?_alloc_at _ _ _ _ rfl]; rfl, by rw [World.cell?_alloc_at _ _ _ _ rfl]; rfl, by rw [World.cell?_alloc_at _ _ _ _ rfl]; rfl⟩

/-- Five cells of a block below a bound, in a later world. -/
theorem keep5b {w w' : World} {B C : Nat} {a b c d e : Value} (hb : Below B w w') (hC : C < B)
    (h : w.cell? ⟨C, 0, none⟩ = some a ∧ w.cell? ⟨C, 2, none⟩ = some b ∧ w.cell? ⟨C, 3, none⟩ = some c ∧ w.cell? ⟨C, 4, none⟩ = some d ∧ w.cell? ⟨C, 5, none⟩ = some e) :
    w'.cell? ⟨C, 0, none⟩ = some a ∧ w'.cell? ⟨C, 2, none⟩ = some b ∧ w'.cell? ⟨C, 3, none⟩ = some c ∧ w'.cell? ⟨C, 4, none⟩ = some d ∧ w'.cell? ⟨C, 5, none⟩ = some e :=
  ⟨(hb.cell (p := ⟨C, 0, none⟩) hC).trans h.1, (hb.cell (p := ⟨C, 2, none⟩) hC).trans h.2.1, (hb.cell (p := ⟨C, 3, none⟩) hC).trans h.2.2.1, (hb.cell (p := ⟨C, 4, none⟩) hC).trans h.2.2.2.1, (hb.cell (p := ⟨C, 5, none⟩) hC).trans h.2.2.2.2⟩

theorem diSet_off {t : List Row} {c : Chg} (h : c.on = false) : diSet t c = diRest t c.c := by unfold diSet; rw [if_neg (by rw [h]; decide)]
theorem diSet_on {t : List Row} {c : Chg} (h : c.on = true) : diSet t c = put1 (diRest t c.c) (diPlace (diRest t c.c) c.c) ⟨c.c, c.v⟩ := by unfold diSet; rw [if_pos h]; rfl

theorem diRest_len (t : List Row) (x : List UInt8) : (diRest t x).length ≤ t.length := by unfold diRest; exact List.length_filter_le _ _

set_option maxHeartbeats 3200000 in
set_option maxRecDepth 1000000 in
theorem set_any {w : World} {v : Value} {t : List Row} (hv : Tab w v t) (hl : t.length ≤ 1000) (c : Chg) :
    Calls Try.prog 30 #[v, chgAgg c] w fun e w' => ∃ u, e = .returned u ∧ OwnR w' w.heap.size u (diSet t c) ∧ Below w.heap.size w w' := by
  obtain ⟨x, on, sh, pr, si, st⟩ := c
  have HW := Lib.hid (without_any (hv.later ((Below.refl _ _).alloc (Nat.le_refl _) (.cells #[.string ⟨x.toArray⟩, .bool on, .int .i64 sh, .int .i64 pr, .int .i64 si, .string ⟨st.toArray⟩] 33))) (by omega) x)
  have hrl := diRest_len t x
  obtain ⟨a, cap, rfl, _⟩ := hv.open'
  unfold chgAgg
  obtain ⟨k0, k1, k2, k3, k4, k5⟩ := six_cells w (.string ⟨x.toArray⟩) (.bool on) (.int .i64 sh) (.int .i64 pr) (.int .i64 si) (.string ⟨st.toArray⟩) 33
  have K0 := Lib.hid k0
  have K1 := Lib.hid k1
  have K2 := Lib.hid k2
  have K3 := Lib.hid k3
  have K4 := Lib.hid k4
  have K5 := Lib.hid k5
  clear hv k0 k1 k2 k3 k4 k5
  go_enter Try.func30, Try.ntmps30
  go_wp2_with fail
  refine HW.out.mono ?_
  rintro e w1 ⟨u, rfl, ho1, hb1, hz1⟩
  have k0 := cell_later K0.out hb1
  have k1 := cell_later K1.out hb1
  have k2 := cell_later K2.out hb1
  have k3 := cell_later K3.out hb1
  have k4 := cell_later K4.out hb1
  have k5 := cell_later K5.out hb1
  have hsz : w.heap.size + 1 < w1.heap.size := by simpa using hz1
  have B1 : Hid (Below w.heap.size w w1) := below2' ((Below.refl _ _).alloc (Nat.le_refl _) _) hb1
  have O1 : Hid (OwnR w1 (w.heap.size + 1) u (diRest t x)) := ownR_low ho1 (by simp)
  clear HW K0 K1 K2 K3 K4 K5 hb1 ho1 hz1
  cases on with
  | false =>
    have HE := Lib.hid (diSet_off (t := t) (c := ⟨x, false, ⟨sh, pr, si, st⟩⟩) rfl)
    go_wp2_with fail
    go_ret
    exact ⟨_, rfl, by rw [HE.out]; exact ownR_low O1.out (Nat.le_succ _), B1.out⟩
  | true =>
    have HE := Lib.hid (diSet_on (t := t) (c := ⟨x, true, ⟨sh, pr, si, st⟩⟩) rfl)
    have hpl : diPlace (diRest t x) x ≤ (diRest t x).length := plc_le _ _ _
    go_wp2_with fail
    go_region_held (fun W => W.cell? ⟨w.heap.size, 0, none⟩ = some (.string ⟨x.toArray⟩) ∧ W.cell? ⟨w.heap.size, 2, none⟩ = some (.int .i64 sh) ∧ W.cell? ⟨w.heap.size, 3, none⟩ = some (.int .i64 pr) ∧ W.cell? ⟨w.heap.size, 4, none⟩ = some (.int .i64 si) ∧ W.cell? ⟨w.heap.size, 5, none⟩ = some (.string ⟨st.toArray⟩))
      (first | (with_reducible exact keep5b (by assumption) (Nat.lt_succ_self _) (by assumption)) | go_keep)
      ((first
        | (go_at_call 52; go_loud (refine (diplace_any (v := u) (t := diRest t x) (by first | exact O1.out.drew.tab | exact (O1.out.drew.alloc _).tab) x).mono ?_; rintro e w2 ⟨rfl, hb2⟩; (have O2 : Hid (OwnR w2 (w.heap.size + 1) u (diRest t x)) := Lib.hid (by first | exact O1.out.drew.later hb2 | exact (O1.out.drew.alloc _).later hb2)); (have hs2 : w.heap.size + 1 < w2.heap.size := by (have := hb2.size; first | exact Nat.lt_of_lt_of_le hsz this | (simp at this; omega))); (try (refine mpr2 (p := Lone w2 w1.heap.size ⟨x, ⟨sh, pr, si, st⟩⟩) ?_ ?_; (· exact (lone_new w1.drew ⟨x, ⟨sh, pr, si, st⟩⟩).later hb2); intro hL2; (have L2 := Lib.hid hL2); clear hL2)); (have B2 : Hid (Below w.heap.size w w2) := Lib.hid (by first | exact below2' B1.out.drew hb2 | exact below2' (bl_alloc B1.out.drew _) hb2)); (have hS2 : Below (w.heap.size + 1) _ w2 := hb2.mono (by first | exact Nat.le_of_lt hsz | (simp; omega))); clear hb2))
        | (go_at_call 51; go_loud (refine (insert_any (base := w.heap.size + 1) (t := diRest t x) (i := diPlace (diRest t x) x) (r := ⟨x, ⟨sh, pr, si, st⟩⟩) (by first | exact O2.out | exact O2.out.alloc _) (by first | exact Nat.le_of_lt hs2 | (simp; omega)) (by omega) hpl (by first | exact L2.out | exact lone_new w2 ⟨x, ⟨sh, pr, si, st⟩⟩) (by first | exact own_apart O1.out (Nat.le_refl _) | exact own_apart (w := w2) O2.out (Nat.le_refl _) | exact own_apart (O2.out.alloc _) (by simp))).mono ?_; rintro e w3 ⟨u3, rfl, ho3, hb3⟩; (have O3 := Lib.hid ho3); (have B3 : Hid (Below w.heap.size w w3) := Lib.hid (by first | exact B2.out.trans (hb3.mono (Nat.le_succ _)) | exact (bl_alloc B2.out _).trans (hb3.mono (Nat.le_succ _)))); clear ho3))))
    all_goals
      go_wp2_with fail
      go_ret
      exact ⟨_, rfl, by rw [HE.out]; exact ownR_low O3.out (Nat.le_succ _), B3.out⟩

end Go.Proofs.Ythlkfbiclhgdoaa

end

section

/-
  ROWS OF STRUCTS, OVER ANY PROGRAM AND ANY ELEMENT OF A FEW CELLS: slices that are read, or owned, appended to, copied, cleared, grown by zero rows.
-/
namespace Go.Proofs.Ythlkfbiclhgdoaa
open Go.RowKit

/-- The cells of elements, one behind the other. -/
def cellsS {α : Type} (vals : α → List Value) (t : List α) : List Value := (t.map vals).flatten

/-- What is to be known of an element's type T, and of its slice's S. -/
structure RowOK {α : Type} (P : Program) (vals : α → List Value) (sz : Nat) (zero : α) (T S : TypeId) (Z : Value) (bytes : Nat) : Prop where
  len : ∀ a, (vals a).length = sz
  one : ∀ a, ∀ u ∈ vals a, u.oneCell' = true
  pos : 0 < sz
  small : sz ≤ 100
  under : P.underlying S = some (.slice T)
  info : (P.info? T).map (fun i => (i.zero, i.size, i.bytes)) = some (some Z, sz, bytes)
  zvals : Z.cells.toList = vals zero
  fits : bytes ≤ 4096

section pure
variable {α : Type} {vals : α → List Value} {sz : Nat}

theorem cellsS_nil : cellsS vals [] = [] := rfl
theorem cellsS_cons (r : α) (t : List α) : cellsS vals (r :: t) = vals r ++ cellsS vals t := rfl
theorem cellsS_append (a b : List α) : cellsS vals (a ++ b) = cellsS vals a ++ cellsS vals b := by simp [cellsS]
theorem cellsS_one (r : α) : cellsS vals [r] = vals r := by simp [cellsS]

theorem cellsS_len (hl : ∀ a, (vals a).length = sz) : ∀ t : List α, (cellsS vals t).length = t.length * sz
  | [] => by simp [cellsS]
  | r :: t => by rw [cellsS_cons, List.length_append, hl, cellsS_len hl t, List.length_cons, Nat.add_mul, Nat.one_mul, Nat.add_comm]

theorem cellsS_at (hl : ∀ a, (vals a).length = sz) (zero : α) : ∀ (t : List α) (i j : Nat), i < t.length → j < sz → (cellsS vals t)[i * sz + j]? = (vals (t.getD i zero))[j]?
  | [], i, j, h, _ => by simp at h
  | r :: t, 0, j, _, hj => by
    rw [cellsS_cons, Nat.zero_mul, Nat.zero_add, List.getElem?_append_left (by rw [hl]; exact hj)]
    rfl
  | r :: t, i + 1, j, h, hj => by
    rw [cellsS_cons, List.getElem?_append_right (by rw [hl, Nat.add_mul]; omega), hl, show (i + 1) * sz + j - sz = i * sz + j by rw [Nat.add_mul]; omega, cellsS_at hl zero t i j (by simpa using h) hj]
    rfl

theorem cellsS_single (ho : ∀ a, ∀ u ∈ vals a, u.oneCell' = true) (t : List α) : ∀ u ∈ cellsS vals t, u.oneCell' = true := by
  intro u hu
  obtain ⟨l, hl, hu⟩ := List.mem_flatten.1 hu
  obtain ⟨r, _, rfl⟩ := List.mem_map.1 hl
  exact ho r u hu

theorem cellsS_take (hl : ∀ a, (vals a).length = sz) (u : List α) (o : Nat) : (cellsS vals u).take (o * sz) = cellsS vals (u.take o) := by
  have h := cellsS_append (vals := vals) (u.take o) (u.drop o)
  rw [List.take_append_drop] at h
  rw [h]
  by_cases ho : o ≤ u.length
  · rw [List.take_left' (by rw [cellsS_len hl, List.length_take, Nat.min_eq_left ho])]
  · have e1 : u.drop o = [] := List.drop_of_length_le (by omega)
    have e2 : u.take o = u := List.take_of_length_le (by omega)
    rw [e1, e2, cellsS_nil, List.append_nil, List.take_of_length_le (by rw [cellsS_len hl]; exact Nat.mul_le_mul_right _ (by omega))]

theorem cellsS_drop (hl : ∀ a, (vals a).length = sz) (u : List α) (o : Nat) : (cellsS vals u).drop (o * sz) = cellsS vals (u.drop o) := by
  have h := cellsS_append (vals := vals) (u.take o) (u.drop o)
  rw [List.take_append_drop] at h
  by_cases ho : o ≤ u.length
  · rw [h, List.drop_left' (by rw [cellsS_len hl, List.length_take, Nat.min_eq_left ho])]
  · have e1 : u.drop o = [] := List.drop_of_length_le (by omega)
    rw [e1, cellsS_nil, List.drop_of_length_le (by rw [cellsS_len hl]; exact Nat.mul_le_mul_right _ (by omega))]

/-- 'ms' laid over 'u' from place 'o' on. -/
def layS {β : Type} (u : List β) (o : Nat) (ms : List β) : List β := u.take o ++ (ms ++ u.drop (o + ms.length))

theorem layS_len {β : Type} {u : List β} {o : Nat} {ms : List β} (h : o + ms.length ≤ u.length) : (layS u o ms).length = u.length := by
  unfold layS
  simp
  omega

theorem layS_nil {β : Type} (u : List β) (o : Nat) : layS u o [] = u := by simp [layS]

theorem layS_cons {β : Type} (u : List β) (o : Nat) (x : β) (r : List β) (h : o < u.length) : layS (u.set o x) (o + 1) r = layS u o (x :: r) := by
  unfold layS
  have h1 : (u.set o x).take (o + 1) = u.take o ++ [x] := by
    rw [List.take_set, List.set_eq_take_append_cons_drop]
    rw [if_pos (by rw [List.length_take]; omega)]
    rw [List.take_take, List.drop_of_length_le (by rw [List.length_take]; omega), show min o (o + 1) = o by omega]
  have h2 : (u.set o x).drop (o + 1 + r.length) = u.drop (o + (x :: r).length) := by
    rw [List.drop_set, if_pos (by omega)]
    congr 1
    simp only [List.length_cons]
    omega
  rw [h1, h2]
  simp

theorem layS_one {β : Type} {u : List β} {i : Nat} (hi : i < u.length) (r : β) : layS u i [r] = u.set i r := by
  unfold layS
  rw [List.set_eq_take_append_cons_drop, if_pos hi]
  rfl

theorem cellsS_lay (hl : ∀ a, (vals a).length = sz) (u : List α) (o : Nat) (ms : List α) : layS (cellsS vals u) (o * sz) (cellsS vals ms) = cellsS vals (layS u o ms) := by
  unfold layS
  rw [cellsS_append, cellsS_append, cellsS_take hl, cellsS_len hl, ← Nat.add_mul, cellsS_drop hl]

/-- One put in at i. -/
def putS {β : Type} (t : List β) (i : Nat) (r : β) : List β := t.take i ++ ([r] ++ t.drop i)

end pure

theorem own_setCellsS {e size base g n cap : Nat} : ∀ (vs : List Value) (o : Nat) (w : World) (xs : List Value), w.ownsRow base e size (.slice (some ⟨g, 0, none⟩) n cap) n xs → o + vs.length ≤ xs.length →
    (w.setCells g o vs).ownsRow base e size (.slice (some ⟨g, 0, none⟩) n cap) n (layS xs o vs)
  | [], o, w, xs, h, _ => by rw [layS_nil]; exact h
  | v :: r, o, w, xs, h, hl => by
    rw [World.setCells, ← layS_cons xs o v r (by simp at hl; omega)]
    exact own_setCellsS r (o + 1) _ _ (h.stored o v).1 (by simp at hl ⊢; omega)

section rows
variable {α : Type} {P : Program} {vals : α → List Value} {sz : Nat} {zero : α} {T S : TypeId} {Z : Value} {bytes : Nat}

/-- A slice of the call's own. -/
def OwnS (vals : α → List Value) (sz : Nat) (T : TypeId) (w : World) (base : Nat) (v : Value) (t : List α) : Prop := w.ownsRow base T sz v t.length (cellsS vals t)

/-- Its cells, whatever they hold. -/
def OwnCS (sz : Nat) (T : TypeId) (w : World) (base g n cap : Nat) (xs : List Value) : Prop := w.ownsRow base T sz (.slice (some ⟨g, 0, none⟩) n cap) n xs

/-- The cells that a slice reads. -/
def SrcS (vals : α → List Value) (w : World) (ad : Addr) (ms : List α) : Prop := ∀ j u, (cellsS vals ms)[j]? = some u → w.cell? (ad.add j) = some u

/-- The cells of one element. -/
def CellsAt (w : World) (b o : Nat) (vs : List Value) : Prop := ∀ j u, vs[j]? = some u → w.cell? ⟨b, o + j, none⟩ = some u

theorem CellsAt.later {w w' : World} {b o : Nat} {vs : List Value} (h : CellsAt w b o vs) (hb : Below w.heap.size w w') : CellsAt w' b o vs := by
  intro j u hu
  have := h j u hu
  rw [hb.cell (World.block_lt_of_cell? w _ this)]
  exact this

/-- A slice that may be read. -/
def RdS (vals : α → List Value) (sz : Nat) (zero : α) (w : World) (v : Value) (l : List α) : Prop :=
  ∃ a cap, v = .slice a l.length cap ∧ l.length ≤ cap ∧ cap ≤ maxLen ∧ (a = none → cap = 0) ∧
    (l = [] ∨ ∃ b off, a = some ⟨b, off, none⟩ ∧ b < w.heap.size ∧ ∀ i, i < l.length → CellsAt w b (off + i * sz) (vals (l.getD i zero)))

theorem RdS.later {w w' : World} {v : Value} {l : List α} (h : RdS vals sz zero w v l) (hb : Below w.heap.size w w') : RdS vals sz zero w' v l := by
  obtain ⟨a, cap, h1, h2, h3, h4, h5⟩ := h
  refine ⟨a, cap, h1, h2, h3, h4, ?_⟩
  rcases h5 with h5 | ⟨b, off, e, hlt, hc⟩
  · exact .inl h5
  · exact .inr ⟨b, off, e, Nat.lt_of_lt_of_le hlt hb.size, fun i hi => (hc i hi).later hb⟩

theorem rdS_nil (w : World) : RdS vals sz zero w (.slice none 0 0) [] := ⟨none, 0, rfl, by simp, by simp, fun _ => rfl, .inl rfl⟩

theorem RdS.row {w wr : World} {a : Option Addr} {n cap : Nat} {l : List α} (h : RdS vals sz zero w (.slice a n cap) l) (hb : Below w.heap.size w wr) (k : Nat) (hk : k < l.length) :
    ∃ b off, a = some ⟨b, off, none⟩ ∧ CellsAt wr b (off + k * sz) (vals (l.getD k zero)) := by
  obtain ⟨a', cap', e, _, _, _, h⟩ := h.later hb
  simp only [Value.slice.injEq] at e
  rcases h with h | ⟨b, off, e', _, hc⟩
  · rw [h] at hk; simp at hk
  · exact ⟨b, off, e.1.trans e', hc k hk⟩

theorem RdS.open' {w : World} {v : Value} {l : List α} (h : RdS vals sz zero w v l) : ∃ a cap, v = .slice a l.length cap ∧ l.length ≤ 9223372036854775807 := by
  obtain ⟨a, cap, e, h1, h2, _⟩ := h
  unfold maxLen at h2
  exact ⟨a, cap, e, by omega⟩

theorem OwnS.alloc {w : World} {base : Nat} {v : Value} {t : List α} (h : OwnS vals sz T w base v t) (o : Obj) : OwnS vals sz T (w.alloc o) base v t := World.ownsRow.alloc h o

theorem OwnS.drew {w : World} {base : Nat} {v : Value} {t : List α} (h : OwnS vals sz T w base v t) : OwnS vals sz T w.drew base v t := World.ownsRow.drew h

theorem ownS_nil (w : World) (base : Nat) : OwnS vals sz T w base (.slice none 0 0) [] := World.ownsRow_nil w base _ _

theorem ownS_made (w : World) : OwnS vals sz T (w.alloc (.cells #[] T)) w.heap.size (.slice (some ⟨w.heap.size, 0, none⟩) 0 0) [] :=
  World.ownsRow_made w #[] 0 (Nat.le_refl _) (by decide) (by simp)

theorem OwnS.later {w w' : World} {base : Nat} {v : Value} {t : List α} (h : OwnS vals sz T w base v t) (hb : Below w.heap.size w w') : OwnS vals sz T w' base v t := by
  refine ⟨h.1, ?_⟩
  rcases h.2 with h' | ⟨g, cap, cur, h1, h2, h3, h4⟩
  · exact .inl h'
  · exact .inr ⟨g, cap, cur, h1, h2, by rw [hb.block g (Array.getElem?_eq_some_iff.1 h3).1]; exact h3, h4⟩

theorem ownS_low {w : World} {base base' : Nat} {v : Value} {t : List α} (h : OwnS vals sz T w base v t) (hb : base' ≤ base) : OwnS vals sz T w base' v t := by
  refine ⟨h.1, ?_⟩
  rcases h.2 with h' | ⟨g, cap, cur, h1, h2, h3⟩
  · exact .inl h'
  · exact .inr ⟨g, cap, cur, h1, by omega, h3⟩

theorem ltS {i n j sz : Nat} (hi : i < n) (hj : j < sz) : i * sz + j < n * sz := by
  have := Nat.mul_le_mul_right sz (show i + 1 ≤ n by omega)
  rw [Nat.add_mul, Nat.one_mul] at this
  omega

theorem OwnS.rd (D : RowOK P vals sz zero T S Z bytes) {w : World} {base : Nat} {v : Value} {t : List α} (h : OwnS vals sz T w base v t) : RdS vals sz zero w v t := by
  rcases h with ⟨_, ⟨rfl, h0⟩ | ⟨g, cap, cur, rfl, hb, hg, hn, hc, hsz, htk⟩⟩
  · obtain rfl : t = [] := List.length_eq_zero_iff.1 h0
    exact rdS_nil w
  · refine ⟨some ⟨g, 0, none⟩, cap, rfl, hn, hc, (fun e => by cases e), .inr ⟨g, 0, rfl, (Array.getElem?_eq_some_iff.1 hg).1, fun i hi => ?_⟩⟩
    intro j u hu
    have hj : j < sz := by have := (List.getElem?_eq_some_iff.1 hu).1; rwa [D.len] at this
    rw [Nat.zero_add, cell_of_row w g (i * sz + j) cur _ (0, 0) hg]
    have h1 : cur.toList[i * sz + j]? = (cellsS vals t)[i * sz + j]? := by
      rw [← htk, List.getElem?_take, if_pos (ltS hi hj)]
    rw [← hu, ← cellsS_at D.len zero t i j hi hj, ← h1]
    simp

theorem OwnS.head {w : World} {base g n cap : Nat} {u : List α} (h : OwnS vals sz T w base (.slice (some ⟨g, 0, none⟩) n cap) u) : n = u.length ∧ base ≤ g ∧ g < w.heap.size ∧ n ≤ cap ∧ cap ≤ maxLen ∧ ∃ cur : Array Value, w.heap[g]? = some (.cells cur T (0, 0)) ∧ cur.size = cap * sz := by
  rcases h with ⟨_, ⟨h', _⟩ | ⟨g', cap', cur, h', hb, hg, hnc, hcm, hcs, _⟩⟩
  · simp at h'
  · simp only [Value.slice.injEq, Option.some.injEq, Addr.mk.injEq, and_true] at h'
    obtain ⟨rfl, h2, rfl⟩ := h'
    exact ⟨h2, hb, (Array.getElem?_eq_some_iff.1 hg).1, by omega, hcm, cur, hg, hcs⟩

theorem OwnS.cellAt (_D : RowOK P vals sz zero T S Z bytes) {w : World} {base g n cap : Nat} {u : List α} (h : OwnS vals sz T w base (.slice (some ⟨g, 0, none⟩) n cap) u) (j : Nat) (hj : j < u.length * sz) : w.cell? ⟨g, j, none⟩ = (cellsS vals u)[j]? := by
  have hn := h.head.1
  subst hn
  exact World.ownsRow.cellAt h j hj

theorem OwnS.frozenAt {w : World} {base g n cap : Nat} {u : List α} (h : OwnS vals sz T w base (.slice (some ⟨g, 0, none⟩) n cap) u) (j : Nat) : w.frozen? ⟨g, j, none⟩ = false := by
  have hn := h.head.1
  subst hn
  exact World.ownsRow.frozenAt h j

theorem OwnS.someAt (D : RowOK P vals sz zero T S Z bytes) {w : World} {base g n cap : Nat} {u : List α} (h : OwnS vals sz T w base (.slice (some ⟨g, 0, none⟩) n cap) u) (j : Nat) (hj : j < u.length * sz) : (w.cell? ⟨g, j, none⟩).isSome = true := by
  rw [h.cellAt D j hj, List.getElem?_eq_getElem (by rw [cellsS_len D.len]; exact hj)]
  rfl

/-- What an element of the call's own slice holds, at its cells. -/
theorem OwnS.row (D : RowOK P vals sz zero T S Z bytes) {w : World} {base g n cap : Nat} {u : List α} (h : OwnS vals sz T w base (.slice (some ⟨g, 0, none⟩) n cap) u) {k : Nat} (hk : k < u.length) : CellsAt w g (k * sz) (vals (u.getD k zero)) := by
  intro j x hx
  have hj : j < sz := by have := (List.getElem?_eq_some_iff.1 hx).1; rwa [D.len] at this
  rw [h.cellAt D _ (ltS hk hj), cellsS_at D.len zero u k j hk hj, hx]

/-- Elements laid over a slice of the call's own. -/
theorem ownS_lay (D : RowOK P vals sz zero T S Z bytes) {w : World} {base g n cap : Nat} {u : List α} (h : OwnS vals sz T w base (.slice (some ⟨g, 0, none⟩) n cap) u) (o : Nat) (ms : List α) (ho : o + ms.length ≤ u.length) :
    OwnS vals sz T (w.setCells g (o * sz) (cellsS vals ms)) base (.slice (some ⟨g, 0, none⟩) n cap) (layS u o ms) := by
  have hn := h.head.1
  subst hn
  unfold OwnS at h ⊢
  rw [layS_len ho, ← cellsS_lay D.len]
  exact own_setCellsS _ _ _ _ h (by rw [cellsS_len D.len, cellsS_len D.len, ← Nat.add_mul]; exact Nat.mul_le_mul_right _ ho)

/-- One stored, whole. -/
theorem ownS_set (D : RowOK P vals sz zero T S Z bytes) {w : World} {base g n cap : Nat} {u : List α} (h : OwnS vals sz T w base (.slice (some ⟨g, 0, none⟩) n cap) u) {i : Nat} (hi : i < u.length) (r : α) :
    OwnS vals sz T (w.setCells g (i * sz) (vals r)) base (.slice (some ⟨g, 0, none⟩) n cap) (u.set i r) := by
  have := ownS_lay D h i [r] (by simp; omega)
  rwa [cellsS_one, layS_one hi] at this

theorem OwnS.src (D : RowOK P vals sz zero T S Z bytes) {w : World} {base g n cap : Nat} {u : List α} (h : OwnS vals sz T w base (.slice (some ⟨g, 0, none⟩) n cap) u) (o k : Nat) (hk : o + k ≤ u.length) : SrcS vals w ⟨g, o * sz, none⟩ ((u.drop o).take k) := by
  intro j x hx
  have hj := (List.getElem?_eq_some_iff.1 hx).1
  rw [cellsS_len D.len, List.length_take, List.length_drop] at hj
  have h1 : min k (u.length - o) * sz ≤ k * sz := Nat.mul_le_mul_right _ (Nat.min_le_left _ _)
  have h2 : o * sz + k * sz ≤ u.length * sz := by rw [← Nat.add_mul]; exact Nat.mul_le_mul_right _ hk
  rw [Addr.add_lit, h.cellAt D _ (by omega), ← hx]
  rw [← cellsS_take D.len, ← cellsS_drop D.len, List.getElem?_take, if_pos (by omega), List.getElem?_drop]

/-- The cells of a slice, at its address. -/
theorem RdS.src (D : RowOK P vals sz zero T S Z bytes) {w : World} {ad : Addr} {n cap : Nat} {t : List α} (h : RdS vals sz zero w (.slice (some ad) n cap) t) : SrcS vals w ad t := by
  obtain ⟨a', cap', e, _, _, _, h⟩ := h
  simp only [Value.slice.injEq] at e
  intro j u hu
  have hj := (List.getElem?_eq_some_iff.1 hu).1
  rw [cellsS_len D.len] at hj
  rcases h with h | ⟨b, off, e', _, hc⟩
  · rw [h] at hj; simp at hj
  · have e2 := e.1.trans e'
    injection e2 with e2
    subst e2
    have hm : j % sz < sz := Nat.mod_lt _ D.pos
    have hd : j = j / sz * sz + j % sz := by have := Nat.div_add_mod j sz; rw [Nat.mul_comm] at this; omega
    have hq : j / sz < t.length := (Nat.div_lt_iff_lt_mul D.pos).2 hj
    rw [hd, cellsS_at D.len zero t (j / sz) (j % sz) hq hm] at hu
    have := hc (j / sz) hq (j % sz) u hu
    rw [Addr.add_lit, hd, ← Nat.add_assoc]
    exact this

/-- 'out = append(out, src...)', out nil or of the call's own, src whatever. -/
theorem wpList_append_S (D : RowOK P vals sz zero T S Z bytes) {w : World} {ops : Array Oper} {rest : List Oper} {o : Oper} {a : Act} {Q : Exit → Act → World → Prop}
    (hgd : o.guard = none) (s x : Operand) (ho : o.op = .call { callee := .builtin .append, args := #[s, x], argTypes := #[S, S] })
    (base : Nat) (v : Value) (t : List α) (hs : a.eval s = v) (hown : OwnS vals sz T w base v t)
    (ao : Option Addr) (m c : Nat) (ms : List α) (hx : a.eval x = .slice ao m c) (hm : m = ms.length) (hnone : ao = none → c = 0 ∧ ms = [])
    (hsome : ∀ ad, ao = some ad → SrcS vals w ad ms)
    (hlen : t.length + ms.length < 4294967296) (hbase : base ≤ w.heap.size)
    (h : ∀ v' w', OwnS vals sz T w' base v' (t ++ ms) → Below base w w' → wpList P ops Q rest (a.put o.dst v') w') :
    wpList P ops Q (o :: rest) a w := by
  obtain ⟨i, hi, hz, hsize, hby⟩ := info_parts D.info
  cases ao with
  | none =>
    obtain ⟨rfl, rfl⟩ := hnone rfl
    simp only [List.length_nil] at hm
    subst hm
    exact wpList_append_own_none hgd s x S ho base T i sz D.under hi v t.length (cellsS vals t) hs hown hx (h v w (by simpa using hown) (Below.refl _ _))
  | some ad =>
    subst hm
    have hzl : Z.cells.size = sz := by have := congrArg List.length D.zvals; rwa [Array.length_toList, D.len] at this
    refine wpList_append_own _ hgd s x S ho base T i _ sz bytes D.under hi hz hsize hby hzl D.pos v t.length (cellsS vals t) hs hown ad ms.length c (cellsS vals ms) hx (cellsS_len D.len ms) (hsome ad rfl) (cellsS_single D.one ms)
      (by unfold maxLen; omega) (Nat.le_trans (Nat.mul_le_mul (show t.length + ms.length ≤ 4294967296 by omega) D.fits) (by decide)) hbase ?_
    intro v' w' hown' hgrow _
    refine h v' w' ?_ ((Below.refl base w).grown hgrow hbase (fun k hk => (World.ownsRow.lt hown k hk).1))
    unfold OwnS
    rw [cellsS_append, List.length_append]
    exact hown'

/-- A new block of one element. -/
theorem srcS_new {w : World} {r : α} {cs : Array Value} (hcs : cs.toList = vals r) {e : TypeId} {B : Nat} (hB : B = w.heap.size) : ∀ ad, some (⟨B, 0, none⟩ : Addr) = some ad → SrcS vals (w.alloc (.cells cs e)) ad [r] := by
  intro ad had j u hu
  subst hB
  obtain rfl := Option.some.inj had
  rw [cellsS_one, ← hcs] at hu
  rw [Addr.add_lit, Nat.zero_add, World.cell?_alloc_at _ _ _ _ rfl, ← hu]
  simp

theorem OwnCS.drew {w : World} {base g n cap : Nat} {xs : List Value} (h : OwnCS sz T w base g n cap xs) : OwnCS sz T w.drew base g n cap xs := World.ownsRow.drew h

theorem OwnCS.rows {w : World} {base g cap n : Nat} {t : List α} (h : OwnCS sz T w base g n cap (cellsS vals t)) (hn : n = t.length) : OwnS vals sz T w base (.slice (some ⟨g, 0, none⟩) n cap) t := by
  subst hn
  exact h

/-- Block B holds one element, and nothing else. -/
def LoneS (vals : α → List Value) (T : TypeId) (w : World) (B : Nat) (r : α) : Prop := ∃ cs : Array Value, cs.toList = vals r ∧ w.heap[B]? = some (.cells cs T (0, 0))

theorem LoneS.later {w w' : World} {B : Nat} {r : α} (h : LoneS vals T w B r) (hb : Below w.heap.size w w') : LoneS vals T w' B r := by
  obtain ⟨cs, h1, h2⟩ := h
  exact ⟨cs, h1, (hb.block B (Array.getElem?_eq_some_iff.1 h2).1).trans h2⟩

theorem LoneS.lt {w : World} {B : Nat} {r : α} (h : LoneS vals T w B r) : B < w.heap.size := by
  obtain ⟨cs, h1, h2⟩ := h
  exact (Array.getElem?_eq_some_iff.1 h2).1

theorem LoneS.src {w : World} {B : Nat} {r : α} (h : LoneS vals T w B r) : SrcS vals w ⟨B, 0, none⟩ [r] := by
  obtain ⟨cs, h1, h2⟩ := h
  intro j u hu
  rw [cellsS_one, ← h1] at hu
  rw [Addr.add_lit, Nat.zero_add, cell_of_row w B j _ _ (0, 0) h2, ← hu]
  simp

theorem LoneS.free {w : World} {B : Nat} {r : α} (h : LoneS vals T w B r) (j : Nat) : w.frozen? ⟨B, j, none⟩ = false := by
  obtain ⟨cs, h1, h2⟩ := h
  exact frozen_of_row w B j _ _ h2

theorem LoneS.shape (hl : ∀ a, (vals a).length = sz) {w : World} {B : Nat} {r : α} (h : LoneS vals T w B r) : w.shape? B = some (T, sz) := by
  obtain ⟨cs, h1, h2⟩ := h
  have hs : cs.size = sz := by rw [← Array.length_toList, h1, hl]
  simp only [World.shape?, h2, hs]

theorem eqlS_nil_some (D : RowOK P vals sz zero T S Z bytes) (w : World) (x : Addr) (n c : Nat) : (binOp .eql S (.slice (some x) n c) (.slice none 0 0)).run P w = .ok (.bool false) w := by
  rw [Lib.run_eql_slice_nil w _ _ _ _ _ _ _ D.under]
  rfl

theorem eqlS_nil_nil (D : RowOK P vals sz zero T S Z bytes) (w : World) (n c : Nat) : (binOp .eql S (.slice none n c) (.slice none 0 0)).run P w = .ok (.bool true) w := by
  rw [Lib.run_eql_slice_nil w _ _ _ _ _ _ _ D.under]
  rfl

end rows

end Go.Proofs.Ythlkfbiclhgdoaa

end

section

/-
  SMALL WORDS ON WORLDS, for contracts over slices of structs.
-/
namespace Go.Proofs.Ythlkfbiclhgdoaa
open Go.RowKit

theorem below2Z {w a b : World} (h1 : Below w.heap.size w a) (h2 : Below a.heap.size a b) : Below w.heap.size w b := h1.trans (h2.mono h1.size)

theorem bl_newZ (w : World) (o : Obj) : Below w.heap.size w (w.alloc o) := (Below.refl _ _).alloc (Nat.le_refl _) o

/-- A new block's cells. -/
theorem cellsAt_made {w : World} {cs : Array Value} {vs : List Value} (h : cs.toList = vs) (T : TypeId) {B : Nat} (hB : B = w.heap.size) : CellsAt (w.alloc (.cells cs T)) B 0 vs := by
  subst hB
  intro j u hu
  rw [Nat.zero_add, World.cell?_alloc_at _ _ _ _ rfl, ← hu, ← h]
  simp

end Go.Proofs.Ythlkfbiclhgdoaa

end

section

/-
  LAYER 17: queues in memory; places.
-/
namespace Go.Proofs.Ythlkfbiclhgdoaa
open Go.RowKit

theorem getD_nz (l : List Chg) (k : Nat) : l.getD k Chg.zero = l.getD k Chg.nought := rfl

theorem chgOK : RowOK Try.prog chgVals 6 Chg.zero 33 22 (.agg #[.string ⟨#[]⟩, .bool false, .int .i64 0, .int .i64 0, .int .i64 0, .string ⟨#[]⟩]) 64 where
  len _ := rfl
  one a u hu := by
    simp only [chgVals, List.mem_cons, List.not_mem_nil, or_false] at hu
    rcases hu with rfl | rfl | rfl | rfl | rfl | rfl <;> rfl
  pos := by decide
  small := by decide
  under := Try.underlying22
  info := Try.infoChange
  zvals := rfl
  fits := by decide

theorem Chgs.rdS {w : World} {v : Value} {t : List Chg} (h : Chgs w v t) : RdS chgVals 6 Chg.zero w v t := by
  obtain ⟨a, cap, h1, h2, h3, h4, h5⟩ := h
  refine ⟨a, cap, h1, h2, h3, h4, ?_⟩
  rcases h5 with h5 | ⟨b, off, e, hlt, hc⟩
  · exact .inl h5
  · refine .inr ⟨b, off, e, hlt, fun i hi => ?_⟩
    obtain ⟨c0, c1, c2, c3, c4, c5⟩ := hc i hi
    intro j u hu
    unfold chgVals at hu
    match j, hu with
    | 0, hu => simp only [List.getElem?_cons_zero, Option.some.injEq] at hu; subst hu; exact c0
    | 1, hu => simp only [List.getElem?_cons_succ, List.getElem?_cons_zero, Option.some.injEq] at hu; subst hu; exact c1
    | 2, hu => simp only [List.getElem?_cons_succ, List.getElem?_cons_zero, Option.some.injEq] at hu; subst hu; exact c2
    | 3, hu => simp only [List.getElem?_cons_succ, List.getElem?_cons_zero, Option.some.injEq] at hu; subst hu; exact c3
    | 4, hu => simp only [List.getElem?_cons_succ, List.getElem?_cons_zero, Option.some.injEq] at hu; subst hu; exact c4
    | 5, hu => simp only [List.getElem?_cons_succ, List.getElem?_cons_zero, Option.some.injEq] at hu; subst hu; exact c5
    | j + 6, hu => simp at hu

theorem chgs_of {w : World} {v : Value} {t : List Chg} (h : RdS chgVals 6 Chg.zero w v t) : Chgs w v t := by
  obtain ⟨a, cap, h1, h2, h3, h4, h5⟩ := h
  refine ⟨a, cap, h1, h2, h3, h4, ?_⟩
  rcases h5 with h5 | ⟨b, off, e, hlt, hc⟩
  · exact .inl h5
  · exact .inr ⟨b, off, e, hlt, fun i hi => cells6_of (hc i hi)⟩

/-- A slice of the call's own. -/
abbrev OwnQ (w : World) (base : Nat) (v : Value) (l : List Chg) : Prop := OwnS chgVals 6 33 w base v l
theorem OwnQ.chgs {w : World} {base : Nat} {v : Value} {l : List Chg} (h : OwnQ w base v l) : Chgs w v l := chgs_of (OwnS.rd chgOK h)

def ShortC (l : List Chg) : Prop := ∀ c ∈ l, c.c.length ≤ 4294967296 ∧ c.v.st.length ≤ 4294967296
theorem ShortC.get {l : List Chg} (h : ShortC l) {k : Nat} (hk : k < l.length) : (l.getD k Chg.zero).c.length ≤ 4294967296 ∧ (l.getD k Chg.zero).v.st.length ≤ 4294967296 := by
  rw [List.getD_eq_getElem?_getD, List.getElem?_eq_getElem hk]
  exact h _ (List.getElem_mem hk)

set_option maxHeartbeats 400000 in
theorem contactOf_any (c st : List UInt8) (on : Bool) (a b d : Int) (w : World) :
    Calls Try.prog 45 #[.agg #[.string ⟨c.toArray⟩, .bool on, .int .i64 a, .int .i64 b, .int .i64 d, .string ⟨st.toArray⟩]] w fun e w' => e = .returned (.string ⟨c.toArray⟩) ∧ Below w.heap.size w w' := by
  go_enter Try.func45, Try.ntmps45
  go_wp2_with fail
  go_ret
  exact ⟨rfl, (Below.refl _ _).alloc (Nat.le_refl _) _⟩

set_option maxHeartbeats 1600000 in
set_option maxRecDepth 100000 in
theorem quplace_yes {w : World} {v : Value} {l : List Chg} (hv : Chgs w v l) (key : List UInt8) (hh : quHas l key = true) :
    Calls Try.prog 44 #[v, .string ⟨key.toArray⟩, .func (.func 45) #[] #[]] w fun e w' => e = .returned (.tuple #[.int .i64 (quAt l key : Nat), .bool true]) ∧ Below w.heap.size w w' := by
  have HH := Lib.hid hh
  obtain ⟨hlt0, hat0⟩ := quAt_is hh
  have HLT := Lib.hid hlt0
  have HAT : Hid (∀ i, i < quAt l key → ¬ (l.getD i Chg.zero).c = key) := Lib.hid fun i hi => quAt_not hi
  have HIS : Hid ((l.getD (quAt l key) Chg.zero).c = key) := Lib.hid hat0
  clear hlt0 hat0
  obtain ⟨m, hm0⟩ : ∃ m, quAt l key = m := ⟨_, rfl⟩
  rw [hm0] at HLT HAT HIS ⊢
  clear hm0
  have HV := Lib.hid hv
  obtain ⟨ao, cap, rfl, hmx⟩ := hv.open'
  clear hv hh
  go_enter Try.func44, Try.ntmps44
  go_wp2_with fail
  go_loopw [12] (fun i wr => ∃ k : Nat, k ≤ m ∧ i = .int .i64 k ∧ Hid (Below w.heap.size w wr)) (fun i _ => m - (intOf i).toNat)
  case atStart => exact ⟨0, by omega, rfl, Below.refl _ _⟩
  case round =>
    obtain ⟨k, hk, rfl, HN⟩ := hrel
    have hlt : k < l.length := Nat.lt_of_le_of_lt hk HLT.out
    obtain ⟨b, off, rfl, h0, h1, h2, h3, h4, h5⟩ := HV.out.row HN.out k hlt
    obtain ⟨⟨c, o, ⟨x, y, z, st⟩⟩, hr⟩ : ∃ r, l.getD k Chg.zero = r := ⟨_, rfl⟩
    rw [hr] at h0 h1 h2 h3 h4 h5
    simp only at h0 h1 h2 h3 h4 h5
    by_cases hkm : k = m
    · subst hkm
      have ce : c = key := by have := HIS.out; rw [hr] at this; exact this
      have t1 : (c == key) = true := by rw [beq_iff_eq]; exact ce
      clear ce hr
      go_wp2_with fail
      refine (contactOf_any _ _ _ _ _ _ _).mono ?_
      rintro e w2 ⟨rfl, b2⟩
      have HN2 := Lib.hid ((below2Z HN.out (bl_newZ wr (.cells #[.string ⟨c.toArray⟩, .bool o, .int .i64 x, .int .i64 y, .int .i64 z, .string ⟨st.toArray⟩] 33))).trans (b2.mono (Nat.le_trans HN.out.size (by simp))))
      clear b2
      go_wp2_with fail
      go_ret2
      exact ⟨rfl, HN2.out⟩
    · have hkl : k < m := by omega
      have ce : ¬ c = key := by have := HAT.out k hkl; rw [hr] at this; exact this
      have t1 : (c == key) = false := by rw [beq_eq_false_iff_ne]; exact ce
      clear ce hr
      go_wp2_with fail
      refine (contactOf_any _ _ _ _ _ _ _).mono ?_
      rintro e w2 ⟨rfl, b2⟩
      have HN2 := Lib.hid ((below2Z HN.out (bl_newZ wr (.cells #[.string ⟨c.toArray⟩, .bool o, .int .i64 x, .int .i64 y, .int .i64 z, .string ⟨st.toArray⟩] 33))).trans (b2.mono (Nat.le_trans HN.out.size (by simp))))
      clear b2
      go_wp2_with fail
      go_roundw
      case rel => exact ⟨k + 1, by omega, by go_num, HN2⟩
      case measure => simp [intOf]; omega

set_option maxHeartbeats 1600000 in
set_option maxRecDepth 100000 in
theorem quplace_no {w : World} {v : Value} {l : List Chg} (hv : Chgs w v l) (key : List UInt8) (hh : quHas l key = false) :
    Calls Try.prog 44 #[v, .string ⟨key.toArray⟩, .func (.func 45) #[] #[]] w fun e w' => e = .returned (.tuple #[.int .i64 0, .bool false]) ∧ Below w.heap.size w w' := by
  have HH := Lib.hid hh
  have HNO : Hid (∀ i, i < l.length → ¬ (l.getD i Chg.zero).c = key) := Lib.hid fun i hi => by
    rw [List.getD_eq_getElem?_getD, List.getElem?_eq_getElem hi]
    exact quHas_no hh _ (List.getElem_mem hi)
  have HV := Lib.hid hv
  obtain ⟨ao, cap, rfl, hmx⟩ := hv.open'
  clear hv hh
  go_enter Try.func44, Try.ntmps44
  go_wp2_with fail
  go_loopw [12] (fun i wr => ∃ k : Nat, k ≤ l.length ∧ i = .int .i64 k ∧ Hid (Below w.heap.size w wr)) (fun i _ => l.length - (intOf i).toNat)
  case atStart => exact ⟨0, by omega, rfl, Below.refl _ _⟩
  case round =>
    obtain ⟨k, hk, rfl, HN⟩ := hrel
    by_cases hlt : k < l.length
    · obtain ⟨b, off, rfl, h0, h1, h2, h3, h4, h5⟩ := HV.out.row HN.out k hlt
      obtain ⟨⟨c, o, ⟨x, y, z, st⟩⟩, hr⟩ : ∃ r, l.getD k Chg.zero = r := ⟨_, rfl⟩
      rw [hr] at h0 h1 h2 h3 h4 h5
      simp only at h0 h1 h2 h3 h4 h5
      have ce : ¬ c = key := by have := HNO.out k hlt; rw [hr] at this; exact this
      have t1 : (c == key) = false := by rw [beq_eq_false_iff_ne]; exact ce
      clear ce hr
      go_wp2_with fail
      refine (contactOf_any _ _ _ _ _ _ _).mono ?_
      rintro e w2 ⟨rfl, b2⟩
      have HN2 := Lib.hid ((below2Z HN.out (bl_newZ wr (.cells #[.string ⟨c.toArray⟩, .bool o, .int .i64 x, .int .i64 y, .int .i64 z, .string ⟨st.toArray⟩] 33))).trans (b2.mono (Nat.le_trans HN.out.size (by simp))))
      clear b2
      go_wp2_with fail
      go_roundw
      case rel => exact ⟨k + 1, by omega, by go_num, HN2⟩
      case measure => simp [intOf]; omega
    · obtain rfl : k = l.length := by omega
      go_wp2_with fail
      go_ret2
      exact ⟨rfl, HN.out⟩

set_option maxHeartbeats 1600000 in
set_option maxRecDepth 100000 in
theorem rquplace_yes {w : World} {v : Value} {l : List Chg} (hv : Chgs w v l) (la : Bool) (key : List UInt8) (hh : quHas l key = true) :
    Calls Try.prog 42 #[.agg #[v, .bool la], .string ⟨key.toArray⟩] w fun e w' => e = .returned (.int .i64 (quAt l key : Nat)) ∧ Below w.heap.size w w' := by
  have HH := Lib.hid hh
  obtain ⟨hlt0, hat0⟩ := quAt_is hh
  have HLT := Lib.hid hlt0
  have HAT : Hid (∀ i, i < quAt l key → ¬ (l.getD i Chg.zero).c = key) := Lib.hid fun i hi => quAt_not hi
  have HIS : Hid ((l.getD (quAt l key) Chg.zero).c = key) := Lib.hid hat0
  clear hlt0 hat0
  obtain ⟨m, hm0⟩ : ∃ m, quAt l key = m := ⟨_, rfl⟩
  rw [hm0] at HLT HAT HIS ⊢
  clear hm0
  obtain ⟨ao, cap, rfl, hmx⟩ := hv.open'
  have b0 := bl_newZ w (.cells #[.slice ao l.length cap, .bool la] 24)
  have HV := Lib.hid (hv.later b0)
  have HB := Lib.hid b0
  have hq := (MapKept.heap_alloc w (.cells #[.slice ao l.length cap, .bool la] 24)).1
  have HQ := Lib.hid hq
  clear hv hh b0 hq
  go_enter Try.func42, Try.ntmps42
  go_wp2_with fail
  go_loopw [5] (fun i wr => ∃ k : Nat, k ≤ m ∧ i = .int .i64 k ∧ Hid (Below (w.alloc (.cells #[.slice ao l.length cap, .bool la] 24)).heap.size (w.alloc (.cells #[.slice ao l.length cap, .bool la] 24)) wr)) (fun i _ => m - (intOf i).toNat)
  case atStart => exact ⟨0, by omega, rfl, Below.refl _ _⟩
  case round =>
    obtain ⟨k, hk, rfl, HN⟩ := hrel
    have hlt : k < l.length := Nat.lt_of_le_of_lt hk HLT.out
    obtain ⟨b, off, rfl, h0, h1, h2, h3, h4, h5⟩ := HV.out.row HN.out k hlt
    obtain ⟨q0, q1⟩ : wr.cell? ⟨w.heap.size, 0, none⟩ = some (.slice (some ⟨b, off, none⟩) l.length cap) ∧ wr.cell? ⟨w.heap.size, 1, none⟩ = some (.bool la) := by
      have hx := (HN.out.block w.heap.size (by simp)).trans HQ.out
      exact ⟨cell_of_row wr _ 0 _ _ (0, 0) hx, cell_of_row wr _ 1 _ _ (0, 0) hx⟩
    obtain ⟨⟨c, o, ⟨x, y, z, st⟩⟩, hr⟩ : ∃ r, l.getD k Chg.zero = r := ⟨_, rfl⟩
    rw [hr] at h0 h1 h2 h3 h4 h5
    simp only at h0 h1 h2 h3 h4 h5
    by_cases hkm : k = m
    · subst hkm
      have ce : c = key := by have := HIS.out; rw [hr] at this; exact this
      have t1 : (c == key) = true := by rw [beq_iff_eq]; exact ce
      clear ce hr
      go_wp2_with fail
      go_ret
      exact ⟨rfl, below2Z HB.out HN.out⟩
    · have hkl : k < m := by omega
      have ce : ¬ c = key := by have := HAT.out k hkl; rw [hr] at this; exact this
      have t1 : (c == key) = false := by rw [beq_eq_false_iff_ne]; exact ce
      clear ce hr
      go_wp2_with fail
      go_roundw
      case rel => exact ⟨k + 1, by omega, by go_num, HN⟩
      case measure => simp [intOf]; omega

set_option maxHeartbeats 1600000 in
set_option maxRecDepth 100000 in
theorem rquplace_no {w : World} {v : Value} {l : List Chg} (hv : Chgs w v l) (la : Bool) (key : List UInt8) (hh : quHas l key = false) :
    Calls Try.prog 42 #[.agg #[v, .bool la], .string ⟨key.toArray⟩] w fun e w' => e = .returned (.int .i64 (-1)) ∧ Below w.heap.size w w' := by
  have HH := Lib.hid hh
  have HNO : Hid (∀ i, i < l.length → ¬ (l.getD i Chg.zero).c = key) := Lib.hid fun i hi => by
    rw [List.getD_eq_getElem?_getD, List.getElem?_eq_getElem hi]
    exact quHas_no hh _ (List.getElem_mem hi)
  obtain ⟨ao, cap, rfl, hmx⟩ := hv.open'
  have b0 := bl_newZ w (.cells #[.slice ao l.length cap, .bool la] 24)
  have HV := Lib.hid (hv.later b0)
  have HB := Lib.hid b0
  have hq := (MapKept.heap_alloc w (.cells #[.slice ao l.length cap, .bool la] 24)).1
  have HQ := Lib.hid hq
  clear hv hh b0 hq
  go_enter Try.func42, Try.ntmps42
  go_wp2_with fail
  go_loopw [5] (fun i wr => ∃ k : Nat, k ≤ l.length ∧ i = .int .i64 k ∧ Hid (Below (w.alloc (.cells #[.slice ao l.length cap, .bool la] 24)).heap.size (w.alloc (.cells #[.slice ao l.length cap, .bool la] 24)) wr)) (fun i _ => l.length - (intOf i).toNat)
  case atStart => exact ⟨0, by omega, rfl, Below.refl _ _⟩
  case round =>
    obtain ⟨k, hk, rfl, HN⟩ := hrel
    by_cases hlt : k < l.length
    · obtain ⟨b, off, rfl, h0, h1, h2, h3, h4, h5⟩ := HV.out.row HN.out k hlt
      obtain ⟨q0, q1⟩ : wr.cell? ⟨w.heap.size, 0, none⟩ = some (.slice (some ⟨b, off, none⟩) l.length cap) ∧ wr.cell? ⟨w.heap.size, 1, none⟩ = some (.bool la) := by
        have hx := (HN.out.block w.heap.size (by simp)).trans HQ.out
        exact ⟨cell_of_row wr _ 0 _ _ (0, 0) hx, cell_of_row wr _ 1 _ _ (0, 0) hx⟩
      obtain ⟨⟨c, o, ⟨x, y, z, st⟩⟩, hr⟩ : ∃ r, l.getD k Chg.zero = r := ⟨_, rfl⟩
      rw [hr] at h0 h1 h2 h3 h4 h5
      simp only at h0 h1 h2 h3 h4 h5
      have ce : ¬ c = key := by have := HNO.out k hlt; rw [hr] at this; exact this
      have t1 : (c == key) = false := by rw [beq_eq_false_iff_ne]; exact ce
      clear ce hr
      go_wp2_with fail
      go_roundw
      case rel => exact ⟨k + 1, by omega, by go_num, HN⟩
      case measure => simp [intOf]; omega
    · obtain rfl : k = l.length := by omega
      obtain ⟨q0, q1⟩ : wr.cell? ⟨w.heap.size, 0, none⟩ = some (.slice ao l.length cap) ∧ wr.cell? ⟨w.heap.size, 1, none⟩ = some (.bool la) := by
        have hx := (HN.out.block w.heap.size (by simp)).trans HQ.out
        exact ⟨cell_of_row wr _ 0 _ _ (0, 0) hx, cell_of_row wr _ 1 _ _ (0, 0) hx⟩
      go_wp2_with fail
      go_ret
      exact ⟨rfl, below2Z HB.out HN.out⟩

end Go.Proofs.Ythlkfbiclhgdoaa

end
