/-
  TEXTS OF THE PROOF, one behind the other: DigTake, DigRtake, DigGet, IdRow, IdDoc, IdRput, IdRmerge, IdConcat, IdMerge, DigCts, DigMap, DigChgs, DigLay, DigDel, DigWithout, DigIns, DigInsR, DigSet, Seq, Aid, QueRow, DigFrame, OpenS, QueFrame.
-/
import Derived.Test.YtndicdomdndjaaaGreatE02
import Derived.Test.YtndicdomdndjaaaGreatE01
import Derived.Laws.AppendOwnNone
import Derived.Laws.OwnMore
import Derived.Test.YtndicdomdndjaaaGreatProg
import Derived.Lib.Hide
import Derived.Lib.AppendZeros
import Derived.OwnWalk
import Derived.BigQuiet
import Derived.Deep.DeepMust
import Derived.Lib.OwnBridge
import Derived.Maps.OwnSet
import Derived.Laws.IdiomCopy
import Derived.Lib.AppendZerosOnto
import Derived.Lib.Overlaps
import Derived.Deep.RegionLaw
import Derived.WalkSpells
import Derived.Laws.Externs
import Derived.Lib.SliceRun
import Derived.BigRegion
import Derived.ProofKit
import Derived.OpenShut
import Derived.Lib.SmallJoins
import Derived.Deep.Slices
import Derived.Deep.Fields
import Derived.ChangeSame

section

/-
  THE CONTRACT OF digest.Take.
-/
namespace Go.Proofs.YtndicdomdndjaaaGreat
open Go.RowKit

/-- What Take leaves. -/
def Took (r : List Row × Nat × Nat) (w : World) (e : Ending) (w' : World) : Prop :=
  ∃ v, e = .returned (.tuple #[v, .int .i64 r.2.1, .int .i64 r.2.2]) ∧ Tab w' v r.1 ∧ Below w.heap.size w w'

end Go.Proofs.YtndicdomdndjaaaGreat

end

section

/-
  THE CONTRACT OF THE DOCUMENT'S Take (of a table).
-/
namespace Go.Proofs.YtndicdomdndjaaaGreat
open Go.RowKit

end Go.Proofs.YtndicdomdndjaaaGreat

end

section

/-
  THE CONTRACTS OF digest.Get AND OF THE DOCUMENT'S ANSWER TO IT.
-/
namespace Go.Proofs.YtndicdomdndjaaaGreat
open Go.RowKit

/-- Two results: value, whether it is there. -/
def pairG (r : Val × Bool) : Value := .tuple #[valV r.1, .bool r.2]

end Go.Proofs.YtndicdomdndjaaaGreat

end

section

/-
  ROWS OF TEXTS IN MEMORY, over any program: what they hold, and what append makes of them.
-/
namespace Go.Proofs.YtndicdomdndjaaaGreat
open Go.RowKit

theorem cell_after {w w' : World} {a : Addr} {v : Value} (h : w.cell? a = some v) (hb : Below w.heap.size w w') : w'.cell? a = some v :=
  (hb.cell (World.block_lt_of_cell? w a h)).trans h

/-- A text as a cell's value. -/
def encS (l : List UInt8) : Value := .string ⟨l.toArray⟩

/-- Which list of texts a slice holds. -/
def Texts (w : World) (v : Value) (ls : List (List UInt8)) : Prop :=
  ∃ a cap, v = .slice a ls.length cap ∧ ls.length ≤ cap ∧ cap ≤ maxLen ∧ (a = none → cap = 0) ∧
    (ls = [] ∨ ∃ b off, a = some ⟨b, off, none⟩ ∧ b < w.heap.size ∧ ∀ i, i < ls.length → w.cell? ⟨b, off + i, none⟩ = some (encS (ls.getD i [])))

theorem Texts.later {w w' : World} {v : Value} {ls : List (List UInt8)} (h : Texts w v ls) (hb : Below w.heap.size w w') : Texts w' v ls := by
  obtain ⟨a, cap, h1, h2, h3, h4, h5⟩ := h
  refine ⟨a, cap, h1, h2, h3, h4, ?_⟩
  rcases h5 with h5 | ⟨b, off, e, hlt, hc⟩
  · exact .inl h5
  · exact .inr ⟨b, off, e, Nat.lt_of_lt_of_le hlt hb.size, fun i hi => (hb.cell (p := ⟨b, off + i, none⟩) hlt).trans (hc i hi)⟩

theorem texts_nil (w : World) : Texts w (.slice none 0 0) [] := ⟨none, 0, rfl, by simp, by simp, fun _ => rfl, .inl rfl⟩

theorem encS_one (ls : List (List UInt8)) : ∀ u ∈ ls.map encS, u.oneCell' = true := by
  intro u hu
  obtain ⟨l, _, rfl⟩ := List.mem_map.1 hu
  rfl

/-- A row of the call's own. -/
theorem texts_of_own {w : World} {base e : Nat} {v : Value} {ls : List (List UInt8)} (h : w.ownsRow base e 1 v ls.length (ls.map encS)) : Texts w v ls := by
  rcases h with ⟨_, ⟨rfl, h0⟩ | ⟨g, cap, cur, rfl, hb, hg, hn, hc, hsz, htk⟩⟩
  · obtain rfl : ls = [] := List.length_eq_zero_iff.1 h0
    exact texts_nil w
  · refine ⟨some ⟨g, 0, none⟩, cap, rfl, hn, hc, (fun e => by cases e), ?_⟩
    refine .inr ⟨g, 0, rfl, (Array.getElem?_eq_some_iff.1 hg).1, fun i hi => ?_⟩
    rw [Nat.zero_add, cell_of_row w g i cur e (0, 0) hg]
    have h1 : cur.toList[i]? = (ls.map encS)[i]? := by
      rw [← htk, List.getElem?_take, if_pos (by omega)]
    have h2 : (ls.map encS)[i]? = some (encS (ls.getD i [])) := by
      simp [List.getD, List.getElem?_eq_getElem hi]
    rw [← h2, ← h1]
    simp

/-- A row of texts of the call's own. -/
def OwnT (w : World) (base e : Nat) (v : Value) (ls : List (List UInt8)) : Prop := w.ownsRow base e 1 v ls.length (ls.map encS)

theorem OwnT.alloc {w : World} {base e : Nat} {v : Value} {ls : List (List UInt8)} (h : OwnT w base e v ls) (o : Obj) : OwnT (w.alloc o) base e v ls := World.ownsRow.alloc h o
theorem OwnT.texts {w : World} {base e : Nat} {v : Value} {ls : List (List UInt8)} (h : OwnT w base e v ls) : Texts w v ls := texts_of_own h
/-- 'out = append(out, src...)', out nil or a row of the call's own, src whatever (its address any term). -/
theorem wpList_append_texts {P : Program} {w : World} {ops : Array Oper} {rest : List Oper} {o : Oper} {a : Act} {Q : Exit → Act → World → Prop}
    (hgd : o.guard = none) (s x : Operand) (t : TypeId) (ho : o.op = .call { callee := .builtin .append, args := #[s, x], argTypes := #[t, t] })
    (base : Nat) (e : TypeId) (i : TypeInfo) (z : Value) (bytes : Nat) (ht : P.underlying t = some (.slice e)) (hi : P.info? e = some i) (hz : i.zero = some z)
    (hsize : i.size = 1) (hby : i.bytes = bytes) (hzs : z.cells.size = 1)
    (v : Value) (ls : List (List UInt8)) (hs : a.eval s = v) (hown : OwnT w base e v ls)
    (ao : Option Addr) (m c : Nat) (ms : List (List UInt8)) (hx : a.eval x = .slice ao m c) (hm : m = ms.length) (hnone : ao = none → c = 0 ∧ ms = [])
    (hsome : ∀ ad, ao = some ad → ∀ j u, (ms.map encS)[j]? = some u → w.cell? (ad.add j) = some u)
    (hlen : ls.length + ms.length < 4294967296) (hb : bytes ≤ 4096) (hbase : base ≤ w.heap.size)
    (h : ∀ v' w', OwnT w' base e v' (ls ++ ms) → Below base w w' → wpList P ops Q rest (a.put o.dst v') w') :
    wpList P ops Q (o :: rest) a w := by
  cases ao with
  | none =>
    obtain ⟨rfl, rfl⟩ := hnone rfl
    simp only [List.length_nil] at hm
    subst hm
    exact wpList_append_own_none hgd s x t ho base e i 1 ht hi v ls.length (ls.map encS) hs hown hx (h v w (by simpa using hown) (Below.refl _ _))
  | some ad =>
    subst hm
    refine wpList_append_own _ hgd s x t ho base e i z 1 bytes ht hi hz hsize hby hzs (by decide) v ls.length (ls.map encS) hs hown ad ms.length c (ms.map encS) hx (by simp) (hsome ad rfl) (encS_one ms)
      (by unfold maxLen; omega) (Nat.le_trans (Nat.mul_le_mul (show ls.length + ms.length ≤ 4294967296 by omega) hb) (by decide)) hbase ?_
    intro v' w' hown' hgrow _
    refine h v' w' ?_ ((Below.refl base w).grown hgrow hbase (fun k hk => (World.ownsRow.lt hown k hk).1))
    unfold OwnT
    rw [List.map_append, List.length_append]
    exact hown'

end Go.Proofs.YtndicdomdndjaaaGreat

end

section

/-
  THE CONTRACTS OF THE DOCUMENT'S Few AND Same.
-/
namespace Go.Proofs.YtndicdomdndjaaaGreat
open Go.RowKit

theorem Tryz.infoStr : (Tryz.prog.info? 9).map (fun i => (i.zero, i.size, i.bytes)) = some (some (.string ⟨#[]⟩), 1, 16) := by kernel_rfl

def fewB (ls : List (List UInt8)) : Bool := decide (ls.length ≤ 30) && ls.all fun t => decide (t.length ≤ 30)

theorem getD_some {ls : List (List UInt8)} {k : Nat} (h : k < ls.length) : ls[k]? = some (ls.getD k []) := by simp [List.getD, List.getElem?_eq_getElem h]

end Go.Proofs.YtndicdomdndjaaaGreat

end

section

/-
  THE CONTRACTS OF THE DOCUMENT'S put AND Merge.
-/
namespace Go.Proofs.YtndicdomdndjaaaGreat
open Go.RowKit

/-- What Merge hands to put: nil, or a row that is not empty. -/
def Heaped (w : World) (v : Value) (ls : List (List UInt8)) : Prop := Texts w v ls ∧ (ls = [] → v = .slice none 0 0)

end Go.Proofs.YtndicdomdndjaaaGreat

end

section

/-
  THE CONTRACT OF THE DOCUMENT'S Merge.
-/
namespace Go.Proofs.YtndicdomdndjaaaGreat
open Go.RowKit

theorem Heaped.later {w w' : World} {v : Value} {ls : List (List UInt8)} (h : Heaped w v ls) (hb : Below w.heap.size w w') : Heaped w' v ls := ⟨h.1.later hb, h.2⟩

/-- A cell of a row, in a later world. -/
theorem Texts.cell {w wr : World} {a : Option Addr} {n cap : Nat} {ls : List (List UInt8)} (h : Texts w (.slice a n cap) ls) (hb : Below w.heap.size w wr) (k : Nat) (hk : k < ls.length) :
    ∃ b off, a = some ⟨b, off, none⟩ ∧ wr.cell? ⟨b, off + k, none⟩ = some (.string ⟨(ls.getD k []).toArray⟩) := by
  obtain ⟨a', cap', e, _, _, _, h⟩ := h.later hb
  simp only [Value.slice.injEq] at e
  rcases h with h | ⟨b, off, e', _, hc⟩
  · rw [h] at hk; simp at hk
  · exact ⟨b, off, e.1.trans e', hc k hk⟩

end Go.Proofs.YtndicdomdndjaaaGreat

end

section

/-
  THE CONTRACTS OF slices.Grow (of nil) AND slices.Concat (of two rows of texts), AT THIS PROGRAM.
-/
namespace Go.Proofs.YtndicdomdndjaaaGreat
open Go.RowKit

theorem zeros_size (z : Value) (hz : z.cells.size = 1) (n : Nat) : (Builtin.zeroCells z.cells n).size = n := by
  unfold Builtin.zeroCells
  simp [hz]

set_option maxHeartbeats 800000 in
set_option maxRecDepth 100000 in
theorem grow_nil (n : Nat) (hn : n ≤ 1000) (w : World) :
    Calls Tryz.prog 106 #[.slice none 0 0, .int .i64 n] w fun e w' => ∃ v, e = .returned v ∧ OwnT w' w.heap.size 9 v [] ∧ Below w.heap.size w w' := by
  obtain ⟨i0, hi, hz0, hz1, hz2⟩ := info_parts Tryz.infoStr
  by_cases h0 : n = 0
  · subst h0
    go_enter Tryz.func106, Tryz.ntmps106
    go_wp2_with fail
    go_ret
    exact ⟨_, rfl, World.ownsRow_nil _ _ _ _, Below.refl _ _⟩
  · have hrz := fun ty => Lib.run_append_nil_zeros (P := Tryz.prog) w 114 3 ty 9 i0 _ .i64 .i64 Tryz.underlying114 Tryz.underlying3 hi hz0 n (by omega) (by omega) (by omega) (by rw [hz2]; omega)
    have hG1 := grownCap_ge w n 0 9
    have hG2 := grownCap_le_maxLen w n 0 9 (by unfold maxLen; omega)
    obtain ⟨G, hG⟩ : ∃ G, G = grownCap w n 0 9 := ⟨_, rfl⟩
    rw [← hG] at hrz hG1 hG2
    have hO : Hid (OwnT (w.drew.alloc (.cells (Builtin.zeroCells (Value.string ⟨#[]⟩).cells n ++ Builtin.zeroCells (Value.string ⟨#[]⟩).cells (G - n)) 9)) w.heap.size 9 (.slice (some ⟨w.heap.size, 0, none⟩) 0 G) []) := by
      refine World.ownsRow_made (base := w.heap.size) w.drew _ G (Nat.le_refl _) hG2 ?_
      rw [Array.size_append, zeros_size _ rfl, zeros_size _ rfl]
      omega
    have h1 : 0 < n := by omega
    unfold maxLen at hG2
    clear hG h0
    go_enter Tryz.func106, Tryz.ntmps106
    go_wp2_with (at_builtin; go_must (refine Lib.wpList_append_run _ rfl _ _ _ _ rfl _ _ rfl rfl _ _ (hrz _) ?_))
    go_wp2_with fail
    go_ret
    exact ⟨_, rfl, hO.out, (Below.refl _ _).drew.alloc (Nat.le_refl _) _⟩

/-- A slice of texts as the source of an append. -/
theorem texts_src {W : World} {a : Option Addr} {n cap : Nat} {ls : List (List UInt8)} (h : Texts W (.slice a n cap) ls) :
    n = ls.length ∧ (a = none → cap = 0 ∧ ls = []) ∧ (∀ ad, a = some ad → ∀ j u, (ls.map encS)[j]? = some u → W.cell? (ad.add j) = some u) := by
  obtain ⟨a', cap', e, h1, h2, h3, h4⟩ := h
  simp only [Value.slice.injEq] at e
  obtain ⟨rfl, rfl, rfl⟩ := e
  refine ⟨rfl, fun e => ⟨h3 e, List.length_eq_zero_iff.1 (by have := h3 e; omega)⟩, ?_⟩
  rintro ad rfl j u hu
  have hj : j < ls.length := by
    have := (List.getElem?_eq_some_iff.1 hu).1
    simpa using this
  rcases h4 with h | ⟨b, off, e, _, hc⟩
  · rw [h] at hj; simp at hj
  · obtain rfl := Option.some.inj e
    rw [List.getElem?_map, getD_some hj] at hu
    simp only [Option.map_some, Option.some.injEq] at hu
    rw [Addr.add_lit, hc j hj, hu]

set_option maxHeartbeats 1600000 in
set_option maxRecDepth 100000 in
theorem concat_sum {w : World} {va vb : Value} {ls ms : List (List UInt8)} (ha : Texts w va ls) (hb : Texts w vb ms) (hlm : ls.length + ms.length ≤ 1000)
    (B : Nat) (k0 : w.cell? ⟨B, 0, none⟩ = some va) (k1 : w.cell? ⟨B, 1, none⟩ = some vb) :
    Calls Tryz.prog 96 #[.slice (some ⟨B, 0, none⟩) 2 2] w fun e w' => ∃ v, e = .returned v ∧ OwnT w' w.heap.size 9 v (ls ++ ms) ∧ Below w.heap.size w w' := by
  have hl : ls.length ≤ 1000 := by omega
  have hm : ms.length ≤ 1000 := by omega
  obtain ⟨i0, hi, hz0, hz1, hz2⟩ := info_parts Tryz.infoStr
  have HA := Lib.hid ha
  have HB := Lib.hid hb
  obtain ⟨a, cap, rfl, _, _, _, _⟩ := ha
  obtain ⟨a2, cap2, rfl, _, _, _, _⟩ := hb
  have HG := Lib.hid (grow_nil (ls.length + ms.length) (by omega))
  have K0 := Lib.hid k0
  have K1 := Lib.hid k1
  have hB := World.block_lt_of_cell? w _ k0
  simp only at hB
  go_enter Tryz.func96, Tryz.ntmps96
  go_wp2_with fail
  refine wp_loop_rounds 3 ?_
  rw [rounds_succ]
  go_wp2_with fail
  rw [rounds_succ]
  go_wp2_with fail
  rw [rounds_succ]
  go_wp2_with fail
  refine (HG.out _).mono ?_
  rintro e w1 ⟨v1, rfl, ho1, hb1⟩
  have HO1 := Lib.hid ho1
  have HB1 := Lib.hid hb1
  have k0 := cell_after K0.out hb1
  have k1 := cell_after K1.out hb1
  have hA1 := Lib.hid (texts_src (HA.out.later hb1))
  have hsz1 := hb1.size
  clear hb1 ho1
  go_wp2_with fail
  refine wp_loop_rounds 3 ?_
  rw [rounds_succ]
  go_wp2_with (at_builtin; go_must (refine wpList_append_texts rfl _ _ 114 rfl w.heap.size 9 i0 _ 16 Tryz.underlying114 hi hz0 hz1 hz2 rfl _ _ rfl (by exact HO1.out) a ls.length cap ls rfl rfl hA1.out.2.1 hA1.out.2.2 (by simp; omega) (by decide) hsz1 ?_))
  intro v2 w2 hown2 hb2
  have HB2 : Hid (Below w.heap.size w w2) := HB1.out.trans hb2
  have hsz2 : w.heap.size ≤ w2.heap.size := HB2.out.size
  have k1 := cell_after K1.out HB2.out
  have hA2 := Lib.hid (texts_src (HB.out.later HB2.out))
  have HO2 := Lib.hid hown2
  clear hb2 hown2 k0
  go_wp2_with fail
  rw [rounds_succ]
  go_wp2_with (at_builtin; go_must (refine wpList_append_texts rfl _ _ 114 rfl w.heap.size 9 i0 _ 16 Tryz.underlying114 hi hz0 hz1 hz2 rfl _ _ rfl (by exact HO2.out) a2 ms.length cap2 ms rfl rfl hA2.out.2.1 hA2.out.2.2 (by first | omega | (simp; omega)) (by decide) hsz2 ?_))
  intro v3 w3 hown3 hb3
  have HB3 : Hid (Below w.heap.size w w3) := HB2.out.trans hb3
  have HO3 := Lib.hid hown3
  clear hb3 hown3 k1
  go_wp2_with fail
  rw [rounds_succ]
  go_wp2_with fail
  go_ret
  exact ⟨_, rfl, by have := HO3.out; simpa using this, HB3.out⟩

theorem concat_any {w : World} {va vb : Value} {ls ms : List (List UInt8)} (ha : Texts w va ls) (hb : Texts w vb ms) (hl : ls.length ≤ 100) (hm : ms.length ≤ 100)
    (B : Nat) (k0 : w.cell? ⟨B, 0, none⟩ = some va) (k1 : w.cell? ⟨B, 1, none⟩ = some vb) :
    Calls Tryz.prog 96 #[.slice (some ⟨B, 0, none⟩) 2 2] w fun e w' => ∃ v, e = .returned v ∧ OwnT w' w.heap.size 9 v (ls ++ ms) ∧ Below w.heap.size w w' :=
  concat_sum ha hb (by omega) B k0 k1

end Go.Proofs.YtndicdomdndjaaaGreat

end

section

/-
  THE CONTRACT OF ident.Merge: the lists as one, sorted, each text once.
-/
namespace Go.Proofs.YtndicdomdndjaaaGreat
open Go.RowKit Go.Lib Go.Sort

theorem encS_cell : OneCell encS := fun _ => rfl

theorem eql_S : EqlAt Tryz.prog 9 encS (fun x y => decide (x = y)) :=
  ⟨fun x y w => by rw [show encS x = .string ⟨x.toArray⟩ from rfl, show encS y = .string ⟨y.toArray⟩ from rfl, (EqlAt.string Tryz.prog 9).1]; by_cases h : x = y <;> simp [h, ByteArray.toList_eq],
   fun op a b x y w => GuardAt.string Tryz.prog 9 op a b _ _ w⟩

theorem neq_S : NeqAt Tryz.prog 9 encS (fun x y => decide (x = y)) :=
  ⟨fun x y w => by rw [show encS x = .string ⟨x.toArray⟩ from rfl, show encS y = .string ⟨y.toArray⟩ from rfl, (NeqAt.string Tryz.prog 9).1]; by_cases h : x = y <;> simp [h, ByteArray.toList_eq],
   fun op a b x y w => GuardAt.string Tryz.prog 9 op a b _ _ w⟩

theorem compare_lays (blk off size : Nat) (w : World) : CmpLays1 Tryz.prog 86 #[] encS idCmp blk off size w :=
  fun m os dk _ x y => (compare_any x y (sortWorld encS w blk off m dk os)).mono fun _ _ ⟨he, o, hw⟩ => ⟨he, 0, #[o], by rw [hw, alloc_eq_grow]; rfl⟩

theorem below_grow {B : Nat} {w0 w : World} (h : Below B w0 w) (hB : B ≤ w.heap.size) (os : Array Obj) : Below B w0 (grow w os) :=
  ⟨h.os, h.tape, h.output, by have := h.size; simp only [grow, Array.size_append]; omega, fun k hk => by
    rw [← h.block k hk]
    simp only [grow]
    rw [Array.getElem?_append_left (by omega)]⟩

/-- The row behind the sort. -/
theorem sorted_row {w1 : World} {g n : Nat} {d d' : Array (List UInt8)} {os : Array Obj} (hH : Holds encS w1 g 0 d) (hg : g < w1.heap.size) (hd : d'.size = d.size) :
    Holds encS (sortWorld encS w1 g 0 n d' os) g 0 d' := by
  unfold sortWorld
  refine holds_grow encS _ os g 0 d' ?_ (holds_putRow encS _ g 0 d d' (holds_ahead encS w1 n g 0 d hH) hd)
  simpa [putRow, mapBlock, Sort.ahead] using hg

theorem sorted_below {B : Nat} {w0 w1 : World} {g n : Nat} {d' : Array (List UInt8)} {os : Array Obj} (h : Below B w0 w1) (hB : B ≤ w1.heap.size) (hg : B ≤ g) : Below B w0 (sortWorld encS w1 g 0 n d' os) := by
  unfold sortWorld
  refine below_grow (below_putRow h hg) ?_ os
  simpa [putRow, mapBlock, Sort.ahead] using hB

/-- The row behind Compact. -/
theorem compact_texts {w2 : World} {g q cap : Nat} {d : Array (List UInt8)} (hH : Holds encS w2 g 0 d) (hg : g < w2.heap.size) (hn : d.size ≤ cap) (hc : cap ≤ maxLen) {ls : List (List UInt8)} (hle : ls.length ≤ d.size) :
    Texts (putRow encS (Sort.ahead w2 q) g 0 (ls ++ List.replicate (d.size - ls.length) []).toArray) (.slice (some ⟨g, 0, none⟩) ls.length cap) ls := by
  refine ⟨some ⟨g, 0, none⟩, cap, rfl, by omega, hc, (fun e => by cases e), .inr ⟨g, 0, rfl, ?_, fun i hi => ?_⟩⟩
  · simpa [putRow, mapBlock, Sort.ahead] using hg
  · have h := holds_putRow encS (Sort.ahead w2 q) g 0 d (ls ++ List.replicate (d.size - ls.length) []).toArray (holds_ahead encS w2 q g 0 d hH) (by simp; omega)
    have h1 := (h i (by simp; omega)).1
    rw [h1]
    congr 2
    rw [getElem!_pos _ i (by simp; omega)]
    simp [List.getD, hi]

theorem compact_len (d : Array (List UInt8)) : (compactUpTo d d.size).length ≤ d.size := by
  unfold compactUpTo
  rw [List.length_map]
  exact Nat.le_trans (List.length_filter_le _ _) (by simp)

set_option maxHeartbeats 1600000 in
set_option maxRecDepth 100000 in
theorem merge_any {w : World} {va vb : Value} {ls ms : List (List UInt8)} (ha : Texts w va ls) (hb : Texts w vb ms) (hl : ls.length ≤ 100) (hm : ms.length ≤ 100) :
    Calls Tryz.prog 91 #[va, vb] w fun e w' => ∃ v, e = .returned v ∧ Texts w' v (mrg (ls ++ ms)) ∧ Below w.heap.size w w' := by
  have eg : ∀ args w, (callFunc 86 args).run Tryz.prog w = .ok (.enter 86 args) w := enters_of Tryz.func86 (by kernel_rfl) rfl
  have hB0 : Below w.heap.size w (w.alloc (.cells #[va, vb] 114)) := (Below.refl _ _).alloc (Nat.le_refl _) _
  have HC := Lib.hid (concat_any (ha.later hB0) (hb.later hB0) hl hm w.heap.size (by simp) (by simp))
  have HB0 := Lib.hid hB0
  obtain ⟨a, cap, rfl, _, _, _, _⟩ := ha
  obtain ⟨a2, cap2, rfl, _, _, _, _⟩ := hb
  clear hB0
  go_enter Tryz.func91, Tryz.ntmps91
  go_wp2_with fail
  refine HC.out.mono ?_
  rintro e w1 ⟨v1, rfl, ho1, hb1⟩
  have HB1 := Lib.hid (below2' HB0.out hb1)
  have hsz1 : w.heap.size + 1 ≤ w1.heap.size := by have := hb1.size; simpa using this
  have HO1 := Lib.hid ho1
  clear hb1 ho1 HC HB0
  by_cases h0 : ls ++ ms = []
  · have hr : Hid (mrg (ls ++ ms) = []) := by show _ = _; rw [h0]; rfl
    obtain ⟨p, c, rfl, _⟩ : ∃ p c, v1 = .slice p 0 c ∧ True := by
      obtain ⟨p, c, e, _⟩ := HO1.out.texts
      rw [h0] at e
      exact ⟨p, c, e, trivial⟩
    have HT := Lib.hid HO1.out.texts
    have HS := Lib.hid (Tryz.slices_SortFunc_none (α := List UInt8) p c (.func (.func 86) #[] #[]) w1)
    have HK := Lib.hid (Tryz.slices_Compact_string_empty p c w1)
    have H0 := Lib.hid h0
    clear h0
    go_wp2_with fail
    refine HS.out.mono ?_
    rintro e w' ⟨rfl, rfl⟩
    go_wp2_with fail
    refine HK.out.mono ?_
    rintro e w' ⟨rfl, rfl⟩
    go_wp2_with fail
    go_ret
    exact ⟨_, rfl, by rw [hr.out]; have := HT.out; rw [H0.out] at this; exact this, HB1.out⟩
  · have hv : v1 ≠ .slice none 0 0 := by
      intro e
      obtain ⟨p, c, e', _⟩ := HO1.out.texts
      rw [e'] at e
      simp only [Value.slice.injEq] at e
      exact h0 (List.length_eq_zero_iff.1 e.2.1)
    obtain ⟨g, c, rfl, hg1, hg2, hn, hc, _, hH⟩ := holds_of_ownsRow (zs := ls ++ ms) (HO1.out : World.ownsRow _ _ _ _ _ _ _) hv
    have hg1' : w.heap.size + 1 ≤ g := by simpa using hg1
    have HS := Lib.hid (Tryz.slices_SortFunc_total encS (fun _ => rfl) idCmp idSWO 86 #[] g 0 c (ls ++ ms).toArray w1 eg (compare_lays g 0 _ w1) hH hg2 (by simp; omega) idTot)
    have hlen : (ls ++ ms).length = ls.length + ms.length := List.length_append
    simp only [List.size_toArray, hlen] at HS
    have HH := Lib.hid hH
    rw [hlen] at hn
    clear eg hH hg1 hv h0 hlen
    go_wp2_with fail
    refine HS.out.mono ?_
    rintro e w2 ⟨rfl, nn, os, hw2⟩
    have hDl : Hid (Holds encS w2 g 0 ((ls ++ ms).mergeSort fun x y => !(ltOf idCmp) y x).toArray) := by
      show Holds _ _ _ _ _
      rw [hw2]
      exact sorted_row HH.out hg2 (by simp)
    have HB2 : Hid (Below w.heap.size w w2) := by
      show Below _ _ _
      rw [hw2]
      exact sorted_below HB1.out (by omega) (by omega)
    have hg3 : Hid (g < w2.heap.size) := by
      show g < _
      rw [hw2]
      simp only [sortWorld, grow, Array.size_append, putRow, mapBlock, Array.size_modify, Sort.ahead]
      omega
    have hsl : ((ls ++ ms).mergeSort fun x y => !(ltOf idCmp) y x).length = ls.length + ms.length := by simp
    obtain ⟨d, hd⟩ : ∃ d, d = ((ls ++ ms).mergeSort fun x y => !(ltOf idCmp) y x).toArray := ⟨_, rfl⟩
    have hds : d.size = ls.length + ms.length := by rw [hd]; simp
    have HM : Hid (compactUpTo d d.size = mrg (ls ++ ms)) := by show _ = _; rw [hd]; exact sort_compact _
    rw [← hd] at hDl
    have HK := Lib.hid (Tryz.slices_Compact encS encS_cell eql_S neq_S [] (fun _ => by kernel_rfl) g 0 c d w2 hDl.out (by omega) (by omega))
    have hcl := compact_len d
    rw [HM.out] at HK hcl
    rw [hds] at HK
    have HT : Hid (∀ q, Texts (putRow encS (Sort.ahead w2 q) g 0 (mrg (ls ++ ms) ++ List.replicate (d.size - (mrg (ls ++ ms)).length) []).toArray) (.slice (some ⟨g, 0, none⟩) (mrg (ls ++ ms)).length c) (mrg (ls ++ ms))) :=
      fun q => compact_texts hDl.out hg3.out (by omega) hc hcl
    rw [hds] at HT
    clear hw2 hd hds hsl HM HS hDl hcl HH
    obtain ⟨r, hr⟩ : ∃ r, mrg (ls ++ ms) = r := ⟨_, rfl⟩
    rw [hr] at HK HT
    have HR := Lib.hid hr
    clear hr
    go_wp2_with fail
    refine HK.out.mono ?_
    rintro e w3 ⟨rfl, q, hw3⟩
    have HT3 := HT.out q
    rw [← hw3] at HT3
    have HB3 : Hid (Below w.heap.size w w3) := by
      show Below _ _ _
      rw [hw3]
      exact below_putRow HB2.out (by omega)
    have HT3' := Lib.hid HT3
    clear hw3 HT3 HK HT
    go_wp2_with fail
    go_ret
    exact ⟨_, rfl, by rw [HR.out]; exact HT3'.out, HB3.out⟩

end Go.Proofs.YtndicdomdndjaaaGreat

end

section

/-
  THE CONTRACTS OF digest.place, digest.contacts AND OF THE DOCUMENT'S contacts.
-/
namespace Go.Proofs.YtndicdomdndjaaaGreat
open Go.RowKit

/-- A row of texts that may be written. -/
def RowT (w : World) (B : Nat) (u : List (List UInt8)) : Prop := ∀ j, j < u.length → w.cell? ⟨B, j, none⟩ = some (encS (u.getD j [])) ∧ w.frozen? ⟨B, j, none⟩ = false

theorem RowT.set {w : World} {B : Nat} {u : List (List UInt8)} (h : RowT w B u) (j : Nat) (x : List UInt8) (hj : j < u.length) : RowT (w.setCell ⟨B, j, none⟩ (encS x)) B (u.set j x) := by
  intro i hi
  have hi' : i < u.length := by simpa using hi
  refine ⟨?_, (World.frozen?_setCell w _ _ _).trans (h i hi').2⟩
  by_cases hij : i = j
  · subst hij
    rw [World.cell?_setCell_same _ _ _ (h i hj).1]
    simp [List.getD, hj]
  · rw [World.cell?_setCell_other _ _ _ _ (by simp), (h i hi').1]
    simp [List.getD, show ¬ j = i by omega]

theorem RowT.later {w w' : World} {B : Nat} {u : List (List UInt8)} (h : RowT w B u) (hB : B < w.heap.size) (hb : Below w.heap.size w w') : RowT w' B u := fun j hj =>
  ⟨(hb.cell (p := ⟨B, j, none⟩) hB).trans (h j hj).1, (hb.frozen (p := ⟨B, j, none⟩) hB).trans (h j hj).2⟩

theorem RowT.texts {w : World} {B : Nat} {u : List (List UInt8)} (h : RowT w B u) (hB : B < w.heap.size) (hl : u.length ≤ 4294967296) : Texts w (.slice (some ⟨B, 0, none⟩) u.length u.length) u :=
  ⟨_, u.length, rfl, Nat.le_refl _, by unfold maxLen; omega, (fun e => by cases e), .inr ⟨B, 0, rfl, hB, fun i hi => by rw [Nat.zero_add]; exact (h i hi).1⟩⟩

/-- The contacts up to k, and nothing yet behind. -/
def ctsAt (t : List Row) (k : Nat) : List (List UInt8) := (cts t).take k ++ List.replicate (t.length - k) []

theorem madeTexts (n : Nat) : (madeCells (Value.string ⟨#[]⟩).cells (n * 1)).toList = List.replicate n (encS []) := by
  rw [Nat.mul_one]
  exact toList_madeCells_one _ n

/-- 'make([]string, n)'. -/
theorem wpList_make_texts {w : World} {ops : Array Oper} {rest : List Oper} {o : Oper} {a : Act} {Q : Exit → Act → World → Prop}
    (hg : o.guard = none) (l c : Operand) (hop : o.op = Op.makeSlice 114 l c)
    (L C : Int) (n : Nat) (hl : a.eval l = .int .i64 L) (hc : a.eval c = .int .i64 C) (hL : L = (n : Int)) (hC : C = (n : Int)) (hn : n ≤ 4294967296)
    (hK : ∀ w', RowT w' w.heap.size (List.replicate n []) → Below w.heap.size w w' → w.heap.size < w'.heap.size → wpList Tryz.prog ops Q rest (a.put o.dst (.slice (some ⟨w.heap.size, 0, none⟩) n n)) w') :
    wpList Tryz.prog ops Q (o :: rest) a w := by
  obtain ⟨i, hi, hz, hsize, hby⟩ := info_parts Tryz.infoStr
  refine wpList_make_full w hg l c _ hop w.heap.size 9 i _ 1 Tryz.underlying114 hi hz hsize .i64 .i64 L C n hl hc hL hC (by rw [hby]; omega) (by unfold maxLen; omega) (Nat.le_refl _) ?_
  intro w' hown hgrow
  refine hK w' (fun j hj => ?_) ((Below.refl _ _).grown hgrow (Nat.le_refl _) (fun k hk => by simp at hk)) (hown.lt w.heap.size rfl).2
  have hj' : j < n := by simpa using hj
  refine ⟨?_, hown.frozenAt j⟩
  rw [hown.cellAt j (by omega), madeTexts]
  simp [List.getD, hj']

end Go.Proofs.YtndicdomdndjaaaGreat

end

section

/-
  THE CONTRACT OF digest.firsts: a map of the call's own, from each Contact to its first row.
-/
namespace Go.Proofs.YtndicdomdndjaaaGreat
open Go.RowKit Go.ChangeMaps Go.MapKept

/-- How a row reads as a map's element. -/
def seenData (r : Row) : DataW Unit := .agg [.lit (.string r.c), .lit (.int .i64 r.v.sh), .lit (.int .i64 r.v.pr), .lit (.int .i64 r.v.si), .lit (.string r.v.st)]

def seenElem : Value → Option (DataW Unit × List MemPlace)
  | .agg cs => match cs.toList with
    | [.string c, .int .i64 x, .int .i64 y, .int .i64 z, .string s] => some (seenData ⟨c.data.toList, x, y, z, s.data.toList⟩, [])
    | _ => none
  | _ => none

/-- The row that a Contact's key stands for. -/
def firstRow (t : List Row) (x : List UInt8) : Row := if (diGet t x).2 = true then ⟨x, (diGet t x).1⟩ else Row.zero

/-- Block B is a map that holds of each Contact of t the first row. -/
def FirstsAt (w : World) (B : Nat) (t : List Row) : Prop :=
  ∃ n, ∃ D : DataW Unit, n ≤ t.length ∧ w.ownsMap Tryz.prog 9 seenElem B n D ∧
    ∀ x : List UInt8, Maps.has D (.string x) = (diGet t x).2 ∧ D.atKey (.string x) (seenData Row.zero) = seenData (firstRow t x)

theorem FirstsAt.lt {w : World} {B : Nat} {t : List Row} (h : FirstsAt w B t) : B < w.heap.size := by
  obtain ⟨_, _, _, h, _⟩ := h
  exact h.lt

theorem FirstsAt.later {w w' : World} {B : Nat} {t : List Row} (h : FirstsAt w B t) (hb : Below w.heap.size w w') : FirstsAt w' B t := by
  have hlt := h.lt
  obtain ⟨n, D, h1, ⟨es, clock, h2, h3, h4, h5⟩, h6⟩ := h
  exact ⟨n, D, h1, ⟨es, clock, (hb.block B hlt).trans h2, h3, h4, h5⟩, h6⟩

end Go.Proofs.YtndicdomdndjaaaGreat

end

section

/-
  LISTS OF CHANGES IN MEMORY: rows of six cells.
-/
namespace Go.Proofs.YtndicdomdndjaaaGreat
open Go.RowKit

def Chg.zero : Chg := ⟨[], false, Val.zero⟩

def chgVals (r : Chg) : List Value := [.string ⟨r.c.toArray⟩, .bool r.on, .int .i64 r.v.sh, .int .i64 r.v.pr, .int .i64 r.v.si, .string ⟨r.v.st.toArray⟩]

def Cells6 (w : World) (b o : Nat) (r : Chg) : Prop :=
  w.cell? ⟨b, o, none⟩ = some (.string ⟨r.c.toArray⟩) ∧ w.cell? ⟨b, o + 1, none⟩ = some (.bool r.on) ∧ w.cell? ⟨b, o + 2, none⟩ = some (.int .i64 r.v.sh) ∧ w.cell? ⟨b, o + 3, none⟩ = some (.int .i64 r.v.pr) ∧
    w.cell? ⟨b, o + 4, none⟩ = some (.int .i64 r.v.si) ∧ w.cell? ⟨b, o + 5, none⟩ = some (.string ⟨r.v.st.toArray⟩)

theorem Cells6.later {w w' : World} {b o : Nat} {r : Chg} (h : Cells6 w b o r) (hb : Below w.heap.size w w') (hlt : b < w.heap.size) : Cells6 w' b o r := by
  obtain ⟨h0, h1, h2, h3, h4, h5⟩ := h
  have k : ∀ o, w'.cell? ⟨b, o, none⟩ = w.cell? ⟨b, o, none⟩ := fun o => hb.cell (p := ⟨b, o, none⟩) hlt
  exact ⟨(k _).trans h0, (k _).trans h1, (k _).trans h2, (k _).trans h3, (k _).trans h4, (k _).trans h5⟩

/-- Which changes a slice holds. -/
def Chgs (w : World) (v : Value) (t : List Chg) : Prop :=
  ∃ a cap, v = .slice a t.length cap ∧ t.length ≤ cap ∧ cap ≤ maxLen ∧ (a = none → cap = 0) ∧
    (t = [] ∨ ∃ b off, a = some ⟨b, off, none⟩ ∧ b < w.heap.size ∧ ∀ i, i < t.length → Cells6 w b (off + i * 6) (t.getD i Chg.zero))

theorem Chgs.later {w w' : World} {v : Value} {t : List Chg} (h : Chgs w v t) (hb : Below w.heap.size w w') : Chgs w' v t := by
  obtain ⟨a, cap, h1, h2, h3, h4, h5⟩ := h
  refine ⟨a, cap, h1, h2, h3, h4, ?_⟩
  rcases h5 with h5 | ⟨b, off, e, hlt, hc⟩
  · exact .inl h5
  · exact .inr ⟨b, off, e, Nat.lt_of_lt_of_le hlt hb.size, fun i hi => (hc i hi).later hb hlt⟩

theorem chgs_nil (w : World) : Chgs w (.slice none 0 0) [] := ⟨none, 0, rfl, by simp, by simp, fun _ => rfl, .inl rfl⟩

/-- A change of a list, in a later world. -/
theorem Chgs.row {w wr : World} {a : Option Addr} {n cap : Nat} {t : List Chg} (h : Chgs w (.slice a n cap) t) (hb : Below w.heap.size w wr) (k : Nat) (hk : k < t.length) :
    ∃ b off, a = some ⟨b, off, none⟩ ∧ Cells6 wr b (off + k * 6) (t.getD k Chg.zero) := by
  obtain ⟨a', cap', e, _, _, _, h⟩ := h.later hb
  simp only [Value.slice.injEq] at e
  rcases h with h | ⟨b, off, e', _, hc⟩
  · rw [h] at hk; simp at hk
  · exact ⟨b, off, e.1.trans e', hc k hk⟩

theorem Chgs.open' {w : World} {v : Value} {t : List Chg} (h : Chgs w v t) : ∃ a cap, v = .slice a t.length cap ∧ t.length ≤ 9223372036854775807 := by
  obtain ⟨a, cap, e, h1, h2, _⟩ := h
  unfold maxLen at h2
  exact ⟨a, cap, e, by omega⟩

/-- The cells of rows, one row behind the other. -/
def cellsOfC (t : List Chg) : List Value := (t.map chgVals).flatten

theorem cellsOfC_cons (r : Chg) (t : List Chg) : cellsOfC (r :: t) = chgVals r ++ cellsOfC t := rfl
theorem chgVals_len (r : Chg) : (chgVals r).length = 6 := rfl

theorem cellsOfC_at : ∀ (t : List Chg) (i j : Nat), i < t.length → j < 6 → (cellsOfC t)[i * 6 + j]? = (chgVals (t.getD i Chg.zero))[j]?
  | [], i, j, h, _ => by simp at h
  | r :: t, 0, j, _, hj => by
    rw [cellsOfC_cons, Nat.zero_mul, Nat.zero_add, List.getElem?_append_left (by rw [chgVals_len]; exact hj)]
    rfl
  | r :: t, i + 1, j, h, hj => by
    rw [cellsOfC_cons, List.getElem?_append_right (by rw [chgVals_len]; omega), chgVals_len, show (i + 1) * 6 + j - 6 = i * 6 + j by omega, cellsOfC_at t i j (by simpa using h) hj]
    rfl

theorem cells6_of {w : World} {b o : Nat} {r : Chg} (h : ∀ j u, (chgVals r)[j]? = some u → w.cell? ⟨b, o + j, none⟩ = some u) : Cells6 w b o r :=
  ⟨h 0 _ rfl, h 1 _ rfl, h 2 _ rfl, h 3 _ rfl, h 4 _ rfl, h 5 _ rfl⟩

/-- A list of changes of the call's own. -/
def OwnC (w : World) (base : Nat) (v : Value) (t : List Chg) : Prop := w.ownsRow base 34 6 v t.length (cellsOfC t)

theorem OwnC.alloc {w : World} {base : Nat} {v : Value} {t : List Chg} (h : OwnC w base v t) (o : Obj) : OwnC (w.alloc o) base v t := World.ownsRow.alloc h o

theorem OwnC.later {w w' : World} {base : Nat} {v : Value} {t : List Chg} (h : OwnC w base v t) (hb : Below w.heap.size w w') : OwnC w' base v t := by
  refine ⟨h.1, ?_⟩
  rcases h.2 with h' | ⟨g, cap, cur, h1, h2, h3, h4⟩
  · exact .inl h'
  · exact .inr ⟨g, cap, cur, h1, h2, by rw [hb.block g (Array.getElem?_eq_some_iff.1 h3).1]; exact h3, h4⟩

theorem OwnC.chgs {w : World} {base : Nat} {v : Value} {t : List Chg} (h : OwnC w base v t) : Chgs w v t := by
  rcases h with ⟨_, ⟨rfl, h0⟩ | ⟨g, cap, cur, rfl, hb, hg, hn, hc, hsz, htk⟩⟩
  · obtain rfl : t = [] := List.length_eq_zero_iff.1 h0
    exact chgs_nil w
  · refine ⟨some ⟨g, 0, none⟩, cap, rfl, hn, hc, (fun e => by cases e), .inr ⟨g, 0, rfl, (Array.getElem?_eq_some_iff.1 hg).1, fun i hi => ?_⟩⟩
    refine cells6_of fun j u hu => ?_
    have hj : j < 6 := by have := (List.getElem?_eq_some_iff.1 hu).1; rwa [chgVals_len] at this
    rw [Nat.zero_add, cell_of_row w g (i * 6 + j) cur _ (0, 0) hg]
    have h1 : cur.toList[i * 6 + j]? = (cellsOfC t)[i * 6 + j]? := by
      rw [← htk, List.getElem?_take, if_pos (by omega)]
    rw [← hu, ← cellsOfC_at t i j hi hj, ← h1]
    simp

theorem Tryz.infoChange : (Tryz.prog.info? 34).map (fun i => (i.zero, i.size, i.bytes)) = some (some (.agg #[.string ⟨#[]⟩, .bool false, .int .i64 0, .int .i64 0, .int .i64 0, .string ⟨#[]⟩]), 6, 64) := by kernel_rfl

end Go.Proofs.YtndicdomdndjaaaGreat

end

section

/-
  ROWS OF A TABLE OF THE CALL'S OWN: stored into, copied, cleared, grown by zero rows.
-/
namespace Go.Proofs.YtndicdomdndjaaaGreat
open Go.RowKit

/-- 'ms' laid over 'u' from place 'o' on. -/
def lay {α : Type} (u : List α) (o : Nat) (ms : List α) : List α := u.take o ++ (ms ++ u.drop (o + ms.length))

theorem cellsOf_take (u : List Row) (o : Nat) : (cellsOf u).take (o * 5) = cellsOf (u.take o) := by
  have h := cellsOf_append (u.take o) (u.drop o)
  rw [List.take_append_drop] at h
  rw [h]
  by_cases ho : o ≤ u.length
  · rw [List.take_left' (by rw [cellsOf_len, List.length_take]; omega)]
  · have e1 : u.drop o = [] := List.drop_of_length_le (by omega)
    have e2 : u.take o = u := List.take_of_length_le (by omega)
    rw [e1, e2, cellsOf_nil, List.append_nil, List.take_of_length_le (by rw [cellsOf_len]; omega)]

theorem cellsOf_drop (u : List Row) (o : Nat) : (cellsOf u).drop (o * 5) = cellsOf (u.drop o) := by
  have h := cellsOf_append (u.take o) (u.drop o)
  rw [List.take_append_drop] at h
  by_cases ho : o ≤ u.length
  · rw [h, List.drop_left' (by rw [cellsOf_len, List.length_take]; omega)]
  · have e1 : u.drop o = [] := List.drop_of_length_le (by omega)
    rw [e1, cellsOf_nil, List.drop_of_length_le (by rw [cellsOf_len]; omega)]

theorem OwnR.head {w : World} {base g n cap : Nat} {u : List Row} (h : OwnR w base (.slice (some ⟨g, 0, none⟩) n cap) u) : n = u.length ∧ base ≤ g ∧ g < w.heap.size ∧ n ≤ cap ∧ cap ≤ maxLen ∧ ∃ cur : Array Value, w.heap[g]? = some (.cells cur 67 (0, 0)) ∧ cur.size = cap * 5 := by
  rcases h with ⟨_, ⟨h', _⟩ | ⟨g', cap', cur, h', hb, hg, hnc, hcm, hcs, _⟩⟩
  · simp at h'
  · simp only [Value.slice.injEq, Option.some.injEq, Addr.mk.injEq, and_true] at h'
    obtain ⟨rfl, h2, rfl⟩ := h'
    exact ⟨h2, hb, (Array.getElem?_eq_some_iff.1 hg).1, by omega, hcm, cur, hg, hcs⟩

theorem OwnR.cellAt {w : World} {base g n cap : Nat} {u : List Row} (h : OwnR w base (.slice (some ⟨g, 0, none⟩) n cap) u) (j : Nat) (hj : j < u.length * 5) : w.cell? ⟨g, j, none⟩ = (cellsOf u)[j]? := by
  have hn := h.head.1
  subst hn
  exact World.ownsRow.cellAt h j hj

theorem OwnR.frozenAt {w : World} {base g n cap : Nat} {u : List Row} (h : OwnR w base (.slice (some ⟨g, 0, none⟩) n cap) u) (j : Nat) : w.frozen? ⟨g, j, none⟩ = false := by
  have hn := h.head.1
  subst hn
  exact World.ownsRow.frozenAt h j

/-- The cells that a slice of rows reads. -/
def SrcR (w : World) (ad : Addr) (ms : List Row) : Prop := ∀ j u, (cellsOf ms)[j]? = some u → w.cell? (ad.add j) = some u

theorem OwnR.src {w : World} {base g n cap : Nat} {u : List Row} (h : OwnR w base (.slice (some ⟨g, 0, none⟩) n cap) u) (o k : Nat) (hk : o + k ≤ u.length) : SrcR w ⟨g, o * 5, none⟩ ((u.drop o).take k) := by
  intro j x hx
  have hj := (List.getElem?_eq_some_iff.1 hx).1
  rw [cellsOf_len, List.length_take, List.length_drop] at hj
  rw [Addr.add_lit, h.cellAt _ (by omega), ← hx]
  rw [← cellsOf_take, ← cellsOf_drop, List.getElem?_take, if_pos (by omega), List.getElem?_drop]

end Go.Proofs.YtndicdomdndjaaaGreat

end

section

/-
  THE CONTRACTS OF slices.Clone, slices.IndexFunc, slices.DeleteFunc (of rows, at the one predicate that asks for a Contact) AND OF digest.without.
-/
namespace Go.Proofs.YtndicdomdndjaaaGreat
open Go.RowKit

/-- Where the first row of a Contact stands. -/
def Found (t : List Row) (key : List UInt8) (n : Int) : Prop :=
  (∃ k : Nat, k < t.length ∧ n = k ∧ (t.getD k Row.zero).c = key ∧ ∀ j, j < k → ¬ (t.getD j Row.zero).c = key) ∨ (n = -1 ∧ ∀ j, j < t.length → ¬ (t.getD j Row.zero).c = key)

/-- What a row of the table holds, at its cells. -/
theorem OwnR.row {w : World} {base g n cap : Nat} {u : List Row} (h : OwnR w base (.slice (some ⟨g, 0, none⟩) n cap) u) {k : Nat} (hk : k < u.length) : Cells5 w g (k * 5) (u.getD k Row.zero) := by
  refine cells5_of fun j x hx => ?_
  have hj : j < 5 := by have := (List.getElem?_eq_some_iff.1 hx).1; rwa [rowVals_len] at this
  rw [h.cellAt _ (by omega), cellsOf_at u k j hk hj, hx]

/-- Where DeleteFunc stands: rows kept up to i, rows looked at up to j. -/
def DelAt (t u : List Row) (key : List UInt8) (i j : Nat) : Prop := u.length = t.length ∧ i < j ∧ j ≤ t.length ∧ u.take i = diRest (t.take j) key ∧ u.drop j = t.drop j

end Go.Proofs.YtndicdomdndjaaaGreat

end

section

/-
  THE CONTRACTS OF slices.Clone (of rows) AND OF digest.without.
-/
namespace Go.Proofs.YtndicdomdndjaaaGreat
open Go.RowKit

/-- The cells of a table, at its slice's address. -/
theorem Tab.src {w : World} {ad : Addr} {n cap : Nat} {t : List Row} (h : Tab w (.slice (some ad) n cap) t) : SrcR w ad t := by
  obtain ⟨a', cap', e, _, _, _, h⟩ := h
  simp only [Value.slice.injEq] at e
  intro j u hu
  have hj := (List.getElem?_eq_some_iff.1 hu).1
  rw [cellsOf_len] at hj
  rcases h with h | ⟨b, off, e', _, hc⟩
  · rw [h] at hj; simp at hj
  · have e2 := e.1.trans e'
    injection e2 with e2
    subst e2
    have hd : j = j / 5 * 5 + j % 5 := by omega
    rw [hd, cellsOf_at t (j / 5) (j % 5) (by omega) (by omega)] at hu
    have := cells5_get (hc (j / 5) (by omega)) (j % 5) u hu
    rw [Addr.add_lit, hd, ← Nat.add_assoc]
    exact this

theorem eql_nil_some (w : World) (x : Addr) (n c : Nat) : (binOp .eql 46 (.slice (some x) n c) (.slice none 0 0)).run Tryz.prog w = .ok (.bool false) w := by
  rw [Lib.run_eql_slice_nil w _ _ _ _ _ _ _ Tryz.underlying46]
  rfl

theorem eql_nil_nil (w : World) (n c : Nat) : (binOp .eql 46 (.slice none n c) (.slice none 0 0)).run Tryz.prog w = .ok (.bool true) w := by
  rw [Lib.run_eql_slice_nil w _ _ _ _ _ _ _ Tryz.underlying46]
  rfl

set_option maxHeartbeats 800000 in
set_option maxRecDepth 100000 in
theorem clone_any {w : World} {v : Value} {t : List Row} (hv : Tab w v t) (hl : t.length ≤ 4294967) :
    Calls Tryz.prog 87 #[v] w fun e w' => ∃ u, e = .returned u ∧ OwnR w' w.heap.size u t ∧ Below w.heap.size w w' := by
  have HV := Lib.hid hv
  obtain ⟨a, cap, rfl, h1, h2, h3, h4⟩ := hv
  cases a with
  | none =>
    obtain rfl : cap = 0 := h3 rfl
    obtain rfl : t = [] := List.length_eq_zero_iff.1 (by omega)
    have heq := fun w => eql_nil_nil w 0 0
    clear h4
    go_enter Tryz.func87, Tryz.ntmps87
    go_wp2_with fail
    go_ret
    exact ⟨_, rfl, ownR_nil _ _, Below.refl _ _⟩
  | some x =>
    have HS := Lib.hid (HV.out.later ((Below.refl _ _).alloc (Nat.le_refl _) (.cells #[] 67))).src
    have heq := fun w => eql_nil_some w x t.length cap
    clear h4 h3
    go_enter Tryz.func87, Tryz.ntmps87
    go_wp2_with (at_builtin; go_must (refine wpList_append_rows rfl _ _ rfl w.heap.size _ [] rfl (by exact ownR_made w) (some x) t.length cap t rfl rfl (fun e => nomatch e) ?c1 (by simp only [List.length_nil]; omega) (by simp) ?_))
    case c1 => intro ad had; obtain rfl := Option.some.inj had; exact HS.out
    intro v' w' ho' hb'
    have O := Lib.hid ho'
    have hbB : Hid (Below w.heap.size w w') := ((Below.refl w.heap.size w).alloc (Nat.le_refl _) _).trans hb'
    clear ho' hb'
    go_wp2_with fail
    go_ret
    exact ⟨_, rfl, by have := O.out; simpa using this, hbB.out⟩

end Go.Proofs.YtndicdomdndjaaaGreat

end

section

/-
  THE CONTRACT OF slices.Insert (of one row, into a table of the call's own).
-/
namespace Go.Proofs.YtndicdomdndjaaaGreat
open Go.RowKit

/-- Block B holds one row, and nothing else. -/
def Lone (w : World) (B : Nat) (r : Row) : Prop := w.heap[B]? = some (.cells #[.string ⟨r.c.toArray⟩, .int .i64 r.v.sh, .int .i64 r.v.pr, .int .i64 r.v.si, .string ⟨r.v.st.toArray⟩] 67 (0, 0))

theorem Lone.later {w w' : World} {B : Nat} {r : Row} (h : Lone w B r) (hb : Below w.heap.size w w') : Lone w' B r :=
  (hb.block B (Array.getElem?_eq_some_iff.1 h).1).trans h

theorem Lone.lt {w : World} {B : Nat} {r : Row} (h : Lone w B r) : B < w.heap.size := (Array.getElem?_eq_some_iff.1 h).1

theorem Lone.src {w : World} {B : Nat} {r : Row} (h : Lone w B r) : SrcR w ⟨B, 0, none⟩ [r] := by
  intro j u hu
  rw [cellsOf_one] at hu
  rw [Addr.add_lit, Nat.zero_add, cell_of_row w B j _ _ (0, 0) h, ← hu]
  simp [rowVals]

/-- One row put in. -/
def put1 (t : List Row) (i : Nat) (r : Row) : List Row := t.take i ++ ([r] ++ t.drop i)

theorem ownR_low {w : World} {base base' : Nat} {v : Value} {t : List Row} (h : OwnR w base v t) (hb : base' ≤ base) : OwnR w base' v t := by
  refine ⟨h.1, ?_⟩
  rcases h.2 with h' | ⟨g, cap, cur, h1, h2, h3⟩
  · exact .inl h'
  · exact .inr ⟨g, cap, cur, h1, by omega, h3⟩

end Go.Proofs.YtndicdomdndjaaaGreat

end

section

/-
  THE CONTRACT OF slices.Insert WHERE THERE IS ROOM; the contract whole.
-/
namespace Go.Proofs.YtndicdomdndjaaaGreat
open Go.RowKit

/-- Cells of a table of the call's own, whatever they hold. -/
def OwnC5 (w : World) (base g n cap : Nat) (xs : List Value) : Prop := w.ownsRow base 67 5 (.slice (some ⟨g, 0, none⟩) n cap) n xs

theorem OwnC5.head {w : World} {base g n cap : Nat} {xs : List Value} (h : OwnC5 w base g n cap xs) : base ≤ g ∧ xs.length = n * 5 ∧ ∃ cur : Array Value, w.heap[g]? = some (.cells cur 67 (0, 0)) ∧ cur.size = cap * 5 := by
  rcases h with ⟨h0, ⟨h', _⟩ | ⟨g', cap', cur, h', hb, hg, hnc, hcm, hcs, _⟩⟩
  · simp at h'
  · simp only [Value.slice.injEq, Option.some.injEq, Addr.mk.injEq, and_true, true_and] at h'
    obtain ⟨rfl, rfl⟩ := h'
    exact ⟨hb, h0, cur, hg, hcs⟩

theorem OwnC5.drew {w : World} {base g n cap : Nat} {xs : List Value} (h : OwnC5 w base g n cap xs) : OwnC5 w.drew base g n cap xs := World.ownsRow.drew h

theorem OwnC5.rows {w : World} {base g cap n : Nat} {t : List Row} (h : OwnC5 w base g n cap (cellsOf t)) (hn : n = t.length) : OwnR w base (.slice (some ⟨g, 0, none⟩) n cap) t := by
  subst hn
  exact h

end Go.Proofs.YtndicdomdndjaaaGreat

end

section

/-
  THE CONTRACT OF digest.Set.
-/
namespace Go.Proofs.YtndicdomdndjaaaGreat
open Go.RowKit

theorem OwnR.drew {w : World} {base : Nat} {v : Value} {t : List Row} (h : OwnR w base v t) : OwnR w.drew base v t := World.ownsRow.drew h

def chgAgg (c : Chg) : Value := .agg #[.string ⟨c.c.toArray⟩, .bool c.on, .int .i64 c.v.sh, .int .i64 c.v.pr, .int .i64 c.v.si, .string ⟨c.v.st.toArray⟩]

theorem six_cells (w : World) (a b c d e f : Value) (t : TypeId) : (w.alloc (.cells #[a, b, c, d, e, f] t)).cell? ⟨w.heap.size, 0, none⟩ = some a ∧ (w.alloc (.cells #[a, b, c, d, e, f] t)).cell? ⟨w.heap.size, 1, none⟩ = some b ∧ (w.alloc (.cells #[a, b, c, d, e, f] t)).cell? ⟨w.heap.size, 2, none⟩ = some c ∧ (w.alloc (.cells #[a, b, c, d, e, f] t)).cell? ⟨w.heap.size, 3, none⟩ = some d ∧ (w.alloc (.cells #[a, b, c, d, e, f] t)).cell? ⟨w.heap.size, 4, none⟩ = some e ∧ (w.alloc (.cells #[a, b, c, d, e, f] t)).cell? ⟨w.heap.size, 5, none⟩ = some f :=
  ⟨by rw [World.cell?_alloc_at _ _ _ _ rfl]; rfl, by rw [World.cell?_alloc_at _ _ _ _ rfl]; rfl, by rw [World.cell?_alloc_at _ _ _ _ rfl]; rfl, by rw [World.cell?_alloc_at _ _ _ _ rfl]; rfl, by rw [World.cell?_alloc_at _ _ _ _ rfl]; rfl, by rw [World.cell?_alloc_at _ _ _ _ rfl]; rfl⟩

end Go.Proofs.YtndicdomdndjaaaGreat

end

section

/-
  ROWS OF STRUCTS, OVER ANY PROGRAM AND ANY ELEMENT OF A FEW CELLS: slices that are read, or owned, appended to, copied, cleared, grown by zero rows.
-/
namespace Go.Proofs.YtndicdomdndjaaaGreat
open Go.RowKit

/-- The cells of elements, one behind the other. -/
def cellsS {α : Type} (vals : α → List Value) (t : List α) : List Value := (t.map vals).flatten

/-- What is to be known of an element's type T, and of its slice's S. -/
structure RowOK {α : Type} (P : Program) (vals : α → List Value) (sz : Nat) (zero : α) (T S : TypeId) (Z : Value) (bytes : Nat) : Prop where
  len : ∀ a, (vals a).length = sz
  one : ∀ a, ∀ u ∈ vals a, u.oneCell' = true
  pos : 0 < sz
  small : sz ≤ 100
  under : P.underlying S = some (.slice T)
  info : (P.info? T).map (fun i => (i.zero, i.size, i.bytes)) = some (some Z, sz, bytes)
  zvals : Z.cells.toList = vals zero
  fits : bytes ≤ 4096

section pure
variable {α : Type} {vals : α → List Value} {sz : Nat}

theorem cellsS_nil : cellsS vals [] = [] := rfl
theorem cellsS_cons (r : α) (t : List α) : cellsS vals (r :: t) = vals r ++ cellsS vals t := rfl
theorem cellsS_append (a b : List α) : cellsS vals (a ++ b) = cellsS vals a ++ cellsS vals b := by simp [cellsS]
theorem cellsS_one (r : α) : cellsS vals [r] = vals r := by simp [cellsS]

theorem cellsS_len (hl : ∀ a, (vals a).length = sz) : ∀ t : List α, (cellsS vals t).length = t.length * sz
  | [] => by simp [cellsS]
  | r :: t => by rw [cellsS_cons, List.length_append, hl, cellsS_len hl t, List.length_cons, Nat.add_mul, Nat.one_mul, Nat.add_comm]

theorem cellsS_at (hl : ∀ a, (vals a).length = sz) (zero : α) : ∀ (t : List α) (i j : Nat), i < t.length → j < sz → (cellsS vals t)[i * sz + j]? = (vals (t.getD i zero))[j]?
  | [], i, j, h, _ => by simp at h
  | r :: t, 0, j, _, hj => by
    rw [cellsS_cons, Nat.zero_mul, Nat.zero_add, List.getElem?_append_left (by rw [hl]; exact hj)]
    rfl
  | r :: t, i + 1, j, h, hj => by
    rw [cellsS_cons, List.getElem?_append_right (by rw [hl, Nat.add_mul]; omega), hl, show (i + 1) * sz + j - sz = i * sz + j by rw [Nat.add_mul]; omega, cellsS_at hl zero t i j (by simpa using h) hj]
    rfl

theorem cellsS_single (ho : ∀ a, ∀ u ∈ vals a, u.oneCell' = true) (t : List α) : ∀ u ∈ cellsS vals t, u.oneCell' = true := by
  intro u hu
  obtain ⟨l, hl, hu⟩ := List.mem_flatten.1 hu
  obtain ⟨r, _, rfl⟩ := List.mem_map.1 hl
  exact ho r u hu

theorem cellsS_take (hl : ∀ a, (vals a).length = sz) (u : List α) (o : Nat) : (cellsS vals u).take (o * sz) = cellsS vals (u.take o) := by
  have h := cellsS_append (vals := vals) (u.take o) (u.drop o)
  rw [List.take_append_drop] at h
  rw [h]
  by_cases ho : o ≤ u.length
  · rw [List.take_left' (by rw [cellsS_len hl, List.length_take, Nat.min_eq_left ho])]
  · have e1 : u.drop o = [] := List.drop_of_length_le (by omega)
    have e2 : u.take o = u := List.take_of_length_le (by omega)
    rw [e1, e2, cellsS_nil, List.append_nil, List.take_of_length_le (by rw [cellsS_len hl]; exact Nat.mul_le_mul_right _ (by omega))]

theorem cellsS_drop (hl : ∀ a, (vals a).length = sz) (u : List α) (o : Nat) : (cellsS vals u).drop (o * sz) = cellsS vals (u.drop o) := by
  have h := cellsS_append (vals := vals) (u.take o) (u.drop o)
  rw [List.take_append_drop] at h
  by_cases ho : o ≤ u.length
  · rw [h, List.drop_left' (by rw [cellsS_len hl, List.length_take, Nat.min_eq_left ho])]
  · have e1 : u.drop o = [] := List.drop_of_length_le (by omega)
    rw [e1, cellsS_nil, List.drop_of_length_le (by rw [cellsS_len hl]; exact Nat.mul_le_mul_right _ (by omega))]

/-- 'ms' laid over 'u' from place 'o' on. -/
def layS {β : Type} (u : List β) (o : Nat) (ms : List β) : List β := u.take o ++ (ms ++ u.drop (o + ms.length))

theorem layS_len {β : Type} {u : List β} {o : Nat} {ms : List β} (h : o + ms.length ≤ u.length) : (layS u o ms).length = u.length := by
  unfold layS
  simp
  omega

theorem layS_nil {β : Type} (u : List β) (o : Nat) : layS u o [] = u := by simp [layS]

theorem layS_cons {β : Type} (u : List β) (o : Nat) (x : β) (r : List β) (h : o < u.length) : layS (u.set o x) (o + 1) r = layS u o (x :: r) := by
  unfold layS
  have h1 : (u.set o x).take (o + 1) = u.take o ++ [x] := by
    rw [List.take_set, List.set_eq_take_append_cons_drop]
    rw [if_pos (by rw [List.length_take]; omega)]
    rw [List.take_take, List.drop_of_length_le (by rw [List.length_take]; omega), show min o (o + 1) = o by omega]
  have h2 : (u.set o x).drop (o + 1 + r.length) = u.drop (o + (x :: r).length) := by
    rw [List.drop_set, if_pos (by omega)]
    congr 1
    simp only [List.length_cons]
    omega
  rw [h1, h2]
  simp

theorem layS_one {β : Type} {u : List β} {i : Nat} (hi : i < u.length) (r : β) : layS u i [r] = u.set i r := by
  unfold layS
  rw [List.set_eq_take_append_cons_drop, if_pos hi]
  rfl

theorem cellsS_lay (hl : ∀ a, (vals a).length = sz) (u : List α) (o : Nat) (ms : List α) : layS (cellsS vals u) (o * sz) (cellsS vals ms) = cellsS vals (layS u o ms) := by
  unfold layS
  rw [cellsS_append, cellsS_append, cellsS_take hl, cellsS_len hl, ← Nat.add_mul, cellsS_drop hl]

/-- One put in at i. -/
def putS {β : Type} (t : List β) (i : Nat) (r : β) : List β := t.take i ++ ([r] ++ t.drop i)

end pure

theorem own_setCellsS {e size base g n cap : Nat} : ∀ (vs : List Value) (o : Nat) (w : World) (xs : List Value), w.ownsRow base e size (.slice (some ⟨g, 0, none⟩) n cap) n xs → o + vs.length ≤ xs.length →
    (w.setCells g o vs).ownsRow base e size (.slice (some ⟨g, 0, none⟩) n cap) n (layS xs o vs)
  | [], o, w, xs, h, _ => by rw [layS_nil]; exact h
  | v :: r, o, w, xs, h, hl => by
    rw [World.setCells, ← layS_cons xs o v r (by simp at hl; omega)]
    exact own_setCellsS r (o + 1) _ _ (h.stored o v).1 (by simp at hl ⊢; omega)

section rows
variable {α : Type} {P : Program} {vals : α → List Value} {sz : Nat} {zero : α} {T S : TypeId} {Z : Value} {bytes : Nat}

/-- A slice of the call's own. -/
def OwnS (vals : α → List Value) (sz : Nat) (T : TypeId) (w : World) (base : Nat) (v : Value) (t : List α) : Prop := w.ownsRow base T sz v t.length (cellsS vals t)

/-- Its cells, whatever they hold. -/
def OwnCS (sz : Nat) (T : TypeId) (w : World) (base g n cap : Nat) (xs : List Value) : Prop := w.ownsRow base T sz (.slice (some ⟨g, 0, none⟩) n cap) n xs

/-- The cells that a slice reads. -/
def SrcS (vals : α → List Value) (w : World) (ad : Addr) (ms : List α) : Prop := ∀ j u, (cellsS vals ms)[j]? = some u → w.cell? (ad.add j) = some u

/-- The cells of one element. -/
def CellsAt (w : World) (b o : Nat) (vs : List Value) : Prop := ∀ j u, vs[j]? = some u → w.cell? ⟨b, o + j, none⟩ = some u

theorem CellsAt.later {w w' : World} {b o : Nat} {vs : List Value} (h : CellsAt w b o vs) (hb : Below w.heap.size w w') : CellsAt w' b o vs := by
  intro j u hu
  have := h j u hu
  rw [hb.cell (World.block_lt_of_cell? w _ this)]
  exact this

/-- A slice that may be read. -/
def RdS (vals : α → List Value) (sz : Nat) (zero : α) (w : World) (v : Value) (l : List α) : Prop :=
  ∃ a cap, v = .slice a l.length cap ∧ l.length ≤ cap ∧ cap ≤ maxLen ∧ (a = none → cap = 0) ∧
    (l = [] ∨ ∃ b off, a = some ⟨b, off, none⟩ ∧ b < w.heap.size ∧ ∀ i, i < l.length → CellsAt w b (off + i * sz) (vals (l.getD i zero)))

theorem RdS.later {w w' : World} {v : Value} {l : List α} (h : RdS vals sz zero w v l) (hb : Below w.heap.size w w') : RdS vals sz zero w' v l := by
  obtain ⟨a, cap, h1, h2, h3, h4, h5⟩ := h
  refine ⟨a, cap, h1, h2, h3, h4, ?_⟩
  rcases h5 with h5 | ⟨b, off, e, hlt, hc⟩
  · exact .inl h5
  · exact .inr ⟨b, off, e, Nat.lt_of_lt_of_le hlt hb.size, fun i hi => (hc i hi).later hb⟩

theorem rdS_nil (w : World) : RdS vals sz zero w (.slice none 0 0) [] := ⟨none, 0, rfl, by simp, by simp, fun _ => rfl, .inl rfl⟩

theorem RdS.row {w wr : World} {a : Option Addr} {n cap : Nat} {l : List α} (h : RdS vals sz zero w (.slice a n cap) l) (hb : Below w.heap.size w wr) (k : Nat) (hk : k < l.length) :
    ∃ b off, a = some ⟨b, off, none⟩ ∧ CellsAt wr b (off + k * sz) (vals (l.getD k zero)) := by
  obtain ⟨a', cap', e, _, _, _, h⟩ := h.later hb
  simp only [Value.slice.injEq] at e
  rcases h with h | ⟨b, off, e', _, hc⟩
  · rw [h] at hk; simp at hk
  · exact ⟨b, off, e.1.trans e', hc k hk⟩

theorem RdS.open' {w : World} {v : Value} {l : List α} (h : RdS vals sz zero w v l) : ∃ a cap, v = .slice a l.length cap ∧ l.length ≤ 9223372036854775807 := by
  obtain ⟨a, cap, e, h1, h2, _⟩ := h
  unfold maxLen at h2
  exact ⟨a, cap, e, by omega⟩

theorem OwnS.alloc {w : World} {base : Nat} {v : Value} {t : List α} (h : OwnS vals sz T w base v t) (o : Obj) : OwnS vals sz T (w.alloc o) base v t := World.ownsRow.alloc h o

theorem OwnS.drew {w : World} {base : Nat} {v : Value} {t : List α} (h : OwnS vals sz T w base v t) : OwnS vals sz T w.drew base v t := World.ownsRow.drew h

theorem ownS_nil (w : World) (base : Nat) : OwnS vals sz T w base (.slice none 0 0) [] := World.ownsRow_nil w base _ _

theorem ownS_made (w : World) : OwnS vals sz T (w.alloc (.cells #[] T)) w.heap.size (.slice (some ⟨w.heap.size, 0, none⟩) 0 0) [] :=
  World.ownsRow_made w #[] 0 (Nat.le_refl _) (by decide) (by simp)

theorem OwnS.later {w w' : World} {base : Nat} {v : Value} {t : List α} (h : OwnS vals sz T w base v t) (hb : Below w.heap.size w w') : OwnS vals sz T w' base v t := by
  refine ⟨h.1, ?_⟩
  rcases h.2 with h' | ⟨g, cap, cur, h1, h2, h3, h4⟩
  · exact .inl h'
  · exact .inr ⟨g, cap, cur, h1, h2, by rw [hb.block g (Array.getElem?_eq_some_iff.1 h3).1]; exact h3, h4⟩

theorem ownS_low {w : World} {base base' : Nat} {v : Value} {t : List α} (h : OwnS vals sz T w base v t) (hb : base' ≤ base) : OwnS vals sz T w base' v t := by
  refine ⟨h.1, ?_⟩
  rcases h.2 with h' | ⟨g, cap, cur, h1, h2, h3⟩
  · exact .inl h'
  · exact .inr ⟨g, cap, cur, h1, by omega, h3⟩

theorem ltS {i n j sz : Nat} (hi : i < n) (hj : j < sz) : i * sz + j < n * sz := by
  have := Nat.mul_le_mul_right sz (show i + 1 ≤ n by omega)
  rw [Nat.add_mul, Nat.one_mul] at this
  omega

theorem OwnS.rd (D : RowOK P vals sz zero T S Z bytes) {w : World} {base : Nat} {v : Value} {t : List α} (h : OwnS vals sz T w base v t) : RdS vals sz zero w v t := by
  rcases h with ⟨_, ⟨rfl, h0⟩ | ⟨g, cap, cur, rfl, hb, hg, hn, hc, hsz, htk⟩⟩
  · obtain rfl : t = [] := List.length_eq_zero_iff.1 h0
    exact rdS_nil w
  · refine ⟨some ⟨g, 0, none⟩, cap, rfl, hn, hc, (fun e => by cases e), .inr ⟨g, 0, rfl, (Array.getElem?_eq_some_iff.1 hg).1, fun i hi => ?_⟩⟩
    intro j u hu
    have hj : j < sz := by have := (List.getElem?_eq_some_iff.1 hu).1; rwa [D.len] at this
    rw [Nat.zero_add, cell_of_row w g (i * sz + j) cur _ (0, 0) hg]
    have h1 : cur.toList[i * sz + j]? = (cellsS vals t)[i * sz + j]? := by
      rw [← htk, List.getElem?_take, if_pos (ltS hi hj)]
    rw [← hu, ← cellsS_at D.len zero t i j hi hj, ← h1]
    simp

theorem OwnS.head {w : World} {base g n cap : Nat} {u : List α} (h : OwnS vals sz T w base (.slice (some ⟨g, 0, none⟩) n cap) u) : n = u.length ∧ base ≤ g ∧ g < w.heap.size ∧ n ≤ cap ∧ cap ≤ maxLen ∧ ∃ cur : Array Value, w.heap[g]? = some (.cells cur T (0, 0)) ∧ cur.size = cap * sz := by
  rcases h with ⟨_, ⟨h', _⟩ | ⟨g', cap', cur, h', hb, hg, hnc, hcm, hcs, _⟩⟩
  · simp at h'
  · simp only [Value.slice.injEq, Option.some.injEq, Addr.mk.injEq, and_true] at h'
    obtain ⟨rfl, h2, rfl⟩ := h'
    exact ⟨h2, hb, (Array.getElem?_eq_some_iff.1 hg).1, by omega, hcm, cur, hg, hcs⟩

theorem OwnS.cellAt (_D : RowOK P vals sz zero T S Z bytes) {w : World} {base g n cap : Nat} {u : List α} (h : OwnS vals sz T w base (.slice (some ⟨g, 0, none⟩) n cap) u) (j : Nat) (hj : j < u.length * sz) : w.cell? ⟨g, j, none⟩ = (cellsS vals u)[j]? := by
  have hn := h.head.1
  subst hn
  exact World.ownsRow.cellAt h j hj

theorem OwnS.frozenAt {w : World} {base g n cap : Nat} {u : List α} (h : OwnS vals sz T w base (.slice (some ⟨g, 0, none⟩) n cap) u) (j : Nat) : w.frozen? ⟨g, j, none⟩ = false := by
  have hn := h.head.1
  subst hn
  exact World.ownsRow.frozenAt h j

/-- What an element of the call's own slice holds, at its cells. -/
theorem OwnS.row (D : RowOK P vals sz zero T S Z bytes) {w : World} {base g n cap : Nat} {u : List α} (h : OwnS vals sz T w base (.slice (some ⟨g, 0, none⟩) n cap) u) {k : Nat} (hk : k < u.length) : CellsAt w g (k * sz) (vals (u.getD k zero)) := by
  intro j x hx
  have hj : j < sz := by have := (List.getElem?_eq_some_iff.1 hx).1; rwa [D.len] at this
  rw [h.cellAt D _ (ltS hk hj), cellsS_at D.len zero u k j hk hj, hx]

/-- Elements laid over a slice of the call's own. -/
theorem ownS_lay (D : RowOK P vals sz zero T S Z bytes) {w : World} {base g n cap : Nat} {u : List α} (h : OwnS vals sz T w base (.slice (some ⟨g, 0, none⟩) n cap) u) (o : Nat) (ms : List α) (ho : o + ms.length ≤ u.length) :
    OwnS vals sz T (w.setCells g (o * sz) (cellsS vals ms)) base (.slice (some ⟨g, 0, none⟩) n cap) (layS u o ms) := by
  have hn := h.head.1
  subst hn
  unfold OwnS at h ⊢
  rw [layS_len ho, ← cellsS_lay D.len]
  exact own_setCellsS _ _ _ _ h (by rw [cellsS_len D.len, cellsS_len D.len, ← Nat.add_mul]; exact Nat.mul_le_mul_right _ ho)

/-- One stored, whole. -/
theorem ownS_set (D : RowOK P vals sz zero T S Z bytes) {w : World} {base g n cap : Nat} {u : List α} (h : OwnS vals sz T w base (.slice (some ⟨g, 0, none⟩) n cap) u) {i : Nat} (hi : i < u.length) (r : α) :
    OwnS vals sz T (w.setCells g (i * sz) (vals r)) base (.slice (some ⟨g, 0, none⟩) n cap) (u.set i r) := by
  have := ownS_lay D h i [r] (by simp; omega)
  rwa [cellsS_one, layS_one hi] at this

theorem OwnS.src (D : RowOK P vals sz zero T S Z bytes) {w : World} {base g n cap : Nat} {u : List α} (h : OwnS vals sz T w base (.slice (some ⟨g, 0, none⟩) n cap) u) (o k : Nat) (hk : o + k ≤ u.length) : SrcS vals w ⟨g, o * sz, none⟩ ((u.drop o).take k) := by
  intro j x hx
  have hj := (List.getElem?_eq_some_iff.1 hx).1
  rw [cellsS_len D.len, List.length_take, List.length_drop] at hj
  have h1 : min k (u.length - o) * sz ≤ k * sz := Nat.mul_le_mul_right _ (Nat.min_le_left _ _)
  have h2 : o * sz + k * sz ≤ u.length * sz := by rw [← Nat.add_mul]; exact Nat.mul_le_mul_right _ hk
  rw [Addr.add_lit, h.cellAt D _ (by omega), ← hx]
  rw [← cellsS_take D.len, ← cellsS_drop D.len, List.getElem?_take, if_pos (by omega), List.getElem?_drop]

/-- The cells of a slice, at its address. -/
theorem RdS.src (D : RowOK P vals sz zero T S Z bytes) {w : World} {ad : Addr} {n cap : Nat} {t : List α} (h : RdS vals sz zero w (.slice (some ad) n cap) t) : SrcS vals w ad t := by
  obtain ⟨a', cap', e, _, _, _, h⟩ := h
  simp only [Value.slice.injEq] at e
  intro j u hu
  have hj := (List.getElem?_eq_some_iff.1 hu).1
  rw [cellsS_len D.len] at hj
  rcases h with h | ⟨b, off, e', _, hc⟩
  · rw [h] at hj; simp at hj
  · have e2 := e.1.trans e'
    injection e2 with e2
    subst e2
    have hm : j % sz < sz := Nat.mod_lt _ D.pos
    have hd : j = j / sz * sz + j % sz := by have := Nat.div_add_mod j sz; rw [Nat.mul_comm] at this; omega
    have hq : j / sz < t.length := (Nat.div_lt_iff_lt_mul D.pos).2 hj
    rw [hd, cellsS_at D.len zero t (j / sz) (j % sz) hq hm] at hu
    have := hc (j / sz) hq (j % sz) u hu
    rw [Addr.add_lit, hd, ← Nat.add_assoc]
    exact this

/-- 'out = append(out, src...)', out nil or of the call's own, src whatever. -/
theorem wpList_append_S (D : RowOK P vals sz zero T S Z bytes) {w : World} {ops : Array Oper} {rest : List Oper} {o : Oper} {a : Act} {Q : Exit → Act → World → Prop}
    (hgd : o.guard = none) (s x : Operand) (ho : o.op = .call { callee := .builtin .append, args := #[s, x], argTypes := #[S, S] })
    (base : Nat) (v : Value) (t : List α) (hs : a.eval s = v) (hown : OwnS vals sz T w base v t)
    (ao : Option Addr) (m c : Nat) (ms : List α) (hx : a.eval x = .slice ao m c) (hm : m = ms.length) (hnone : ao = none → c = 0 ∧ ms = [])
    (hsome : ∀ ad, ao = some ad → SrcS vals w ad ms)
    (hlen : t.length + ms.length < 4294967296) (hbase : base ≤ w.heap.size)
    (h : ∀ v' w', OwnS vals sz T w' base v' (t ++ ms) → Below base w w' → wpList P ops Q rest (a.put o.dst v') w') :
    wpList P ops Q (o :: rest) a w := by
  obtain ⟨i, hi, hz, hsize, hby⟩ := info_parts D.info
  cases ao with
  | none =>
    obtain ⟨rfl, rfl⟩ := hnone rfl
    simp only [List.length_nil] at hm
    subst hm
    exact wpList_append_own_none hgd s x S ho base T i sz D.under hi v t.length (cellsS vals t) hs hown hx (h v w (by simpa using hown) (Below.refl _ _))
  | some ad =>
    subst hm
    have hzl : Z.cells.size = sz := by have := congrArg List.length D.zvals; rwa [Array.length_toList, D.len] at this
    refine wpList_append_own _ hgd s x S ho base T i _ sz bytes D.under hi hz hsize hby hzl D.pos v t.length (cellsS vals t) hs hown ad ms.length c (cellsS vals ms) hx (cellsS_len D.len ms) (hsome ad rfl) (cellsS_single D.one ms)
      (by unfold maxLen; omega) (Nat.le_trans (Nat.mul_le_mul (show t.length + ms.length ≤ 4294967296 by omega) D.fits) (by decide)) hbase ?_
    intro v' w' hown' hgrow _
    refine h v' w' ?_ ((Below.refl base w).grown hgrow hbase (fun k hk => (World.ownsRow.lt hown k hk).1))
    unfold OwnS
    rw [cellsS_append, List.length_append]
    exact hown'

/-- A new block of one element. -/
theorem srcS_new {w : World} {r : α} {cs : Array Value} (hcs : cs.toList = vals r) {e : TypeId} {B : Nat} (hB : B = w.heap.size) : ∀ ad, some (⟨B, 0, none⟩ : Addr) = some ad → SrcS vals (w.alloc (.cells cs e)) ad [r] := by
  intro ad had j u hu
  subst hB
  obtain rfl := Option.some.inj had
  rw [cellsS_one, ← hcs] at hu
  rw [Addr.add_lit, Nat.zero_add, World.cell?_alloc_at _ _ _ _ rfl, ← hu]
  simp

theorem OwnCS.drew {w : World} {base g n cap : Nat} {xs : List Value} (h : OwnCS sz T w base g n cap xs) : OwnCS sz T w.drew base g n cap xs := World.ownsRow.drew h

theorem OwnCS.rows {w : World} {base g cap n : Nat} {t : List α} (h : OwnCS sz T w base g n cap (cellsS vals t)) (hn : n = t.length) : OwnS vals sz T w base (.slice (some ⟨g, 0, none⟩) n cap) t := by
  subst hn
  exact h

/-- Block B holds one element, and nothing else. -/
def LoneS (vals : α → List Value) (T : TypeId) (w : World) (B : Nat) (r : α) : Prop := ∃ cs : Array Value, cs.toList = vals r ∧ w.heap[B]? = some (.cells cs T (0, 0))

theorem LoneS.later {w w' : World} {B : Nat} {r : α} (h : LoneS vals T w B r) (hb : Below w.heap.size w w') : LoneS vals T w' B r := by
  obtain ⟨cs, h1, h2⟩ := h
  exact ⟨cs, h1, (hb.block B (Array.getElem?_eq_some_iff.1 h2).1).trans h2⟩

theorem LoneS.lt {w : World} {B : Nat} {r : α} (h : LoneS vals T w B r) : B < w.heap.size := by
  obtain ⟨cs, h1, h2⟩ := h
  exact (Array.getElem?_eq_some_iff.1 h2).1

theorem LoneS.src {w : World} {B : Nat} {r : α} (h : LoneS vals T w B r) : SrcS vals w ⟨B, 0, none⟩ [r] := by
  obtain ⟨cs, h1, h2⟩ := h
  intro j u hu
  rw [cellsS_one, ← h1] at hu
  rw [Addr.add_lit, Nat.zero_add, cell_of_row w B j _ _ (0, 0) h2, ← hu]
  simp

theorem eqlS_nil_some (D : RowOK P vals sz zero T S Z bytes) (w : World) (x : Addr) (n c : Nat) : (binOp .eql S (.slice (some x) n c) (.slice none 0 0)).run P w = .ok (.bool false) w := by
  rw [Lib.run_eql_slice_nil w _ _ _ _ _ _ _ D.under]
  rfl

theorem eqlS_nil_nil (D : RowOK P vals sz zero T S Z bytes) (w : World) (n c : Nat) : (binOp .eql S (.slice none n c) (.slice none 0 0)).run P w = .ok (.bool true) w := by
  rw [Lib.run_eql_slice_nil w _ _ _ _ _ _ _ D.under]
  rfl

end rows

end Go.Proofs.YtndicdomdndjaaaGreat

end

section

/-
  SMALL WORDS ON WORLDS, for contracts over slices of structs.
-/
namespace Go.Proofs.YtndicdomdndjaaaGreat
open Go.RowKit

theorem below2Z {w a b : World} (h1 : Below w.heap.size w a) (h2 : Below a.heap.size a b) : Below w.heap.size w b := h1.trans (h2.mono h1.size)

theorem bl_allocZ {w a : World} (h : Below w.heap.size w a) (o : Obj) : Below w.heap.size w (a.alloc o) := h.alloc h.size o

theorem bl_newZ (w : World) (o : Obj) : Below w.heap.size w (w.alloc o) := (Below.refl _ _).alloc (Nat.le_refl _) o

theorem cellLaterZ {w w' : World} {a : Addr} {v : Value} (h : w.cell? a = some v) (hb : Below w.heap.size w w') : w'.cell? a = some v :=
  (hb.cell (World.block_lt_of_cell? w _ h)).trans h

/-- A new block's cells. -/
theorem cellsAt_made {w : World} {cs : Array Value} {vs : List Value} (h : cs.toList = vs) (T : TypeId) {B : Nat} (hB : B = w.heap.size) : CellsAt (w.alloc (.cells cs T)) B 0 vs := by
  subst hB
  intro j u hu
  rw [Nat.zero_add, World.cell?_alloc_at _ _ _ _ rfl, ← hu, ← h]
  simp

/-- Free cells of a new block. -/
theorem freeAt_made {w : World} {cs : Array Value} (T : TypeId) : ∀ i, (w.alloc (.cells cs T)).frozen? ⟨w.heap.size, i, none⟩ = false := fun i => by simp

end Go.Proofs.YtndicdomdndjaaaGreat

end

section

/-
  LAYER 17: queues in memory; places.
-/
namespace Go.Proofs.YtndicdomdndjaaaGreat
open Go.RowKit

theorem chgOK : RowOK Tryz.prog chgVals 6 Chg.zero 34 24 (.agg #[.string ⟨#[]⟩, .bool false, .int .i64 0, .int .i64 0, .int .i64 0, .string ⟨#[]⟩]) 64 where
  len _ := rfl
  one a u hu := by
    simp only [chgVals, List.mem_cons, List.not_mem_nil, or_false] at hu
    rcases hu with rfl | rfl | rfl | rfl | rfl | rfl <;> rfl
  pos := by decide
  small := by decide
  under := Tryz.underlying24
  info := Tryz.infoChange
  zvals := rfl
  fits := by decide

theorem Chgs.rdS {w : World} {v : Value} {t : List Chg} (h : Chgs w v t) : RdS chgVals 6 Chg.zero w v t := by
  obtain ⟨a, cap, h1, h2, h3, h4, h5⟩ := h
  refine ⟨a, cap, h1, h2, h3, h4, ?_⟩
  rcases h5 with h5 | ⟨b, off, e, hlt, hc⟩
  · exact .inl h5
  · refine .inr ⟨b, off, e, hlt, fun i hi => ?_⟩
    obtain ⟨c0, c1, c2, c3, c4, c5⟩ := hc i hi
    intro j u hu
    unfold chgVals at hu
    match j, hu with
    | 0, hu => simp only [List.getElem?_cons_zero, Option.some.injEq] at hu; subst hu; exact c0
    | 1, hu => simp only [List.getElem?_cons_succ, List.getElem?_cons_zero, Option.some.injEq] at hu; subst hu; exact c1
    | 2, hu => simp only [List.getElem?_cons_succ, List.getElem?_cons_zero, Option.some.injEq] at hu; subst hu; exact c2
    | 3, hu => simp only [List.getElem?_cons_succ, List.getElem?_cons_zero, Option.some.injEq] at hu; subst hu; exact c3
    | 4, hu => simp only [List.getElem?_cons_succ, List.getElem?_cons_zero, Option.some.injEq] at hu; subst hu; exact c4
    | 5, hu => simp only [List.getElem?_cons_succ, List.getElem?_cons_zero, Option.some.injEq] at hu; subst hu; exact c5
    | j + 6, hu => simp at hu

theorem chgs_of {w : World} {v : Value} {t : List Chg} (h : RdS chgVals 6 Chg.zero w v t) : Chgs w v t := by
  obtain ⟨a, cap, h1, h2, h3, h4, h5⟩ := h
  refine ⟨a, cap, h1, h2, h3, h4, ?_⟩
  rcases h5 with h5 | ⟨b, off, e, hlt, hc⟩
  · exact .inl h5
  · exact .inr ⟨b, off, e, hlt, fun i hi => cells6_of (hc i hi)⟩

/-- A slice of the call's own. -/
abbrev OwnQ (w : World) (base : Nat) (v : Value) (l : List Chg) : Prop := OwnS chgVals 6 34 w base v l
theorem OwnQ.chgs {w : World} {base : Nat} {v : Value} {l : List Chg} (h : OwnQ w base v l) : Chgs w v l := chgs_of (OwnS.rd chgOK h)

def ShortC (l : List Chg) : Prop := ∀ c ∈ l, c.c.length ≤ 4294967296 ∧ c.v.st.length ≤ 4294967296
theorem ShortC.get {l : List Chg} (h : ShortC l) {k : Nat} (hk : k < l.length) : (l.getD k Chg.zero).c.length ≤ 4294967296 ∧ (l.getD k Chg.zero).v.st.length ≤ 4294967296 := by
  rw [List.getD_eq_getElem?_getD, List.getElem?_eq_getElem hk]
  exact h _ (List.getElem_mem hk)

set_option maxHeartbeats 400000 in
theorem contactOf_any (c st : List UInt8) (on : Bool) (a b d : Int) (w : World) :
    Calls Tryz.prog 66 #[.agg #[.string ⟨c.toArray⟩, .bool on, .int .i64 a, .int .i64 b, .int .i64 d, .string ⟨st.toArray⟩]] w fun e w' => e = .returned (.string ⟨c.toArray⟩) ∧ Below w.heap.size w w' := by
  go_enter Tryz.func66, Tryz.ntmps66
  go_wp2_with fail
  go_ret
  exact ⟨rfl, (Below.refl _ _).alloc (Nat.le_refl _) _⟩

set_option maxHeartbeats 1600000 in
set_option maxRecDepth 100000 in
theorem quplace_yes {w : World} {v : Value} {l : List Chg} (hv : Chgs w v l) (key : List UInt8) (hh : quHas l key = true) :
    Calls Tryz.prog 65 #[v, .string ⟨key.toArray⟩, .func (.func 66) #[] #[]] w fun e w' => e = .returned (.tuple #[.int .i64 (quAt l key : Nat), .bool true]) ∧ Below w.heap.size w w' := by
  have HH := Lib.hid hh
  obtain ⟨hlt0, hat0⟩ := quAt_is hh
  have HLT := Lib.hid hlt0
  have HAT : Hid (∀ i, i < quAt l key → ¬ (l.getD i Chg.zero).c = key) := Lib.hid fun i hi => quAt_not hi
  have HIS : Hid ((l.getD (quAt l key) Chg.zero).c = key) := Lib.hid hat0
  clear hlt0 hat0
  obtain ⟨m, hm0⟩ : ∃ m, quAt l key = m := ⟨_, rfl⟩
  rw [hm0] at HLT HAT HIS ⊢
  clear hm0
  have HV := Lib.hid hv
  obtain ⟨ao, cap, rfl, hmx⟩ := hv.open'
  clear hv hh
  go_enter Tryz.func65, Tryz.ntmps65
  go_wp2_with fail
  go_loopw [12] (fun i wr => ∃ k : Nat, k ≤ m ∧ i = .int .i64 k ∧ Hid (Below w.heap.size w wr)) (fun i _ => m - (intOf i).toNat)
  case atStart => exact ⟨0, by omega, rfl, Below.refl _ _⟩
  case round =>
    obtain ⟨k, hk, rfl, HN⟩ := hrel
    have hlt : k < l.length := Nat.lt_of_le_of_lt hk HLT.out
    obtain ⟨b, off, rfl, h0, h1, h2, h3, h4, h5⟩ := HV.out.row HN.out k hlt
    obtain ⟨⟨c, o, ⟨x, y, z, st⟩⟩, hr⟩ : ∃ r, l.getD k Chg.zero = r := ⟨_, rfl⟩
    rw [hr] at h0 h1 h2 h3 h4 h5
    simp only at h0 h1 h2 h3 h4 h5
    by_cases hkm : k = m
    · subst hkm
      have ce : c = key := by have := HIS.out; rw [hr] at this; exact this
      have t1 : (c == key) = true := by rw [beq_iff_eq]; exact ce
      clear ce hr
      go_wp2_with fail
      refine (contactOf_any _ _ _ _ _ _ _).mono ?_
      rintro e w2 ⟨rfl, b2⟩
      have HN2 := Lib.hid ((below2Z HN.out (bl_newZ wr (.cells #[.string ⟨c.toArray⟩, .bool o, .int .i64 x, .int .i64 y, .int .i64 z, .string ⟨st.toArray⟩] 34))).trans (b2.mono (Nat.le_trans HN.out.size (by simp))))
      clear b2
      go_wp2_with fail
      go_ret2
      exact ⟨rfl, HN2.out⟩
    · have hkl : k < m := by omega
      have ce : ¬ c = key := by have := HAT.out k hkl; rw [hr] at this; exact this
      have t1 : (c == key) = false := by rw [beq_eq_false_iff_ne]; exact ce
      clear ce hr
      go_wp2_with fail
      refine (contactOf_any _ _ _ _ _ _ _).mono ?_
      rintro e w2 ⟨rfl, b2⟩
      have HN2 := Lib.hid ((below2Z HN.out (bl_newZ wr (.cells #[.string ⟨c.toArray⟩, .bool o, .int .i64 x, .int .i64 y, .int .i64 z, .string ⟨st.toArray⟩] 34))).trans (b2.mono (Nat.le_trans HN.out.size (by simp))))
      clear b2
      go_wp2_with fail
      go_roundw
      case rel => exact ⟨k + 1, by omega, by go_num, HN2⟩
      case measure => simp [intOf]; omega

set_option maxHeartbeats 1600000 in
set_option maxRecDepth 100000 in
theorem quplace_no {w : World} {v : Value} {l : List Chg} (hv : Chgs w v l) (key : List UInt8) (hh : quHas l key = false) :
    Calls Tryz.prog 65 #[v, .string ⟨key.toArray⟩, .func (.func 66) #[] #[]] w fun e w' => e = .returned (.tuple #[.int .i64 0, .bool false]) ∧ Below w.heap.size w w' := by
  have HH := Lib.hid hh
  have HNO : Hid (∀ i, i < l.length → ¬ (l.getD i Chg.zero).c = key) := Lib.hid fun i hi => by
    rw [List.getD_eq_getElem?_getD, List.getElem?_eq_getElem hi]
    exact quHas_no hh _ (List.getElem_mem hi)
  have HV := Lib.hid hv
  obtain ⟨ao, cap, rfl, hmx⟩ := hv.open'
  clear hv hh
  go_enter Tryz.func65, Tryz.ntmps65
  go_wp2_with fail
  go_loopw [12] (fun i wr => ∃ k : Nat, k ≤ l.length ∧ i = .int .i64 k ∧ Hid (Below w.heap.size w wr)) (fun i _ => l.length - (intOf i).toNat)
  case atStart => exact ⟨0, by omega, rfl, Below.refl _ _⟩
  case round =>
    obtain ⟨k, hk, rfl, HN⟩ := hrel
    by_cases hlt : k < l.length
    · obtain ⟨b, off, rfl, h0, h1, h2, h3, h4, h5⟩ := HV.out.row HN.out k hlt
      obtain ⟨⟨c, o, ⟨x, y, z, st⟩⟩, hr⟩ : ∃ r, l.getD k Chg.zero = r := ⟨_, rfl⟩
      rw [hr] at h0 h1 h2 h3 h4 h5
      simp only at h0 h1 h2 h3 h4 h5
      have ce : ¬ c = key := by have := HNO.out k hlt; rw [hr] at this; exact this
      have t1 : (c == key) = false := by rw [beq_eq_false_iff_ne]; exact ce
      clear ce hr
      go_wp2_with fail
      refine (contactOf_any _ _ _ _ _ _ _).mono ?_
      rintro e w2 ⟨rfl, b2⟩
      have HN2 := Lib.hid ((below2Z HN.out (bl_newZ wr (.cells #[.string ⟨c.toArray⟩, .bool o, .int .i64 x, .int .i64 y, .int .i64 z, .string ⟨st.toArray⟩] 34))).trans (b2.mono (Nat.le_trans HN.out.size (by simp))))
      clear b2
      go_wp2_with fail
      go_roundw
      case rel => exact ⟨k + 1, by omega, by go_num, HN2⟩
      case measure => simp [intOf]; omega
    · obtain rfl : k = l.length := by omega
      go_wp2_with fail
      go_ret2
      exact ⟨rfl, HN.out⟩

set_option maxHeartbeats 1600000 in
set_option maxRecDepth 100000 in
theorem rquplace_yes {w : World} {v : Value} {l : List Chg} (hv : Chgs w v l) (la : Bool) (key : List UInt8) (hh : quHas l key = true) :
    Calls Tryz.prog 64 #[.agg #[v, .bool la], .string ⟨key.toArray⟩] w fun e w' => e = .returned (.int .i64 (quAt l key : Nat)) ∧ Below w.heap.size w w' := by
  have HH := Lib.hid hh
  obtain ⟨hlt0, hat0⟩ := quAt_is hh
  have HLT := Lib.hid hlt0
  have HAT : Hid (∀ i, i < quAt l key → ¬ (l.getD i Chg.zero).c = key) := Lib.hid fun i hi => quAt_not hi
  have HIS : Hid ((l.getD (quAt l key) Chg.zero).c = key) := Lib.hid hat0
  clear hlt0 hat0
  obtain ⟨m, hm0⟩ : ∃ m, quAt l key = m := ⟨_, rfl⟩
  rw [hm0] at HLT HAT HIS ⊢
  clear hm0
  obtain ⟨ao, cap, rfl, hmx⟩ := hv.open'
  have b0 := bl_newZ w (.cells #[.slice ao l.length cap, .bool la] 26)
  have HV := Lib.hid (hv.later b0)
  have HB := Lib.hid b0
  have hq := (MapKept.heap_alloc w (.cells #[.slice ao l.length cap, .bool la] 26)).1
  have HQ := Lib.hid hq
  clear hv hh b0 hq
  go_enter Tryz.func64, Tryz.ntmps64
  go_wp2_with fail
  go_loopw [5] (fun i wr => ∃ k : Nat, k ≤ m ∧ i = .int .i64 k ∧ Hid (Below (w.alloc (.cells #[.slice ao l.length cap, .bool la] 26)).heap.size (w.alloc (.cells #[.slice ao l.length cap, .bool la] 26)) wr)) (fun i _ => m - (intOf i).toNat)
  case atStart => exact ⟨0, by omega, rfl, Below.refl _ _⟩
  case round =>
    obtain ⟨k, hk, rfl, HN⟩ := hrel
    have hlt : k < l.length := Nat.lt_of_le_of_lt hk HLT.out
    obtain ⟨b, off, rfl, h0, h1, h2, h3, h4, h5⟩ := HV.out.row HN.out k hlt
    obtain ⟨q0, q1⟩ : wr.cell? ⟨w.heap.size, 0, none⟩ = some (.slice (some ⟨b, off, none⟩) l.length cap) ∧ wr.cell? ⟨w.heap.size, 1, none⟩ = some (.bool la) := by
      have hx := (HN.out.block w.heap.size (by simp)).trans HQ.out
      exact ⟨cell_of_row wr _ 0 _ _ (0, 0) hx, cell_of_row wr _ 1 _ _ (0, 0) hx⟩
    obtain ⟨⟨c, o, ⟨x, y, z, st⟩⟩, hr⟩ : ∃ r, l.getD k Chg.zero = r := ⟨_, rfl⟩
    rw [hr] at h0 h1 h2 h3 h4 h5
    simp only at h0 h1 h2 h3 h4 h5
    by_cases hkm : k = m
    · subst hkm
      have ce : c = key := by have := HIS.out; rw [hr] at this; exact this
      have t1 : (c == key) = true := by rw [beq_iff_eq]; exact ce
      clear ce hr
      go_wp2_with fail
      go_ret
      exact ⟨rfl, below2Z HB.out HN.out⟩
    · have hkl : k < m := by omega
      have ce : ¬ c = key := by have := HAT.out k hkl; rw [hr] at this; exact this
      have t1 : (c == key) = false := by rw [beq_eq_false_iff_ne]; exact ce
      clear ce hr
      go_wp2_with fail
      go_roundw
      case rel => exact ⟨k + 1, by omega, by go_num, HN⟩
      case measure => simp [intOf]; omega

end Go.Proofs.YtndicdomdndjaaaGreat

end

section

/-
  FOR THE FRAMES OF LAYER 5's PROOFS: tables and changes that came in, opened.
-/
namespace Go.Proofs.YtndicdomdndjaaaGreat
open Go.ChangeShapes Go.WideShapes Go.ChangeAt Go.RowKit Go.Deep

section
variable {H : Type} {enc : TypeId × Value → H} {w : World} {base : Nat} {spare : Nat → Bool} {held : Bool}

theorem trod_int1 {fuel : Nat} {cs : List Value} {x : DataW H × List MemPlace} (h : DataW.trod enc Tryz.prog w base spare held fuel 3 cs = some x) : ∃ z, cs = [.int .i64 z] := by
  obtain ⟨z, e, _, _⟩ := DataW.trod_int Tryz.underlying3 h
  exact ⟨z, e⟩

theorem trod_text {fuel : Nat} {cs : List Value} {x : DataW H × List MemPlace} (h : DataW.trod enc Tryz.prog w base spare held fuel 9 cs = some x) : ∃ l : List UInt8, cs = [.string ⟨l.toArray⟩] ∧ l.length ≤ maxLen := by
  obtain ⟨s, e, _, ws⟩ := DataW.trod_string Tryz.underlying9 h
  exact ⟨s.data.toList, by rw [e], Nat.le_trans (Nat.le_of_eq (Array.length_toList (xs := s.data))) ws⟩

theorem trod_truth {fuel : Nat} {cs : List Value} {x : DataW H × List MemPlace} (h : DataW.trod enc Tryz.prog w base spare held fuel 4 cs = some x) : ∃ b, cs = [.bool b] := by
  obtain ⟨b, e, _⟩ := DataW.trod_bool Tryz.underlying4 h
  exact ⟨b, e⟩

theorem list4 {α : Type} {l : List α} (h : l.length = 4) : ∃ a b c d, l = [a, b, c, d] := by
  match l, h with
  | [a, b, c, d], _ => exact ⟨a, b, c, d, rfl⟩
theorem list5 {α : Type} {l : List α} (h : l.length = 5) : ∃ a b c d e, l = [a, b, c, d, e] := by
  match l, h with
  | [a, b, c, d, e], _ => exact ⟨a, b, c, d, e, rfl⟩
theorem list6 {α : Type} {l : List α} (h : l.length = 6) : ∃ a b c d e f, l = [a, b, c, d, e, f] := by
  match l, h with
  | [a, b, c, d, e, f], _ => exact ⟨a, b, c, d, e, f, rfl⟩

set_option maxRecDepth 100000 in
/-- A value's cells. -/
theorem trod_value {fuel : Nat} {cs : List Value} {x : DataW H × List MemPlace} (h : DataW.trod enc Tryz.prog w base spare held fuel 32 cs = some x) :
    ∃ v : Val, cs = [.int .i64 v.sh, .int .i64 v.pr, .int .i64 v.si, .string ⟨v.st.toArray⟩] ∧ v.st.length ≤ maxLen := by
  obtain ⟨xs, n, _, _, hl, hx, hf⟩ := DataW.trod_struct Tryz.underlying32 h
  have c35 : Tryz.prog.cellsOf 32 = 4 := by kernel_rfl
  have c3 : Tryz.prog.cellsOf 3 = 1 := by kernel_rfl
  have c9 : Tryz.prog.cellsOf 9 = 1 := by kernel_rfl
  rw [c35] at hl
  obtain ⟨a, b, c, d, rfl⟩ := list4 hl
  have get : ∀ i, i < 4 → xs[i]? = some (xs.getD i (.nil, [])) := fun i hi => by
    have : i < xs.length := by rw [hx]; exact hi
    simp [List.getD, List.getElem?_eq_getElem this]
  have f0 : DataW.trod enc Tryz.prog w base spare held n 3 (([a, b, c, d].drop 0).take (Tryz.prog.cellsOf 3)) = some (xs.getD 0 (.nil, [])) := (hf 0 _ rfl).trans (get 0 (by omega))
  have f1 : DataW.trod enc Tryz.prog w base spare held n 3 (([a, b, c, d].drop 1).take (Tryz.prog.cellsOf 3)) = some (xs.getD 1 (.nil, [])) := (hf 1 _ rfl).trans (get 1 (by omega))
  have f2 : DataW.trod enc Tryz.prog w base spare held n 3 (([a, b, c, d].drop 2).take (Tryz.prog.cellsOf 3)) = some (xs.getD 2 (.nil, [])) := (hf 2 _ rfl).trans (get 2 (by omega))
  have f3 : DataW.trod enc Tryz.prog w base spare held n 9 (([a, b, c, d].drop 3).take (Tryz.prog.cellsOf 9)) = some (xs.getD 3 (.nil, [])) := (hf 3 _ rfl).trans (get 3 (by omega))
  rw [c3] at f0 f1 f2
  rw [c9] at f3
  obtain ⟨z0, e0⟩ := trod_int1 f0
  obtain ⟨z1, e1⟩ := trod_int1 f1
  obtain ⟨z2, e2⟩ := trod_int1 f2
  obtain ⟨l, e3, w3⟩ := trod_text f3
  simp at e0 e1 e2 e3
  subst e0 e1 e2 e3
  exact ⟨⟨z0, z1, z2, l⟩, rfl, w3⟩

set_option maxRecDepth 100000 in
/-- A row's cells. -/
theorem trod_row {fuel : Nat} {cs : List Value} {x : DataW H × List MemPlace} (h : DataW.trod enc Tryz.prog w base spare held fuel 67 cs = some x) :
    ∃ r : Row, cs = rowVals r ∧ r.c.length ≤ maxLen ∧ r.v.st.length ≤ maxLen := by
  obtain ⟨xs, n, _, _, hl, hx, hf⟩ := DataW.trod_struct Tryz.underlying67 h
  have c48 : Tryz.prog.cellsOf 67 = 5 := by kernel_rfl
  have c35 : Tryz.prog.cellsOf 32 = 4 := by kernel_rfl
  have c9 : Tryz.prog.cellsOf 9 = 1 := by kernel_rfl
  rw [c48] at hl
  obtain ⟨a, b, c, d, e, rfl⟩ := list5 hl
  have get : ∀ i, i < 2 → xs[i]? = some (xs.getD i (.nil, [])) := fun i hi => by
    have : i < xs.length := by rw [hx]; exact hi
    simp [List.getD, List.getElem?_eq_getElem this]
  have f0 : DataW.trod enc Tryz.prog w base spare held n 9 (([a, b, c, d, e].drop 0).take (Tryz.prog.cellsOf 9)) = some (xs.getD 0 (.nil, [])) := (hf 0 _ rfl).trans (get 0 (by omega))
  have f1 : DataW.trod enc Tryz.prog w base spare held n 32 (([a, b, c, d, e].drop 1).take (Tryz.prog.cellsOf 32)) = some (xs.getD 1 (.nil, [])) := (hf 1 _ rfl).trans (get 1 (by omega))
  rw [c9] at f0
  rw [c35] at f1
  obtain ⟨l, e0, w0⟩ := trod_text f0
  obtain ⟨v, e1, w1⟩ := trod_value f1
  simp at e0 e1
  obtain ⟨e1, e2, e3, e4⟩ := e1
  subst e0 e1 e2 e3 e4
  exact ⟨⟨l, v⟩, rfl, w0, w1⟩

set_option maxRecDepth 100000 in
/-- A change's cells. -/
theorem trod_chg {fuel : Nat} {cs : List Value} {x : DataW H × List MemPlace} (h : DataW.trod enc Tryz.prog w base spare held fuel 34 cs = some x) :
    ∃ c : Chg, cs = [.string ⟨c.c.toArray⟩, .bool c.on, .int .i64 c.v.sh, .int .i64 c.v.pr, .int .i64 c.v.si, .string ⟨c.v.st.toArray⟩] ∧ c.c.length ≤ maxLen ∧ c.v.st.length ≤ maxLen := by
  obtain ⟨xs, n, _, _, hl, hx, hf⟩ := DataW.trod_struct Tryz.underlying34 h
  have c37 : Tryz.prog.cellsOf 34 = 6 := by kernel_rfl
  have c35 : Tryz.prog.cellsOf 32 = 4 := by kernel_rfl
  have c9 : Tryz.prog.cellsOf 9 = 1 := by kernel_rfl
  have c4 : Tryz.prog.cellsOf 4 = 1 := by kernel_rfl
  rw [c37] at hl
  obtain ⟨a, b, c, d, e, f, rfl⟩ := list6 hl
  have get : ∀ i, i < 3 → xs[i]? = some (xs.getD i (.nil, [])) := fun i hi => by
    have : i < xs.length := by rw [hx]; exact hi
    simp [List.getD, List.getElem?_eq_getElem this]
  have f0 : DataW.trod enc Tryz.prog w base spare held n 9 (([a, b, c, d, e, f].drop 0).take (Tryz.prog.cellsOf 9)) = some (xs.getD 0 (.nil, [])) := (hf 0 _ rfl).trans (get 0 (by omega))
  have f1 : DataW.trod enc Tryz.prog w base spare held n 4 (([a, b, c, d, e, f].drop 1).take (Tryz.prog.cellsOf 4)) = some (xs.getD 1 (.nil, [])) := (hf 1 _ rfl).trans (get 1 (by omega))
  have f2 : DataW.trod enc Tryz.prog w base spare held n 32 (([a, b, c, d, e, f].drop 2).take (Tryz.prog.cellsOf 32)) = some (xs.getD 2 (.nil, [])) := (hf 2 _ rfl).trans (get 2 (by omega))
  rw [c9] at f0
  rw [c4] at f1
  rw [c35] at f2
  obtain ⟨l, e0, w0⟩ := trod_text f0
  obtain ⟨o, e5⟩ := trod_truth f1
  obtain ⟨v, e1, w1⟩ := trod_value f2
  simp at e0 e1 e5
  obtain ⟨e1, e2, e3, e4⟩ := e1
  subst e0 e1 e2 e3 e4 e5
  exact ⟨⟨l, o, v⟩, rfl, w0, w1⟩

theorem choose_rows {n : Nat} {Q : Nat → Row → Prop} (h : ∀ i, i < n → ∃ r, Q i r) : ∃ t : List Row, t.length = n ∧ ∀ i, i < n → Q i (t.getD i Row.zero) := by
  induction n with
  | zero => exact ⟨[], rfl, fun i hi => absurd hi (by omega)⟩
  | succ n ih =>
    obtain ⟨t, hl, ht⟩ := ih fun i hi => h i (by omega)
    obtain ⟨r, hr⟩ := h n (by omega)
    refine ⟨t ++ [r], by simp [hl], fun i hi => ?_⟩
    by_cases hin : i < n
    · have := ht i hin
      simp only [List.getD] at this ⊢
      rwa [List.getElem?_append_left (by omega)]
    · obtain rfl : i = n := by omega
      simp only [List.getD]
      rw [List.getElem?_append_right (by omega), hl]
      simpa using hr

end

end Go.Proofs.YtndicdomdndjaaaGreat

end

section

/-
  FOR THE FRAMES: a slice of structs that came in, opened; over any program.
-/
namespace Go.Proofs.YtndicdomdndjaaaGreat
open Go.ChangeShapes Go.WideShapes Go.ChangeAt Go.RowKit Go.Deep

theorem choose_S {α : Type} (zero : α) {n : Nat} {Q : Nat → α → Prop} (h : ∀ i, i < n → ∃ r, Q i r) : ∃ t : List α, t.length = n ∧ ∀ i, i < n → Q i (t.getD i zero) := by
  induction n with
  | zero => exact ⟨[], rfl, fun i hi => absurd hi (by omega)⟩
  | succ n ih =>
    obtain ⟨t, hl, ht⟩ := ih fun i hi => h i (by omega)
    obtain ⟨r, hr⟩ := h n (by omega)
    refine ⟨t ++ [r], by simp [hl], fun i hi => ?_⟩
    by_cases hin : i < n
    · have := ht i hin
      simp only [List.getD] at this ⊢
      rwa [List.getElem?_append_left (by omega)]
    · obtain rfl : i = n := by omega
      simp only [List.getD]
      rw [List.getElem?_append_right (by omega), hl]
      simpa using hr

end Go.Proofs.YtndicdomdndjaaaGreat

end

section

/-
  LAYER 17: queues and changes that come in.
-/
namespace Go.Proofs.YtndicdomdndjaaaGreat
open Go.ChangeShapes Go.WideShapes Go.ChangeAt Go.RowKit Go.Deep

section
variable {H : Type} {enc : TypeId × Value → H} {w : World} {base : Nat} {spare : Nat → Bool} {held : Bool}

def cFit (c : Chg) : Prop := c.c.length ≤ maxLen ∧ c.v.st.length ≤ maxLen

theorem trod_chgQ (fuel : Nat) (cs : List Value) (x : DataW H × List MemPlace) (h : DataW.trod enc Tryz.prog w base spare held fuel 34 cs = some x) : ∃ c : Chg, cs = chgVals c ∧ cFit c := by
  obtain ⟨c, hc, w1, w2⟩ := trod_chg h
  exact ⟨c, hc, w1, w2⟩

theorem rdS_trodQ {fuel : Nat} {cs : List Value} {z : DataW H × List MemPlace} (hf : DataW.trod enc Tryz.prog w base spare held fuel 24 cs = some z) :
    ∃ v, cs = [v] ∧ ∃ t : List Chg, Chgs w v t := by
  rcases open_slice Tryz.underlying24 hf with ⟨hcs, _⟩ | ⟨x, len, cap, m, n, D', Pl, hcs, _, hl, hm, hmm, _, hi⟩
  · exact ⟨_, hcs, [], chgs_nil w⟩
  · refine ⟨_, hcs, ?_⟩
    have hlm : len ≤ m := by rw [hmm]; split <;> omega
    rw [show Tryz.prog.cellsOf 34 = 6 from by kernel_rfl] at hi
    obtain ⟨t, htl, ht⟩ := choose_S Chg.zero (n := len) (Q := fun i r => ∀ j u, (chgVals r)[j]? = some u → w.cell? ((x.add (i * 6)).add j) = some u) (fun i hil => by
      obtain ⟨cs', hc, htr⟩ := hi i (by omega)
      obtain ⟨_, hcl, hat⟩ := World.cells?_some hc
      obtain ⟨r, rfl, _⟩ := trod_chgQ _ _ _ htr
      refine ⟨r, fun j u hu => ?_⟩
      have hj : j < 6 := by have := (List.getElem?_eq_some_iff.1 hu).1; rwa [chgVals_len] at this
      rw [hat j hj, hu])
    refine ⟨t, chgs_of ⟨some x, cap, by rw [htl], by omega, by omega, (fun e => by cases e), ?_⟩⟩
    by_cases h0 : len = 0
    · exact .inl (List.length_eq_zero_iff.1 (by omega))
    · obtain ⟨b, off, spot⟩ := x
      have hc := ht 0 (by omega) 0 _ rfl
      have hspot : spot = none := by simpa [Addr.add] using World.cell?_spot hc
      subst hspot
      refine .inr ⟨b, off, rfl, ?_, fun i hil => fun j u hu => ?_⟩
      · have := World.block_lt_of_cell? w _ hc
        simpa [Addr.add] using this
      · have := ht i (by omega) j u hu
        rwa [Addr.add_lit, Addr.add_lit] at this

def chg2Agg (a b : Chg) : Value := .agg #[.string ⟨a.c.toArray⟩, .bool a.on, .int .i64 a.v.sh, .int .i64 a.v.pr, .int .i64 a.v.si, .string ⟨a.v.st.toArray⟩, .string ⟨b.c.toArray⟩, .bool b.on, .int .i64 b.v.sh, .int .i64 b.v.pr, .int .i64 b.v.si, .string ⟨b.v.st.toArray⟩]

end

end Go.Proofs.YtndicdomdndjaaaGreat

end
