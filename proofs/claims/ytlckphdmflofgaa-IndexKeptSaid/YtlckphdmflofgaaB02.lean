/-
  TEXTS OF THE PROOF, one behind the other: IxRem, IxCode, IxNew, HeaBet, HeaLay, HeaSwap, HeaBest, HeaRise, HeaFind, HeaPut, HeaDrop, HeaAbs, HeaEq, HeaRef, HeaRput, IxAdd, IxSet, IxForg, VarPut, VarGet, VarRget, VarTake, Shelf.
-/
import Derived.Test.YtlckphdmflofgaaB01
import Derived.WalkKit
import Derived.WalkMore
import Derived.Lib.Hide
import Derived.Deep.AppendLies
import Derived.Laws.StructEq
import Derived.Test.YtlckphdmflofgaaRows
import Derived.Deep.DeepMust
import Derived.Shelf.Strings.Builder1
import Derived.Shelf.Small.Bits
import Derived.Shelf.Small.Strs
import Derived.Shelf.Small.Wraps
import Derived.Shelf.Strings.BuilderF
import Derived.Shelf.Strings.BuilderK
import Derived.Shelf.Strings.BuilderRune
import Derived.Shelf.Slices.CompactS
import Derived.Shelf.SlicesE.Compact
import Derived.Shelf.SlSortCmp.Insertion
import Derived.Shelf.SlSortCmp.SiftDown1
import Derived.Shelf.SlSortCmp.HeapSort1
import Derived.Shelf.SlSortCmp.Insertion1
import Derived.Shelf.SlSortCmp.Median1
import Derived.Shelf.SlSortCmp.Pivot1
import Derived.Shelf.SlSortCmp.ReverseRange1
import Derived.Shelf.SlSortCmp.PartialInsertion1
import Derived.Shelf.SlSortCmp.PartitionEqual1
import Derived.Shelf.SlSortCmp.Partition1
import Derived.Shelf.SlSortCmp.Pdq1
import Derived.Shelf.SlSortCmp.Whole1
import Derived.Shelf.SlSortCmp.NoneTotal

section
/-
  LAYER 13, THE CODE: a pair taken off.
-/
namespace Go.Proofs.Ytlckphdmflofgaa
open Go.RowKit Go.ChangeMaps Go.MapKept

/-- What the last pair of a list is, where one is taken off. -/
structure RemOK (x : Ix) (s : Bool) (p z : Pr) (m : List Pr) (t : Nat × Nat) : Prop where
  list : x.S s (pcOf s p) = m ++ [z]
  last : (x.S s (pcOf s p)).getLastD p = z
  same : pcOf s z = pcOf s p
  some : (x.P z).isSome = true
  at' : plOf s t < m.length + 1
  few : m.length + 1 ≤ 1000
  short : z.1.length ≤ 60 ∧ z.2.length ≤ 60

theorem side_lenS {x : Ix} {s : Bool} {L : List Pr} (h : IxSide x s L) (u : List UInt8) : (x.S s u).length ≤ L.length :=
  nodup_le (h.nd u) fun p hp => ((h.mem u p).1 hp).1

theorem remOK_of {x : Ix} {s : Bool} {L : List Pr} {p : Pr} {t : Nat × Nat} (h : IxSide x s L) (hp : p ∈ L) (ht : x.P p = some t) (hl : L.length ≤ 1000) (hs : ∀ p ∈ L, p.1.length ≤ 60 ∧ p.2.length ≤ 60) : ∃ m z, RemOK x s p z m t := by
  obtain ⟨m, z, e1, e2, hz, hzu⟩ := last_of h hp
  have hlen := side_lenS h (pcOf s p)
  rw [e1] at hlen
  simp at hlen
  refine ⟨m, z, e1, e2, hzu, ?_, ?_, by omega, hs z hz⟩
  · obtain ⟨v, a, -⟩ := h.at' z hz
    rw [a]; rfl
  · obtain ⟨t2, a, b⟩ := h.at' p hp
    rw [ht] at a
    cases a
    rw [e1] at b
    obtain ⟨c, -⟩ := List.getElem?_eq_some_iff.1 b
    simpa using c

theorem remOK_first {x : Ix} {L : List Pr} {p : Pr} {t : Nat × Nat} (h : IxHas x L) (hp : p ∈ L) (ht : x.P p = some t) (hl : L.length ≤ 1000) (hs : ∀ p ∈ L, p.1.length ≤ 60 ∧ p.2.length ≤ 60) : ∃ m z, RemOK x false p z m t := remOK_of (h.side false) hp ht hl hs

theorem remOK_then {x : Ix} {L : List Pr} {p : Pr} {t : Nat × Nat} (h : IxHas x L) (hp : p ∈ L) (ht : x.P p = some t) (hl : L.length ≤ 1000) (hs : ∀ p ∈ L, p.1.length ≤ 60 ∧ p.2.length ≤ 60) : ∃ m z, RemOK (x.remS false t.1 p) true p z m t := by
  obtain ⟨-, -, B, -⟩ := remS_this (h.side false) hp ht
  obtain ⟨m0, z0, -, e0, -, u0⟩ := last_of (h.side false) hp
  have D := remS_other (k := t.1) (h.side true) (by decide : true ≠ false) (by rw [e0]; exact u0)
  exact remOK_of D hp B hl hs

theorem remove_some {x : Ix} {p : Pr} {t : Nat × Nat} (ht : x.P p = some t) : x.remove p = ((x.remS false t.1 p).remS true t.2 p).del p := by
  unfold Ix.remove
  rw [ht]
  rfl

theorem rem_P {x : Ix} {L : List Pr} {p : Pr} {t : Nat × Nat} (h : IxHas x L) (hp : p ∈ L) (ht : x.P p = some t) : ((x.remS false t.1 p).remS true t.2 p).P p = some t := by
  obtain ⟨A, -, B, -⟩ := remS_this (h.side false) hp ht
  obtain ⟨m0, z0, -, e0, -, u0⟩ := last_of (h.side false) hp
  have D := remS_other (k := t.1) (h.side true) (by decide : true ≠ false) (by rw [e0]; exact u0)
  exact (remS_this D hp B).2.2.1

theorem rem_len {L : List Pr} {p : Pr} (hn : L.Nodup) (hp : p ∈ L) : L.length - 1 = (L.filter (· ≠ p)).length := by
  have := (forget_step (L0 := L) (u := p.1) (s := false) hn hp rfl (L := L) rfl).2
  omega

theorem lay_end {w : World} {base xb N n : Nat} {x : Ix} {mp m0 m1 : Nat} {f : Bool → List UInt8 → Option IxSl} {s : Bool} {k : Nat} {p : Pr} (h : IxRaw w base xb N n (x.lay s k p) mp m0 m1 f) {u : List UInt8} {sg sn sc : Nat} (ha : f s u = some ⟨sg, sn, sc⟩) {m : List Pr} (hl : x.S s u = m ++ [p]) {ml : Nat} (hm : m.length = ml) (hu : pcOf s p = u) :
    w.cell? ⟨sg, ml * 2, none⟩ = some (.string ⟨p.1.toArray⟩) ∧ w.cell? ⟨sg, ml * 2 + 1, none⟩ = some (.string ⟨p.2.toArray⟩) := by
  obtain ⟨-, -, -, -, -, q6, -⟩ := h.row ha
  have e : (x.lay s k p).S s u = (m ++ [p]).set k p := by
    show (if s = s ∧ u = pcOf s p then (x.S s u).set k p else x.S s u) = _
    rw [if_pos ⟨rfl, hu.symm⟩, hl]
  rw [e] at q6
  have hlt : ml < ((m ++ [p]).set k p).length := by rw [List.length_set, List.length_append, hm]; simp
  have g : ((m ++ [p]).set k p).getD ml ([], []) = p := by
    rw [List.getD_eq_getElem?_getD, List.getElem?_set]
    by_cases hk : k = ml
    · rw [if_pos hk, if_pos (by rw [List.length_set] at hlt; omega)]
      rfl
    · rw [if_neg hk, ← hm]
      simp
  have s0 := q6.row prOK hlt 0 _ rfl
  have s1 := q6.row prOK hlt 1 _ rfl
  simp only [Nat.add_zero, g] at s0 s1
  exact ⟨s0, s1⟩

theorem idx2a (w : World) (a b : List UInt8) : (Instr.index 57 (.agg #[.string ⟨a.toArray⟩, .string ⟨b.toArray⟩]) (.int .i64 0)).run Try.prog w = .ok (.string ⟨a.toArray⟩) w := by kernel_rfl
theorem idx2b (w : World) (a b : List UInt8) : (Instr.index 57 (.agg #[.string ⟨a.toArray⟩, .string ⟨b.toArray⟩]) (.int .i64 1)).run Try.prog w = .ok (.string ⟨b.toArray⟩) w := by kernel_rfl

/-- The Index behind k of both sides. -/
def remN (x : Ix) (t1 t2 : Nat) (p : Pr) : Nat → Ix
  | 0 => x
  | 1 => x.remS false t1 p
  | _ => (x.remS false t1 p).remS true t2 p

set_option maxHeartbeats 3200000 in
set_option maxRecDepth 100000 in
theorem ixremove_any {w : World} {base xb N : Nat} {L : List Pr} {x : Ix} {mp m0 m1 : Nat} {f : Bool → List UInt8 → Option IxSl} (h : IxAt w base xb N L x mp m0 m1 f) (hN : N ≤ 99990) (a b : List UInt8) (hp : (a, b) ∈ L) (hl : L.length ≤ 1000) :
    Calls Try.prog 30 #[.pointer (some ⟨xb, 0, none⟩), .agg #[.string ⟨a.toArray⟩, .string ⟨b.toArray⟩]] w fun e w' =>
      ∃ x' f', e = .returned (.tuple #[]) ∧ IxAt w' base xb (N + 4) (L.filter (· ≠ (a, b))) x' mp m0 m1 f' ∧ Below base w w' ∧ Turned w w' (IxFoot xb mp m0 m1 f) (IxFoot xb mp m0 m1 f') := by
  obtain ⟨ha, hb⟩ := h.short _ hp
  obtain ⟨⟨t1, t2⟩, htp, -⟩ := (h.has.side false).at' _ hp
  have K0 := Lib.hid (remOK_first h.has hp htp hl h.short)
  have K1 := Lib.hid (remOK_then h.has hp htp hl h.short)
  have HA := Lib.hid h
  have HP := Lib.hid hp
  have HT := Lib.hid htp
  have h0 := h.raw
  have hxl := h0.lt
  have hbw : base ≤ w.heap.size := Nat.le_trans h0.low.1 (Nat.le_of_lt h0.lt)
  have hb1 := bl_newZ w (.cells #[.string ⟨a.toArray⟩, .string ⟨b.toArray⟩] 57)
  have H1 := Lib.hid (h0.later hb1)
  have hx := (MapKept.heap_alloc w (.cells #[.string ⟨a.toArray⟩, .string ⟨b.toArray⟩] 57)).1
  have HB1 := Lib.hid hb1
  have HF := Lib.hid (h0.far (Nat.le_refl _))
  have i0 := fun w => idx2a w a b
  have i1 := fun w => idx2b w a b
  clear h h0 hp htp hb1
  go_enter Try.func30, Try.ntmps30
  go_wp2_with fail
  generalize hpb : w.heap.size = pb at hx hxl HF ⊢
  generalize w.alloc (.cells #[.string ⟨a.toArray⟩, .string ⟨b.toArray⟩] 57) = w1 at H1 hx HB1 ⊢
  have hp1 : pb < w1.heap.size := (Array.getElem?_eq_some_iff.1 hx).1
  have hS : Hid (∀ X, Below w1.heap.size w1 X → X.cell? ⟨xb, 0, none⟩ = some (.map (some mp)) ∧ X.cell? ⟨pb, 0, none⟩ = some (.string ⟨a.toArray⟩) ∧ X.cell? ⟨pb, 1, none⟩ = some (.string ⟨b.toArray⟩) ∧ (Instr.lookup 51 (.map (some mp)) (.agg #[.string ⟨a.toArray⟩, .string ⟨b.toArray⟩]) false).run Try.prog X = .ok (.agg #[.int .i64 t1, .int .i64 t2]) X) := by
    show ∀ _, _
    intro X hX
    have h2 := H1.out.later hX
    have e := (hX.block pb hp1).trans hx
    have hlk := h2.pairs.look (a, b) ⟨by simp; omega, by simp; omega⟩
    rw [HT.out] at hlk
    exact ⟨h2.cells.1, by simp [World.cell?, e], by simp [World.cell?, e], hlk⟩
  go_region_held (fun X => X.cell? ⟨xb, 0, none⟩ = some (.map (some mp)) ∧ X.cell? ⟨pb, 0, none⟩ = some (.string ⟨a.toArray⟩) ∧ X.cell? ⟨pb, 1, none⟩ = some (.string ⟨b.toArray⟩) ∧ (Instr.lookup 51 (.map (some mp)) (.agg #[.string ⟨a.toArray⟩, .string ⟨b.toArray⟩]) false).run Try.prog X = .ok (.agg #[.int .i64 t1, .int .i64 t2]) X) ((refine hS.out _ ?_; repeat (first | exact Below.refl _ _ | refine Below.drew ?_ | refine Below.alloc ?_ (by first | (simp; done) | (simp; omega) | omega) _ | refine Below.setCell ?_ (by first | (simp; done) | (simp; omega) | omega) _))) (fail)
  all_goals
    have hb3 : Below w1.heap.size w1 ((w1.alloc (.cells #[.int .i64 t1, .int .i64 t2] 59)).drew) := (bl_newZ w1 _).drew
    have hx3 : ((w1.alloc (.cells #[.int .i64 t1, .int .i64 t2] 59)).drew).heap[w1.heap.size]? = some (.cells #[.int .i64 t1, .int .i64 t2] 59 (0, 0)) := (MapKept.heap_alloc w1 _).1
    have hB3 := Lib.hid hb3
    have hxp := Lib.hid ((hb3.block pb hp1).trans hx)
    have H3 := Lib.hid (H1.out.later hb3)
    have hqf := Lib.hid (H1.out.far (Nat.le_refl _))
    have hpf := HF
    have hne5 : ¬ pb = w1.heap.size := by omega
    clear hb3 hp1 hx hS HF
    generalize (w1.alloc (.cells #[.int .i64 t1, .int .i64 t2] 59)).drew = w3 at hx3 hB3 hxp H3 ⊢
    have hqw : w1.heap.size < w3.heap.size := (Array.getElem?_eq_some_iff.1 hx3).1
    have hpw : pb < w3.heap.size := (Array.getElem?_eq_some_iff.1 hxp.out).1
    have HB3 : Hid (Below base w w3) := (HB1.out.mono hbw).trans (hB3.out.mono (Nat.le_trans hbw HB1.out.size))
    have HT3 := Lib.hid ((turned_below (F := IxFoot xb mp m0 m1 f) HB1.out).trans (turned_below hB3.out))
    have hxq := Lib.hid hx3
    clear HB1 hB3 H1 hx3
    generalize w1.heap.size = qb at hqf hne5 hxq hqw ⊢
    have z0 : w3.cell? ⟨pb, 0, none⟩ = some (.string ⟨a.toArray⟩) := by simp [World.cell?, hxp.out]
    have z1 : w3.cell? ⟨pb, 1, none⟩ = some (.string ⟨b.toArray⟩) := by simp [World.cell?, hxp.out]
    go_wp2_with fail
    clear z0 z1
    go_loopw [15] (fun i wr => ∃ k : Nat, k ≤ 2 ∧ i = .int .i64 k ∧ Hid (∃ f', IxRaw wr base xb (N + 2 * k) L.length (remN x t1 t2 (a, b) k) mp m0 m1 f' ∧ Below base w3 wr ∧ Turned w3 wr (IxFoot xb mp m0 m1 f) (IxFoot xb mp m0 m1 f'))) (fun i _ => 2 - (intOf i).toNat)
    case atStart => exact ⟨0, by omega, rfl, f, H3.out, Below.refl _ _, turned_below (Below.refl _ _)⟩
    case round =>
      obtain ⟨k, hk, rfl, HR⟩ := hrel
      rcases (show k = 0 ∨ k = 1 ∨ k = 2 by omega) with rfl | rfl | rfl
      · skip
        obtain ⟨f1, R1, R2, R3⟩ := HR.out
        have R1 : IxRaw wr base xb (N + 0) L.length x mp m0 m1 f1 := R1
        obtain ⟨mm, z, K⟩ := K0.out
        have hpb := (R3.2.1 pb hpw hpf.out).trans hxp.out
        have hqb := (R3.2.1 qb hqw hqf.out).trans hxq.out
        have hqn : ¬ IxFoot xb mp m0 m1 f1 qb := fun e => (R3.2.2 qb e).elim hqf.out (fun e => by omega)
        obtain ⟨z1, z2⟩ := z
        obtain rfl : a = z1 := K.same.symm
        have hKl : x.S false a = mm ++ [(a, z2)] := K.list
        have hKt : t1 < mm.length + 1 := K.at'
        obtain ⟨sl, hsl⟩ : ∃ sl, f1 false a = some sl := by
          cases e : f1 false a with
          | some sl => exact ⟨sl, rfl⟩
          | none =>
            have := (R1.nil false a).1 e
            rw [this] at hKl
            simp at hKl
        obtain ⟨c0, c1, c2⟩ := R1.cells
        obtain ⟨q1, q2, q3, q4, q5, q6, -⟩ := R1.row hsl
        rw [q1, hKl] at q4 q6
        obtain ⟨sg, sn, sc⟩ := sl
        simp only at q1 q2 q3 q4 q5 q6
        rw [hKl] at q1
        obtain ⟨ml, hml⟩ : ∃ ml, mm.length = ml := ⟨_, rfl⟩
        have hlen : (mm ++ [(a, z2)]).length = ml + 1 := by simp [hml]
        rw [hlen] at q1 q4 q6
        subst q1
        have hlook := (R1.side false).look a (by omega)
        rw [hsl] at hlook
        simp only [ixslV, sdOf, Bool.false_eq_true, if_false] at hlook
        have gz : (mm ++ [(a, z2)]).getD ml ([], []) = (a, z2) := by rw [← hml]; simp
        have s0 := q6.row prOK (k := ml) (by rw [hlen]; omega) 0 _ rfl
        have s1 := q6.row prOK (k := ml) (by rw [hlen]; omega) 1 _ rfl
        simp only [Nat.add_zero, gz] at s0 s1
        have hcm : sc ≤ 9223372036854775807 := by unfold maxLen at q5; omega
        have hfew := K.few
        rw [hml] at hfew hKt
        have hw : IntKind.i64.wrap ((ml : Int) + 1 - 1) = ml := by rw [Int.add_sub_cancel]; exact IntWalk.i64_in _ (by omega)
        have hw2 : IntKind.i64.wrap (((ml + 1 : Nat) : Int) - 1) = ml  := by rw [show (((ml + 1 : Nat) : Int) - 1) = ml by omega]; exact IntWalk.i64_in _ (by omega)
        have hw3 : IntKind.i64.wrap (ml : Int) = ml := IntWalk.i64_in _ (by omega)
        have t0 : (0 : Int) ≤ (ml : Int) := by omega
        have t1y : (ml : Int) < ((ml + 1 : Nat) : Int) := by omega
        have t1x : (ml : Int) < (ml : Int) + 1 := by omega
        have d1 : wr.cell? ⟨qb, 0, none⟩ = some (.int .i64 t1) := by simp [World.cell?, hqb]
        have hqlt : qb < wr.heap.size := (Array.getElem?_eq_some_iff.1 hqb).1
        have HD := Lib.hid (show IxRaw wr.drew base xb (N + 0) L.length x mp m0 m1 f1 from R1.stay (fun _ _ => rfl))
        have HR2 := Lib.hid R2
        have HR3 := Lib.hid R3
        have HSL := Lib.hid hsl
        have HKL := Lib.hid hKl
        have HQN := Lib.hid hqn
        have HML := Lib.hid hml
        have HLE := Lib.hid hlen
        have hKt2 : t1 < (x.S false a).length := by rw [hKl, hlen]; exact hKt
        clear R1 R2 R3 q6 hpb hsl hKl hqn hml hlen gz HR
        go_wp2_with fail
        go_region_held (fun X => X.cell? ⟨qb, 0, none⟩ = some (.int .i64 t1) ∧ X.cell? ⟨sg, ml * 2, none⟩ = some (.string ⟨a.toArray⟩) ∧ X.cell? ⟨sg, ml * 2 + 1, none⟩ = some (.string ⟨z2.toArray⟩)) ((first | exact ⟨d1, s0, s1⟩ | exact ⟨j1, j2, j3⟩)) ((go_at_call 49; refine (ixlay_w HD.out (by omega) a z2 ha (K.short).2 (k := t1) hKt2).mono ?_; rintro e w5 ⟨rfl, Y1, Y2, Y3⟩; have j1 : w5.cell? ⟨qb, 0, none⟩ = some (.int .i64 t1) := (World.cell?_of_block (Y3.2.1 qb hqlt HQN.out)).trans d1; have jj := lay_end (p := (a, z2)) Y1 HSL.out HKL.out HML.out rfl; have j2 : w5.cell? ⟨sg, ml * 2, none⟩ = some (.string ⟨a.toArray⟩) := jj.1; have j3 : w5.cell? ⟨sg, ml * 2 + 1, none⟩ = some (.string ⟨z2.toArray⟩) := jj.2))
        have Y4 : Hid (IxRaw w5 base xb (N + 1) L.length (x.lay false t1 (a, z2)) mp m0 m1 f1) := by
          have := Y1
          rw [if_pos K.some] at this
          exact this
        have Y5 := Lib.hid Y2
        have Y6 := Lib.hid Y3
        have YL : Hid (((x.lay false t1 (a, z2)).S false a).length = ml + 1) := by
          show _ = _
          show (if false = false ∧ a = a then (x.S false a).set t1 (a, z2) else _).length = _
          rw [if_pos ⟨rfl, rfl⟩, List.length_set, HKL.out, HLE.out]
        clear Y1 Y2 Y3 j1 j2 j3 jj d1 s0 s1 c0 c1 c2 hlook
        go_wp2_with fail
        refine (ixshort_w Y4.out (by omega) a ha (by rw [YL.out]; omega) (by rw [YL.out]; omega)).mono ?_
        rintro e w6 ⟨f6, rfl, V1, V2, V3⟩
        have HV : Hid (∃ f', IxRaw w6 base xb (N + 2 * 1) L.length (remN x t1 t2 (a, b) 1) mp m0 m1 f' ∧ Below base w3 w6 ∧ Turned w3 w6 (IxFoot xb mp m0 m1 f) (IxFoot xb mp m0 m1 f')) := by
          refine ⟨f6, ?_, (HR2.out.trans ((Below.refl base wr).drew.trans Y5.out)).trans V2, (HR3.out.trans (show Turned wr w5 _ _ from Y6.out)).trans V3⟩
          show IxRaw w6 base xb (N + 2) L.length ((x.lay false t1 ((x.S false a).getLastD (a, b))).cut false a) mp m0 m1 f6
          rw [show (x.S false a).getLastD (a, b) = (a, z2) from K.last]
          exact V1
        clear V1 V2 V3 Y4 Y5 Y6
        go_wp2_with fail
        go_roundw
        case rel => exact ⟨1, by omega, by go_num, HV⟩
        case measure => simp [intOf]

      · skip
        obtain ⟨f1, R1, R2, R3⟩ := HR.out
        have R1 : IxRaw wr base xb (N + 2) L.length (x.remS false t1 (a, b)) mp m0 m1 f1 := R1
        obtain ⟨mm, z, K⟩ := K1.out
        have hpb := (R3.2.1 pb hpw hpf.out).trans hxp.out
        have hqb := (R3.2.1 qb hqw hqf.out).trans hxq.out
        have hqn : ¬ IxFoot xb mp m0 m1 f1 qb := fun e => (R3.2.2 qb e).elim hqf.out (fun e => by omega)
        obtain ⟨z1, z2⟩ := z
        obtain rfl : b = z2 := K.same.symm
        have hKl : (x.remS false t1 (a, b)).S true b = mm ++ [(z1, b)] := K.list
        have hKt : t2 < mm.length + 1 := K.at'
        obtain ⟨sl, hsl⟩ : ∃ sl, f1 true b = some sl := by
          cases e : f1 true b with
          | some sl => exact ⟨sl, rfl⟩
          | none =>
            have := (R1.nil true b).1 e
            rw [this] at hKl
            simp at hKl
        obtain ⟨c0, c1, c2⟩ := R1.cells
        obtain ⟨q1, q2, q3, q4, q5, q6, -⟩ := R1.row hsl
        rw [q1, hKl] at q4 q6
        obtain ⟨sg, sn, sc⟩ := sl
        simp only at q1 q2 q3 q4 q5 q6
        rw [hKl] at q1
        obtain ⟨ml, hml⟩ : ∃ ml, mm.length = ml := ⟨_, rfl⟩
        have hlen : (mm ++ [(z1, b)]).length = ml + 1 := by simp [hml]
        rw [hlen] at q1 q4 q6
        subst q1
        have hlook := (R1.side true).look b (by omega)
        rw [hsl] at hlook
        simp only [ixslV, sdOf, if_true] at hlook
        have gz : (mm ++ [(z1, b)]).getD ml ([], []) = (z1, b) := by rw [← hml]; simp
        have s0 := q6.row prOK (k := ml) (by rw [hlen]; omega) 0 _ rfl
        have s1 := q6.row prOK (k := ml) (by rw [hlen]; omega) 1 _ rfl
        simp only [Nat.add_zero, gz] at s0 s1
        have hcm : sc ≤ 9223372036854775807 := by unfold maxLen at q5; omega
        have hfew := K.few
        rw [hml] at hfew hKt
        have hw : IntKind.i64.wrap ((ml : Int) + 1 - 1) = ml := by rw [Int.add_sub_cancel]; exact IntWalk.i64_in _ (by omega)
        have hw2 : IntKind.i64.wrap (((ml + 1 : Nat) : Int) - 1) = ml  := by rw [show (((ml + 1 : Nat) : Int) - 1) = ml by omega]; exact IntWalk.i64_in _ (by omega)
        have hw3 : IntKind.i64.wrap (ml : Int) = ml := IntWalk.i64_in _ (by omega)
        have t0 : (0 : Int) ≤ (ml : Int) := by omega
        have t1y : (ml : Int) < ((ml + 1 : Nat) : Int) := by omega
        have t1x : (ml : Int) < (ml : Int) + 1 := by omega
        have d1 : wr.cell? ⟨qb, 1, none⟩ = some (.int .i64 t2) := by simp [World.cell?, hqb]
        have hqlt : qb < wr.heap.size := (Array.getElem?_eq_some_iff.1 hqb).1
        have HD := Lib.hid (show IxRaw wr.drew base xb (N + 2) L.length (x.remS false t1 (a, b)) mp m0 m1 f1 from R1.stay (fun _ _ => rfl))
        have HR2 := Lib.hid R2
        have HR3 := Lib.hid R3
        have HSL := Lib.hid hsl
        have HKL := Lib.hid hKl
        have HQN := Lib.hid hqn
        have HML := Lib.hid hml
        have HLE := Lib.hid hlen
        have hKt2 : t2 < ((x.remS false t1 (a, b)).S true b).length := by rw [hKl, hlen]; exact hKt
        clear R1 R2 R3 q6 hpb hsl hKl hqn hml hlen gz HR
        go_wp2_with fail
        go_region_held (fun X => X.cell? ⟨qb, 1, none⟩ = some (.int .i64 t2) ∧ X.cell? ⟨sg, ml * 2, none⟩ = some (.string ⟨z1.toArray⟩) ∧ X.cell? ⟨sg, ml * 2 + 1, none⟩ = some (.string ⟨b.toArray⟩)) ((first | exact ⟨d1, s0, s1⟩ | exact ⟨j1, j2, j3⟩)) ((go_at_call 49; refine (ixlay_c HD.out (by omega) z1 b (K.short).1 hb (k := t2) hKt2).mono ?_; rintro e w5 ⟨rfl, Y1, Y2, Y3⟩; have j1 : w5.cell? ⟨qb, 1, none⟩ = some (.int .i64 t2) := (World.cell?_of_block (Y3.2.1 qb hqlt HQN.out)).trans d1; have jj := lay_end (p := (z1, b)) Y1 HSL.out HKL.out HML.out rfl; have j2 : w5.cell? ⟨sg, ml * 2, none⟩ = some (.string ⟨z1.toArray⟩) := jj.1; have j3 : w5.cell? ⟨sg, ml * 2 + 1, none⟩ = some (.string ⟨b.toArray⟩) := jj.2))
        have Y4 : Hid (IxRaw w5 base xb (N + 3) L.length ((x.remS false t1 (a, b)).lay true t2 (z1, b)) mp m0 m1 f1) := by
          have := Y1
          rw [if_pos K.some] at this
          exact this
        have Y5 := Lib.hid Y2
        have Y6 := Lib.hid Y3
        have YL : Hid ((((x.remS false t1 (a, b)).lay true t2 (z1, b)).S true b).length = ml + 1) := by
          show _ = _
          show (if true = true ∧ b = b then ((x.remS false t1 (a, b)).S true b).set t2 (z1, b) else _).length = _
          rw [if_pos ⟨rfl, rfl⟩, List.length_set, HKL.out, HLE.out]
        clear Y1 Y2 Y3 j1 j2 j3 jj d1 s0 s1 c0 c1 c2 hlook
        go_wp2_with fail
        refine (ixshort_c Y4.out (by omega) b hb (by rw [YL.out]; omega) (by rw [YL.out]; omega)).mono ?_
        rintro e w6 ⟨f6, rfl, V1, V2, V3⟩
        have HV : Hid (∃ f', IxRaw w6 base xb (N + 2 * 2) L.length (remN x t1 t2 (a, b) 2) mp m0 m1 f' ∧ Below base w3 w6 ∧ Turned w3 w6 (IxFoot xb mp m0 m1 f) (IxFoot xb mp m0 m1 f')) := by
          refine ⟨f6, ?_, (HR2.out.trans ((Below.refl base wr).drew.trans Y5.out)).trans V2, (HR3.out.trans (show Turned wr w5 _ _ from Y6.out)).trans V3⟩
          show IxRaw w6 base xb (N + 4) L.length (((x.remS false t1 (a, b)).lay true t2 (((x.remS false t1 (a, b)).S true b).getLastD (a, b))).cut true b) mp m0 m1 f6
          rw [show ((x.remS false t1 (a, b)).S true b).getLastD (a, b) = (z1, b) from K.last]
          exact V1
        clear V1 V2 V3 Y4 Y5 Y6
        go_wp2_with fail
        go_roundw
        case rel => exact ⟨2, by omega, by go_num, HV⟩
        case measure => simp [intOf]

      · skip
        obtain ⟨f1, R1, R2, R3⟩ := HR.out
        have R1 : IxRaw wr base xb (N + 4) L.length ((x.remS false t1 (a, b)).remS true t2 (a, b)) mp m0 m1 f1 := R1
        have hpb := (R3.2.1 pb hpw hpf.out).trans hxp.out
        have hpn : ¬ IxFoot xb mp m0 m1 f1 pb := fun e => (R3.2.2 pb e).elim hpf.out (fun e => by omega)
        obtain ⟨w5, hrun, hp5, hturn⟩ := (R1.pairs.kept (w' := wr.drew) rfl).del (a, b) ⟨by simp; omega, by simp; omega⟩ 0
        rw [rem_P HA.out.has HP.out HT.out] at hp5
        simp only [ikV] at hrun
        have hgrow := hturn.grown
        obtain ⟨V1, V2, V3⟩ := R1.setP (w' := w5) hp5 (Nat.le_refl _) ⟨hgrow.os, hgrow.tape, hgrow.output, hgrow.size, hgrow.block⟩
        have hS4 : ∀ X : World, X.heap[xb]? = wr.heap[xb]? → X.heap[pb]? = wr.heap[pb]? → X.cell? ⟨xb, 0, none⟩ = some (.map (some mp)) ∧ X.cell? ⟨pb, 0, none⟩ = some (.string ⟨a.toArray⟩) ∧ X.cell? ⟨pb, 1, none⟩ = some (.string ⟨b.toArray⟩) := by
          intro X h1 h2
          rw [hpb] at h2
          have h1 := h1.trans R1.blk
          unfold ixCells at h1
          refine ⟨?_, ?_, ?_⟩ <;> simp [World.cell?, h1, h2]
        have e1 := hS4 wr.drew rfl rfl
        have hnm : ∀ b, b < wr.heap.size → ¬ b = mp → w5.heap[b]? = wr.heap[b]? := fun b hb hn => hgrow.block b hb (fun e => hn (Option.some.inj e))
        have e2 := hS4 w5 (hnm xb R1.lt (R1.xmap (.inl rfl))) (hnm pb (Array.getElem?_eq_some_iff.1 hpb).1 (fun e => hpn (.inr (.inl e))))
        have HZ : Hid (IxAt w5 base xb (N + 4) (L.filter (· ≠ (a, b))) (x.remove (a, b)) mp m0 m1 f1) := by
          refine IxRaw.at (n := L.length - 1) ?_ (rem_len HA.out.has.nd HP.out) (ix_remove HA.out.has HP.out) (fun p hp => HA.out.short p ((List.mem_filter.1 hp).1))
          rw [remove_some HT.out]
          exact V1
        have HB9 := Lib.hid ((HB3.out.trans R2).trans V2)
        have HT9 := Lib.hid ((HT3.out.trans R3).trans V3)
        clear R1 R2 R3 V1 V2 V3 hpb hpn hp5 hturn hgrow hS4 hnm
        go_wp2_with fail
        go_region_held (fun X => X.cell? ⟨xb, 0, none⟩ = some (.map (some mp)) ∧ X.cell? ⟨pb, 0, none⟩ = some (.string ⟨a.toArray⟩) ∧ X.cell? ⟨pb, 1, none⟩ = some (.string ⟨b.toArray⟩)) ((first | exact e1 | exact e2)) (fail)
        go_end0
        exact ⟨_, f1, rfl, HZ.out, HB9.out, HT9.out⟩

end Go.Proofs.Ytlckphdmflofgaa
end

section
/-
  THE CODE OF LAYER 13, ITS SMALL FUNCTIONS: Len, Has; what a nil Index tells.
-/
namespace Go.Proofs.Ytlckphdmflofgaa
open Go.RowKit Go.ChangeMaps Go.MapKept

theorem IxAt.cells {w : World} {base xb N : Nat} {L : List Pr} {x : Ix} {mp m0 m1 : Nat} {f : Bool → List UInt8 → Option IxSl} (h : IxAt w base xb N L x mp m0 m1 f) :
    w.cell? ⟨xb, 0, none⟩ = some (.map (some mp)) ∧ w.cell? ⟨xb, 1, none⟩ = some (.map (some m0)) ∧ w.cell? ⟨xb, 2, none⟩ = some (.map (some m1)) := by
  have hb := h.blk
  unfold ixCells at hb
  refine ⟨?_, ?_, ?_⟩ <;> simp [World.cell?, hb]

theorem ixlen_any {w : World} {base xb N : Nat} {L : List Pr} {x : Ix} {mp m0 m1 : Nat} {f : Bool → List UInt8 → Option IxSl} (h : IxAt w base xb N L x mp m0 m1 f) :
    Calls Try.prog 18 #[.pointer (some ⟨xb, 0, none⟩)] w fun e w' => e = .returned (.int .i64 L.length) ∧ w = w' := by
  obtain ⟨c0, -, -⟩ := h.cells
  have hlen := fun ty => h.pairs.len ty
  clear h
  go_enter Try.func18, Try.ntmps18
  go_wp2_with fail
  go_ret
  exact ⟨rfl, rfl⟩

set_option maxHeartbeats 1600000 in
set_option maxRecDepth 100000 in
theorem ixhas_any {w : World} {base xb N : Nat} {L : List Pr} {x : Ix} {mp m0 m1 : Nat} {f : Bool → List UInt8 → Option IxSl} (h : IxAt w base xb N L x mp m0 m1 f) (u v : List UInt8) (hu : u.length ≤ 4294967296) (hv : v.length ≤ 4294967296) {q : Bool} (hq : ixHas L (u, v) = q) :
    Calls Try.prog 14 #[.pointer (some ⟨xb, 0, none⟩), .string ⟨u.toArray⟩, .string ⟨v.toArray⟩] w fun e w' => e = .returned (.bool q) ∧ Below w.heap.size w w' := by
  obtain ⟨c0, -, -⟩ := h.cells
  have hlook := h.pairs.lookOk (u, v) ⟨hu, hv⟩
  rw [has_of h.has, hq] at hlook
  unfold ikV plV at hlook
  generalize (x.P (u, v)).getD (0, 0) = t at hlook
  obtain ⟨t1, t2⟩ := t
  simp only at hlook
  clear h
  go_enter Try.func14, Try.ntmps14
  go_wp2_with fail
  go_ret
  refine ⟨rfl, ?_⟩
  repeat (first | exact Below.refl _ _ | refine Below.setCell ?_ (by first | (simp; done) | (simp; omega)) _ | refine Below.alloc ?_ (by first | (simp; done) | (simp; omega)) _)

end Go.Proofs.Ytlckphdmflofgaa
end

section
/-
  LAYER 13, THE CODE: New.
-/
namespace Go.Proofs.Ytlckphdmflofgaa
open Go.RowKit Go.ChangeMaps Go.MapKept

/-- Three maps made, and a block behind them. -/
theorem ix_laid (w : World) (N : Nat) (cs : Array Value) (hcs : cs = ixCells w.heap.size (w.heap.size + 1) (w.heap.size + 2)) :
    IxAt ((((w.alloc (.map #[] 0)).alloc (.map #[] 0)).alloc (.map #[] 0)).alloc (.cells cs 55)) w.heap.size (w.heap.size + 3) N [] Ix.zero w.heap.size (w.heap.size + 1) (w.heap.size + 2) (fun _ _ => none) ∧
      Below w.heap.size w ((((w.alloc (.map #[] 0)).alloc (.map #[] 0)).alloc (.map #[] 0)).alloc (.cells cs 55)) := by
  subst hcs
  have s1 : (w.alloc (.map #[] 0)).heap.size = w.heap.size + 1 := by simp
  have s2 : ((w.alloc (.map #[] 0)).alloc (.map #[] 0)).heap.size = w.heap.size + 2 := by simp
  have s3 : (((w.alloc (.map #[] 0)).alloc (.map #[] 0)).alloc (.map #[] 0)).heap.size = w.heap.size + 3 := by simp
  have h0 := plMap_made w N
  have h1 := sdMap_made (w.alloc (.map #[] 0)) N
  have h2 := sdMap_made ((w.alloc (.map #[] 0)).alloc (.map #[] 0)) N
  rw [s1] at h1
  rw [s2] at h2
  have b0 : Below w.heap.size w (w.alloc (.map #[] 0)) := bl_newZ w _
  have b1 := bl_newZ (w.alloc (.map #[] 0)) (.map #[] 0)
  have b2 := bl_newZ ((w.alloc (.map #[] 0)).alloc (.map #[] 0)) (.map #[] 0)
  have b3 := bl_newZ (((w.alloc (.map #[] 0)).alloc (.map #[] 0)).alloc (.map #[] 0)) (.cells (ixCells w.heap.size (w.heap.size + 1) (w.heap.size + 2)) 55)
  have h0 := ((h0.later b1).later b2).later b3
  have h1 := (h1.later b2).later b3
  have h2 := h2.later b3
  refine ⟨idx_made N h0 h1 h2 ⟨by omega, by omega, by omega, by omega⟩ ⟨by omega, by omega, by omega⟩ ?_, below2Z (below2Z (below2Z b0 b1) b2) b3⟩
  have := (MapKept.heap_alloc (((w.alloc (.map #[] 0)).alloc (.map #[] 0)).alloc (.map #[] 0)) (.cells (ixCells w.heap.size (w.heap.size + 1) (w.heap.size + 2)) 55)).1
  rw [s3] at this
  exact this

theorem ixnew_any (w : World) (N : Nat) : Calls Try.prog 11 #[] w fun e w' => ∃ xb, e = .returned (.pointer (some ⟨xb, 0, none⟩)) ∧ IxAt w' w.heap.size xb N [] Ix.zero w.heap.size (w.heap.size + 1) (w.heap.size + 2) (fun _ _ => none) ∧ Below w.heap.size w w' := by
  have hmk := fun w => run_makeMap (P := Try.prog) 51 w
  have hmk2 := fun w => run_makeMap (P := Try.prog) 52 w
  have HL := Lib.hid (ix_laid w N)
  go_enter Try.func11, Try.ntmps11
  go_wp2_with fail
  go_ret
  obtain ⟨h1, h2⟩ := HL.out _ rfl
  exact ⟨_, rfl, h1, h2⟩

end Go.Proofs.Ytlckphdmflofgaa
end

section
/-
  LAYER 10, THE CODE: the parent of a place; which of two slots is better.
-/
namespace Go.Proofs.Ytlckphdmflofgaa
open Go.RowKit

/-- The ranks of a slot. -/
def rk (s : Sl) (i : Nat) : Int := if i = 0 then s.r0 else if i = 1 then s.r1 else s.r2

end Go.Proofs.Ytlckphdmflofgaa
end

section
/-
  LAYER 10, THE CODE: a slot laid at a place.
-/
namespace Go.Proofs.Ytlckphdmflofgaa
open Go.RowKit

end Go.Proofs.Ytlckphdmflofgaa
end

section
/-
  LAYER 10, THE CODE: two slots changed about; the best one among one and its children.
-/
namespace Go.Proofs.Ytlckphdmflofgaa
open Go.RowKit

/-- Ids that an int holds. -/
def Fits (l : List Sl) : Prop := ∀ s ∈ l, (Lit.int .i64 s.id).wf = true

theorem Fits.at0 {l : List Sl} (h : Fits l) {i : Nat} (hi : i < l.length) : (Lit.int .i64 (at0 l i).id).wf = true := by
  rw [at0_get hi]; exact h _ (List.getElem_mem hi)

/-- What a call of a heap turns. -/
structure Turn (w w' : World) (base B : Nat) (v : Value) (M : Nat) : Prop where
  beside : Beside w w' (Foot B M v)
  size : w.heap.size ≤ w'.heap.size
  below : Below base w w'

theorem Turn.trans {a b c : World} {base B : Nat} {v : Value} {M : Nat} (h : Turn a b base B v M) (k : Turn b c base B v M) : Turn a c base B v M :=
  ⟨h.beside.trans h.size k.beside, Nat.le_trans h.size k.size, h.below.trans k.below⟩

end Go.Proofs.Ytlckphdmflofgaa
end

section
/-
  LAYER 10, THE CODE: the best one among one and its children.
-/
namespace Go.Proofs.Ytlckphdmflofgaa
open Go.RowKit

/-- The best one of one and its children below c. -/
def BestTo (l : List Sl) (a c b : Nat) : Prop :=
  b < l.length ∧ (b = a ∨ (0 < b ∧ par b = a ∧ slBet (at0 l b) (at0 l a) = true)) ∧ ∀ x, 0 < x → x < c → x < l.length → par x = a → slBet (at0 l x) (at0 l b) = false

/-- .. of all of them. -/
def BestOf (l : List Sl) (a b : Nat) : Prop := b < l.length ∧ (b = a ∨ (0 < b ∧ par b = a ∧ slBet (at0 l b) (at0 l a) = true)) ∧ ∀ x, 0 < x → x < l.length → par x = a → slBet (at0 l x) (at0 l b) = false

end Go.Proofs.Ytlckphdmflofgaa
end

section
/-
  LAYER 10, THE CODE: a slot rises, sinks, settles.
-/
namespace Go.Proofs.Ytlckphdmflofgaa
open Go.RowKit

end Go.Proofs.Ytlckphdmflofgaa
end

section
/-
  LAYER 10, THE CODE: find, Len, Top, Get, Slots, New.
-/
namespace Go.Proofs.Ytlckphdmflofgaa
open Go.RowKit

/-- What find tells. -/
def findV (l : List Sl) (id : Int) : Value := .tuple #[.int .i64 ((spot l id).getD 0 : Nat), .bool (spot l id).isSome]

/-- Who is on top. -/
def topV (l : List Sl) : Value := .tuple #[.agg #[.int .i64 (at0 l 0).id, .int .i64 (at0 l 0).r0, .int .i64 (at0 l 0).r1, .int .i64 (at0 l 0).r2], .bool (decide (0 < l.length))]

/-! ### of a nil heap -/

end Go.Proofs.Ytlckphdmflofgaa
end

section
/-
  LAYER 10, THE CODE: Put.
-/
namespace Go.Proofs.Ytlckphdmflofgaa
open Go.RowKit

/-- A slot put: instead of the one of its id, or at the end. -/
def slPut (l : List Sl) (s : Sl) : List Sl :=
  match spot l s.id with
  | some p => l.set p s
  | none => l ++ [s]

/-- .. and the slots' slice may have gone to a new block. -/
structure TurnV (w w' : World) (base B : Nat) (v : Value) (M : Nat) (v' : Value) : Prop where
  turn : Turn w w' base B v M
  new : ∀ g n c, v' = .slice (some ⟨g, 0, none⟩) n c → (∃ n c, v = .slice (some ⟨g, 0, none⟩) n c) ∨ w.heap.size ≤ g

theorem TurnV.trans {a b c : World} {base B : Nat} {v v' v'' : Value} {M : Nat} (h : TurnV a b base B v M v') (k : TurnV b c base B v' M v'') : TurnV a c base B v M v'' := by
  refine ⟨⟨fun x hx hn => ?_, Nat.le_trans h.turn.size k.turn.size, h.turn.below.trans k.turn.below⟩, fun g n c hv => ?_⟩
  · refine (k.turn.beside x (Nat.lt_of_lt_of_le hx h.turn.size) ?_).trans (h.turn.beside x hx hn)
    rintro (e | e | ⟨n, c, e⟩)
    · exact hn (.inl e)
    · exact hn (.inr (.inl e))
    · rcases h.new x n c e with ⟨n', c', e'⟩ | hge
      · exact hn (.inr (.inr ⟨n', c', e'⟩))
      · omega
  · rcases k.new g n c hv with ⟨n', c', e'⟩ | hge
    · exact h.new g n' c' e'
    · exact .inr (Nat.le_trans h.turn.size hge)

/-- What is known behind an append of one element. -/
def OutG {α : Type} (vals : α → List Value) (sz : Nat) (T : TypeId) (w w' : World) (base : Nat) (v : Value) (t : List α) (m : α) (v' : Value) : Prop :=
  ∃ g cap, v' = .slice (some ⟨g, 0, none⟩) (t.length + 1) cap ∧ OwnS vals sz T w' base v' (t ++ [m]) ∧ w.grownBy w' v.ownBlock ∧ (v.ownBlock = some g ∨ g = w.heap.size) ∧ g < w'.heap.size

end Go.Proofs.Ytlckphdmflofgaa
end

section
/-
  LAYER 10, THE CODE: Drop; Slots.
-/
namespace Go.Proofs.Ytlckphdmflofgaa
open Go.RowKit Go.ChangeMaps Go.MapKept

/-- A list without its p-th slot, the last one in its place. -/
def slCut (l : List Sl) (p : Nat) : List Sl := (l.take (l.length - 1)).set p (at0 l (l.length - 1))

end Go.Proofs.Ytlckphdmflofgaa
end

section
/-
  LAYER 10, THE CODE: a heap by what was put into it, in whatever order it stands.
-/
namespace Go.Proofs.Ytlckphdmflofgaa
open Go.RowKit

/-- All but the one of an id. -/
def slDel (L : List Sl) (id : Int) : List Sl := L.filter fun s => decide (s.id ≠ id)

/-- Who is on top. -/
def IsTop (L : List Sl) (s : Sl) : Prop := s ∈ L ∧ ∀ x ∈ L, slBet x s = false

theorem TurnV.far {w w' : World} {base B : Nat} {v : Value} {M : Nat} {v' : Value} (ht : TurnV w w' base B v M v') {X : Nat} (hX : X < w.heap.size) (hf : ¬ Foot B M v X) : ¬ Foot B M v' X ∧ w'.heap[X]? = w.heap[X]? := by
  refine ⟨?_, ht.turn.beside X hX hf⟩
  rintro (e | e | ⟨n, c, e⟩)
  · exact hf (.inl e)
  · exact hf (.inr (.inl e))
  · rcases ht.new X n c e with h | h
    · exact hf (.inr (.inr h))
    · omega

end Go.Proofs.Ytlckphdmflofgaa
end

section
/-
  LAYER 10: when two ranks, two slots are the same.
-/
namespace Go.Proofs.Ytlckphdmflofgaa
open Go.RowKit

def rkSame (a b c a' b' c' : Int) : Bool := decide (a = a') && (decide (b = b') && decide (c = c'))

def slSame (a b : Sl) : Bool := decide (a.id = b.id) && rkSame a.r0 a.r1 a.r2 b.r0 b.r1 b.r2

end Go.Proofs.Ytlckphdmflofgaa
end

section
/-
  LAYER 10, THE DOCUMENT's: which slot is better; where an id stands; Get, Top.
-/
namespace Go.Proofs.Ytlckphdmflofgaa
open Go.RowKit

/-- The place of an id, or -1. -/
def placeI (L : List Sl) (id : Int) : Int := match spot L id with | some p => (p : Int) | none => -1

end Go.Proofs.Ytlckphdmflofgaa
end

section
/-
  LAYER 10, THE DOCUMENT's: Put.
-/
namespace Go.Proofs.Ytlckphdmflofgaa
open Go.RowKit

/-- What the document's heap may turn. -/
def FootK (K : Nat) (v : Value) (b : Nat) : Prop := b = K ∨ ∃ n c, v = .slice (some ⟨b, 0, none⟩) n c

structure TurnK (w w' : World) (base K : Nat) (v v' : Value) : Prop where
  beside : Beside w w' (FootK K v)
  size : w.heap.size ≤ w'.heap.size
  below : Below base w w'
  new : ∀ g n c, v' = .slice (some ⟨g, 0, none⟩) n c → (∃ n c, v = .slice (some ⟨g, 0, none⟩) n c) ∨ w.heap.size ≤ g

end Go.Proofs.Ytlckphdmflofgaa
end

section
/-
  LAYER 13, THE CODE: a pair laid behind its lists.
-/
namespace Go.Proofs.Ytlckphdmflofgaa
open Go.RowKit Go.ChangeMaps Go.MapKept

/-- The Index behind k of both sides. -/
def addN (x : Ix) (p : Pr) : Nat → Ix
  | 0 => x
  | 1 => x.addS false p
  | _ => (x.addS false p).addS true p

/-- What is held while a pair is appended. -/
def ixS (xb o pb : Nat) (m a b : Value) (X : World) : Prop := X.cell? ⟨xb, o, none⟩ = some m ∧ X.cell? ⟨pb, 0, none⟩ = some a ∧ X.cell? ⟨pb, 1, none⟩ = some b

theorem ixS_of {w X : World} {xb o pb : Nat} {m a b : Value} (h : ixS xb o pb m a b w) (h1 : X.heap[xb]? = w.heap[xb]?) (h2 : X.heap[pb]? = w.heap[pb]?) : ixS xb o pb m a b X :=
  ⟨(World.cell?_of_block (a := ⟨xb, o, none⟩) h1).trans h.1, (World.cell?_of_block (a := ⟨pb, 0, none⟩) h2).trans h.2.1, (World.cell?_of_block (a := ⟨pb, 1, none⟩) h2).trans h.2.2⟩

theorem ownS_shapeP {w : World} {base : Nat} {T : TypeId} {v : Value} {L : List Pr} (h : OwnS prVals 2 T w base v L) : ∃ a cap, v = .slice a L.length cap := by
  rcases h.2 with ⟨rfl, h0⟩ | ⟨g, cap, cur, rfl, _⟩
  · rw [h0]; exact ⟨none, 0, rfl⟩
  · exact ⟨_, _, rfl⟩

theorem grow_S {w : World} {base xb N n : Nat} {x : Ix} {mp m0 m1 : Nat} {f : Bool → List UInt8 → Option IxSl} {s : Bool} {q : Pr} {l : List Pr} (h : IxRaw w base xb N n ⟨x.P, fun t v => if t = s ∧ v = pcOf s q then l ++ [q] else x.S t v⟩ mp m0 m1 f) (hl : x.S s (pcOf s q) = l) : IxRaw w base xb N n (x.grow s q) mp m0 m1 f := by
  subst hl
  have e : (fun t v => if t = s ∧ v = pcOf s q then x.S s (pcOf s q) ++ [q] else x.S t v) = (x.grow s q).S := by
    funext t v
    show _ = if t = s ∧ v = pcOf s q then x.S t v ++ [q] else x.S t v
    by_cases g : t = s ∧ v = pcOf s q
    · rw [if_pos g, if_pos g, g.1, g.2]
    · rw [if_neg g, if_neg g]
  rw [e] at h
  exact h

theorem step_append_GQ {w : World} {ops : Array Oper} {o : Oper} {ac : Act} {K : Act → World → Prop} {Q : Exit → Act → World → Prop} {E : Prop}
    (hgd : o.guard = none) (s x : Operand) (ho : o.op = .call { callee := .builtin .append, args := #[s, x], argTypes := #[61, 61] })
    (base : Nat) (v : Value) (t : List Pr) (hs : ac.eval s = v) (hown : OwnS prVals 2 57 w base v t) (hq : AllQ isStrV w 57 v)
    (ad : Addr) (c : Nat) (m : Pr) (hx : ac.eval x = .slice (some ad) 1 c) (hsome : SrcS prVals w ad [m])
    (hlen : t.length < 4294967) (hbase : base ≤ w.heap.size)
    (h : ∀ v' w', (∃ g cap, v' = .slice (some ⟨g, 0, none⟩) (t.length + 1) cap ∧ OwnS prVals 2 57 w' base v' (t ++ [m]) ∧ w.grownBy w' v.ownBlock ∧ (v.ownBlock = some g ∨ g = w.heap.size) ∧ g < w'.heap.size ∧ AllQ isStrV w' 57 v') → K (ac.put o.dst v') w') :
    if Region.wanted o (yielded ops ac.tmps) = true then Oper.wp Try.prog o ac w K Q else E := by
  obtain ⟨i, hi, hz, hsize, hby⟩ := info_parts prOK.info
  refine step_append_lq w isStrV hgd s x 61 ho base 57 i _ 2 32 prOK.under hi hz hsize hby rfl (by decide) v t.length (cellsS prVals t) hs hown hq ad 1 c (cellsS prVals [m]) hx (cellsS_len prOK.len [m]) hsome (cellsS_single prOK.one [m]) (by decide)
    (fun u hu => ?_) (fun k u hu => ?_) (by unfold maxLen; omega) (Nat.le_trans (Nat.mul_le_mul (show t.length + 1 ≤ 4294968 by omega) (Nat.le_refl 32)) (by decide)) hbase ?_
  · rw [cellsS_one] at hu
    simp only [prVals, List.mem_cons, List.not_mem_nil, or_false] at hu
    rcases hu with rfl | rfl <;> exact ⟨_, rfl⟩
  · rw [zeroS prOK k] at hu
    obtain ⟨l, hl, hu⟩ := List.mem_flatten.1 hu
    obtain ⟨r, -, rfl⟩ := List.mem_map.1 hl
    simp only [prVals, List.mem_cons, List.not_mem_nil, or_false] at hu
    rcases hu with rfl | rfl <;> exact ⟨_, rfl⟩
  · intro g cap w' h1 h2 h3 h4 h5
    refine h _ w' ⟨g, cap, rfl, ?_, h2, h3, h4, h5⟩
    unfold OwnS
    rw [cellsS_append, List.length_append]
    exact h1

theorem pairs_isNil (M : Nat) (w : World) : (binOp .eql 51 (.map (some M)) (.map none)).run Try.prog w = .ok (.bool false) w := by kernel_rfl

theorem add_P (x : Ix) (p : Pr) : ((x.addS false p).P p).isSome = true := by
  rw [addS_P, if_pos rfl]; rfl

theorem own_of {o : Option IxSl} {g : Nat} (h : (ixslV o).ownBlock = some g) : ∃ sl, o = some sl ∧ sl.g = g := by
  cases o with
  | none => cases h
  | some a => exact ⟨a, rfl, Option.some.inj h⟩

set_option maxHeartbeats 6400000 in
set_option maxRecDepth 100000 in
theorem ixadd_any {w : World} {base xb N : Nat} {L : List Pr} {x : Ix} {mp m0 m1 : Nat} {f : Bool → List UInt8 → Option IxSl} (h : IxAt w base xb N L x mp m0 m1 f) (hN : N ≤ 99990) (a b : List UInt8) (ha : a.length ≤ 60) (hb : b.length ≤ 60) (hp : (a, b) ∉ L) (hl : L.length ≤ 1000) :
    Calls Try.prog 29 #[.pointer (some ⟨xb, 0, none⟩), .agg #[.string ⟨a.toArray⟩, .string ⟨b.toArray⟩]] w fun e w' =>
      ∃ x' f', e = .returned (.tuple #[]) ∧ IxAt w' base xb (N + 4) (L ++ [(a, b)]) x' mp m0 m1 f' ∧ Below base w w' ∧ Turned w w' (IxFoot xb mp m0 m1 f) (IxFoot xb mp m0 m1 f') := by
  have HNO := Lib.hid ((h.has.none _).2 hp)
  have K0 : Hid ((x.S false a).length ≤ 2000) := Nat.le_trans (side_lenS (h.has.side false) a) (by omega)
  have K1 : Hid (((x.addS false (a, b)).S true b).length ≤ 2000) := by
    show _ ≤ _
    rw [addS_S, if_neg (by simp)]
    exact Nat.le_trans (side_lenS (h.has.side true) b) (by omega)
  have HA := Lib.hid h
  have HP := Lib.hid hp
  have h0 := h.raw
  have hxl := h0.lt
  have hbw : base ≤ w.heap.size := Nat.le_trans h0.low.1 (Nat.le_of_lt h0.lt)
  have hb1 := bl_newZ w (.cells #[.string ⟨a.toArray⟩, .string ⟨b.toArray⟩] 57)
  have H3 := Lib.hid (h0.later hb1)
  have hx := (MapKept.heap_alloc w (.cells #[.string ⟨a.toArray⟩, .string ⟨b.toArray⟩] 57)).1
  have HB1 := Lib.hid hb1
  have hpf := Lib.hid (h0.far (Nat.le_refl _))
  have i0 := fun w => idx2a w a b
  have i1 := fun w => idx2b w a b
  have hnil := pairs_isNil mp
  clear h h0 hp hb1
  go_enter Try.func29, Try.ntmps29
  go_upto_region 1 with fail
  have HB3 : Hid (Below base w (w.alloc (.cells #[.string ⟨a.toArray⟩, .string ⟨b.toArray⟩] 57))) := HB1.out.mono hbw
  have HT3 := Lib.hid (turned_below (F := IxFoot xb mp m0 m1 f) HB1.out)
  have hbw3 : base ≤ (w.alloc (.cells #[.string ⟨a.toArray⟩, .string ⟨b.toArray⟩] 57)).heap.size := Nat.le_trans hbw HB1.out.size
  generalize hpb : w.heap.size = pb at hx hxl hpf ⊢
  generalize w.alloc (.cells #[.string ⟨a.toArray⟩, .string ⟨b.toArray⟩] 57) = w3 at H3 hx HB1 HB3 HT3 hbw3 ⊢
  have hpw : pb < w3.heap.size := (Array.getElem?_eq_some_iff.1 hx).1
  have hxp := Lib.hid hx
  obtain ⟨c0, c1, c2⟩ := H3.out.cells
  have z0 : w3.cell? ⟨pb, 0, none⟩ = some (.string ⟨a.toArray⟩) := by simp [World.cell?, hx]
  have z1 : w3.cell? ⟨pb, 1, none⟩ = some (.string ⟨b.toArray⟩) := by simp [World.cell?, hx]
  go_wp2_with fail
  clear z0 z1 c0 c1 c2 hx hpb HB1
  go_loopw [18] (fun i wr => ∃ k : Nat, k ≤ 2 ∧ i = .int .i64 k ∧ Hid (∃ f', IxRaw wr base xb (N + 2 * k) (if k = 0 then L.length else L.length + 1) (addN x (a, b) k) mp m0 m1 f' ∧ Below base w3 wr ∧ Turned w3 wr (IxFoot xb mp m0 m1 f) (IxFoot xb mp m0 m1 f'))) (fun i _ => 2 - (intOf i).toNat)
  case atStart => exact ⟨0, by omega, rfl, f, H3.out, Below.refl _ _, turned_below (Below.refl _ _)⟩
  case round =>
      obtain ⟨k, hk, rfl, HR⟩ := hrel
      rcases (show k = 0 ∨ k = 1 ∨ k = 2 by omega) with rfl | rfl | rfl
      · skip
        obtain ⟨f1, R1, R2, R3⟩ := HR.out
        have R1 : IxRaw wr base xb (N + 0) L.length x mp m0 m1 f1 := R1
        have hpb := (R3.2.1 pb hpw hpf.out).trans hxp.out
        have hpn : ¬ IxFoot xb mp m0 m1 f1 pb := fun e => (R3.2.2 pb e).elim hpf.out (fun e => by omega)
        have hpl : pb < wr.heap.size := (Array.getElem?_eq_some_iff.1 hpb).1
        obtain ⟨l, hl0⟩ : ∃ l, x.S false a = l := ⟨_, rfl⟩
        have hll : l.length ≤ 2000 := by rw [← hl0]; exact K0.out
        have hls := R1.list false a
        rw [hl0] at hls
        obtain ⟨av, cv, hav⟩ := ownS_shapeP hls
        rw [hav] at hls
        have hlook := (R1.side false).look a (by omega)
        rw [hav] at hlook
        simp only [sdOf, Bool.false_eq_true, if_false] at hlook
        obtain ⟨c0, c1, c2⟩ := R1.cells
        have hS0 : ixS xb 1 pb (.map (some m0)) (.string ⟨a.toArray⟩) (.string ⟨b.toArray⟩) wr := ⟨c1, by simp [World.cell?, hpb], by simp [World.cell?, hpb]⟩
        have HR1 := Lib.hid R1
        have HR2 := Lib.hid R2
        have HR3 := Lib.hid R3
        have HPN := Lib.hid hpn
        have HPB := Lib.hid hpb
        have HLS := Lib.hid hls
        have HAV := Lib.hid hav
        have HL0 := Lib.hid hl0
        have HS0 := Lib.hid hS0
        have hq0 : ∀ X, ixS xb 1 pb (.map (some m0)) (.string ⟨a.toArray⟩) (.string ⟨b.toArray⟩) X → X.cell? ⟨xb, 1, none⟩ = some (.map (some m0)) := fun X h => h.1
        have hq1 : ∀ X, ixS xb 1 pb (.map (some m0)) (.string ⟨a.toArray⟩) (.string ⟨b.toArray⟩) X → X.cell? ⟨pb, 0, none⟩ = some (.string ⟨a.toArray⟩) := fun X h => h.2.1
        have hq2 : ∀ X, ixS xb 1 pb (.map (some m0)) (.string ⟨a.toArray⟩) (.string ⟨b.toArray⟩) X → X.cell? ⟨pb, 1, none⟩ = some (.string ⟨b.toArray⟩) := fun X h => h.2.2
        clear R1 R2 R3 hpn hpb hls hav hl0 hS0 HR
        go_upto_region 7 with fail
        clear c0 c1 c2 hlook
        refine wp_region_held_drew (S := (ixS xb 1 pb (.map (some m0)) (.string ⟨a.toArray⟩) (.string ⟨b.toArray⟩))) (by kernel_rfl) ?_ (fun hHeld => ?_)
        · exact ixS_of HS0.out rfl rfl
        have G0 : Hid (∀ row, wr.grownBy wr.drew row) := fun row => ⟨rfl, rfl, rfl, Nat.le_refl _, fun _ _ _ => rfl⟩
        have HO0 := Lib.hid (HLS.out.drew)
        have hsz0 : wr.drew.heap.size = wr.heap.size := rfl
        generalize wr.drew = z0 at G0 HO0 hsz0 hHeld ⊢
        refine wpAnyH_take (i := 0) (oi := { dst := some 30, op := Op.move (Operand.tmp 0), type := 25, pos := "index.go:114", after := #[], guard := none }) (v := ?_) rfl (by as_aux_lemma => kernel_rfl) (by as_aux_lemma => kernel_rfl) (by as_aux_lemma => kernel_rfl) (fun _ _ _ h => h) (Or.inl ⟨by rfl, ?_⟩) (by assumption) ?_
        rotate_left
        · intro w' hSw
          try dsimp only at hSw
          go_simp
          try with_reducible rfl
        try simp only [Act.put, List.setIfInBounds_toArray, List.set_cons_zero, List.set_cons_succ]
        refine wpAnyH_take (i := 1) (oi := { dst := some 31, op := Op.move (Operand.tmp 4), type := 3, pos := "index.go:114", after := #[], guard := none }) (v := ?_) rfl (by as_aux_lemma => kernel_rfl) (by as_aux_lemma => kernel_rfl) (by as_aux_lemma => kernel_rfl) (fun _ _ _ h => h) (Or.inl ⟨by rfl, ?_⟩) (by assumption) ?_
        rotate_left
        · intro w' hSw
          try dsimp only at hSw
          go_simp
          try with_reducible rfl
        try simp only [Act.put, List.setIfInBounds_toArray, List.set_cons_zero, List.set_cons_succ]
        refine wpAnyH_take (i := 2) (oi := { dst := some 32, op := Op.nilCheck (Operand.tmp 30), type := 0, pos := "index.go:114", after := #[{ on := 0, ground := Ground.data }], guard := none }) (v := ?_) rfl (by as_aux_lemma => kernel_rfl) (by as_aux_lemma => kernel_rfl) (by as_aux_lemma => kernel_rfl) (fun _ _ _ h => h) (Or.inl ⟨by rfl, ?_⟩) (by assumption) ?_
        rotate_left
        · intro w' hSw
          try dsimp only at hSw
          go_simp
          try with_reducible rfl
        try simp only [Act.put, List.setIfInBounds_toArray, List.set_cons_zero, List.set_cons_succ]
        refine wpAnyH_take (i := 3) (oi := { dst := some 33, op := Op.fieldAddr 55 (Operand.tmp 32) 1, type := 0, pos := "index.go:114", after := #[{ on := 2, ground := Ground.data }], guard := none }) (v := ?_) rfl (by as_aux_lemma => kernel_rfl) (by as_aux_lemma => kernel_rfl) (by as_aux_lemma => kernel_rfl) (fun _ _ _ h => h) (Or.inl ⟨by rfl, ?_⟩) (by assumption) ?_
        rotate_left
        · intro w' hSw
          try dsimp only at hSw
          go_simp
          try with_reducible rfl
        try simp only [Act.put, List.setIfInBounds_toArray, List.set_cons_zero, List.set_cons_succ]
        refine wpAnyH_take (i := 4) (oi := { dst := some 34, op := Op.indexAddr 53 (Operand.tmp 33) (Operand.tmp 31), type := 0, pos := "index.go:114", after := #[{ on := 3, ground := Ground.data }, { on := 1, ground := Ground.data }], guard := none }) (v := ?_) rfl (by as_aux_lemma => kernel_rfl) (by as_aux_lemma => kernel_rfl) (by as_aux_lemma => kernel_rfl) (fun _ _ _ h => h) (Or.inl ⟨by rfl, ?_⟩) (by assumption) ?_
        rotate_left
        · intro w' hSw
          try dsimp only at hSw
          go_simp
          try with_reducible rfl
        try simp only [Act.put, List.setIfInBounds_toArray, List.set_cons_zero, List.set_cons_succ]
        refine wpAnyH_take (i := 5) (oi := { dst := some 35, op := Op.load 52 (Operand.tmp 34), type := 52, pos := "index.go:114", after := #[{ on := 4, ground := Ground.data }], guard := none }) (v := ?_) rfl (by as_aux_lemma => kernel_rfl) (by as_aux_lemma => kernel_rfl) (by as_aux_lemma => kernel_rfl) (fun _ _ _ h => h) (Or.inl ⟨by rfl, ?_⟩) (by assumption) ?_
        rotate_left
        · intro w' hSw
          try dsimp only at hSw
          go_simp
          try with_reducible rfl
        try simp only [Act.put, List.setIfInBounds_toArray, List.set_cons_zero, List.set_cons_succ]
        refine wpAnyH_take (i := 6) (oi := { dst := some 36, op := Op.move (Operand.tmp 5), type := 9, pos := "index.go:114", after := #[], guard := none }) (v := ?_) rfl (by as_aux_lemma => kernel_rfl) (by as_aux_lemma => kernel_rfl) (by as_aux_lemma => kernel_rfl) (fun _ _ _ h => h) (Or.inl ⟨by rfl, ?_⟩) (by assumption) ?_
        rotate_left
        · intro w' hSw
          try dsimp only at hSw
          go_simp
          try with_reducible rfl
        try simp only [Act.put, List.setIfInBounds_toArray, List.set_cons_zero, List.set_cons_succ]
        refine wpAnyH_take (i := 7) (oi := { dst := some 37, op := Op.move (Operand.tmp 6), type := 61, pos := "index.go:114", after := #[], guard := none }) (v := ?_) rfl (by as_aux_lemma => kernel_rfl) (by as_aux_lemma => kernel_rfl) (by as_aux_lemma => kernel_rfl) (fun _ _ _ h => h) (Or.inl ⟨by rfl, ?_⟩) (by assumption) ?_
        rotate_left
        · intro w' hSw
          try dsimp only at hSw
          go_simp
          try with_reducible rfl
        try simp only [Act.put, List.setIfInBounds_toArray, List.set_cons_zero, List.set_cons_succ]
        refine wpAnyH_take (i := 8) (oi := { dst := some 38, op := Op.load 57 (Operand.tmp 3), type := 57, pos := "index.go:114", after := #[], guard := none }) (v := ?_) rfl (by as_aux_lemma => kernel_rfl) (by as_aux_lemma => kernel_rfl) (by as_aux_lemma => kernel_rfl) (fun _ _ _ h => h) (Or.inl ⟨by rfl, ?_⟩) (by assumption) ?_
        rotate_left
        · intro w' hSw
          try dsimp only at hSw
          go_simp
          try with_reducible rfl
        try simp only [Act.put, List.setIfInBounds_toArray, List.set_cons_zero, List.set_cons_succ]
        refine wpAnyH_ready (rs := [9]) (by as_aux_lemma => kernel_rfl) (by simp) ?_
        refine AllReadyH.cons (o := { dst := some 39, op := Op.buildSlice 61 1 #[(0, Operand.tmp 38)], type := 61, pos := "index.go:114", after := #[{ on := 8, ground := Ground.data }], guard := none }) rfl (fun Kx hK => ?_) AllReadyH.nil
        go_simp
        have nz := (MapKept.heap_alloc z0 (.cells #[.string ⟨a.toArray⟩, .string ⟨b.toArray⟩] 57)).1
        have G1 : ∀ row, wr.grownBy (z0.alloc (.cells #[.string ⟨a.toArray⟩, .string ⟨b.toArray⟩] 57)) row := fun row => World.grownBy.trans (G0.out row) (World.grownBy_alloc z0 _ row)
        have HO1 := Lib.hid (HO0.out.alloc (.cells #[.string ⟨a.toArray⟩, .string ⟨b.toArray⟩] 57))
        have hqa : AllQ isStrV (z0.alloc (.cells #[.string ⟨a.toArray⟩, .string ⟨b.toArray⟩] 57)) 57 (.slice av l.length cv) := by
          rw [← HAV.out]
          exact (HR1.out.str false a).kept fun gg hgg => by obtain ⟨sl, hsl, hslg⟩ := HR1.out.own hgg; exact (G1 none).block gg (hslg ▸ (HR1.out.row hsl).2.2.1) (by simp)
        have HQ1 := Lib.hid hqa
        clear hqa
        have hsrc := srcS_new (vals := prVals) (w := z0) (r := (a, b)) (cs := #[.string ⟨a.toArray⟩, .string ⟨b.toArray⟩]) rfl (e := 57) (B := z0.heap.size) rfl _ rfl
        have hg1s := (G1 none).size
        have S1 := ixS_of (X := z0.alloc (.cells #[.string ⟨a.toArray⟩, .string ⟨b.toArray⟩] 57)) HS0.out ((G1 none).block xb HR1.out.lt (by simp)) ((G1 none).block pb hpl (by simp))
        refine hK.out _ _ ?_ (fun hHeld2 => ?_)
        · exact S1
        clear hK Kx hHeld
        have hHeld := hHeld2
        clear hHeld2
        try simp only [Act.put, List.setIfInBounds_toArray, List.set_cons_zero, List.set_cons_succ]
        have G1 := Lib.hid G1
        have SR := Lib.hid hsrc
        clear hsrc S1 HO0 G0
        generalize z0.alloc (.cells #[.string ⟨a.toArray⟩, .string ⟨b.toArray⟩] 57) = z1 at nz G1 HO1 HQ1 SR hHeld hg1s ⊢
        generalize z0.heap.size = rb at nz SR hsz0 ⊢
        clear nz
        refine wpAnyH_ready (rs := [10]) (by as_aux_lemma => kernel_rfl) (by simp) ?_
        refine AllReadyH.cons (o := { dst := some 40, op := Op.call { callee := Callee.builtin Builtin.append, args := #[Operand.tmp 37, Operand.tmp 39], argTypes := #[61, 61] }, type := 61, pos := "index.go:114", after := #[{ on := 7, ground := Ground.data }, { on := 9, ground := Ground.data }], guard := none }) rfl (fun Kx hK => ?_) AllReadyH.nil
        refine step_append_GQ rfl (.tmp 37) (.tmp 39) rfl base _ l (by simp [Act.eval]; done) HO1.out HQ1.out ⟨rb, 0, none⟩ 1 (a, b) (by simp [Act.eval]; done) SR.out (by omega) (Nat.le_trans hbw3 (Nat.le_trans HR2.out.size hg1s)) ?_
        intro v2 z2 ⟨g, cap, hv2, hown2, hgrow2, hlies2, hglt2, hq2a⟩
        subst hv2
        have hrow : (Value.slice av l.length cv).ownBlock = (ixslV (f1 false a)).ownBlock := by rw [HAV.out]
        rw [hrow] at hgrow2 hlies2
        have G2 := Lib.hid ((G1.out _).trans hgrow2)
        have hnr : ∀ X, (X = xb ∨ X = pb ∨ X = m0) → some X ≠ (ixslV (f1 false a)).ownBlock := by
          intro X hX e
          obtain ⟨sl, hsl, hslg⟩ := own_of e.symm
          rcases hX with rfl | rfl | rfl
          · exact HR1.out.rx hsl hslg
          · exact HPN.out (.inr (.inr (.inr (.inr ⟨false, a, sl, hsl, hslg⟩))))
          · exact HR1.out.rmap hsl (.inr (.inl rfl)) hslg
        have S2 := ixS_of (X := z2) HS0.out (G2.out.block xb HR1.out.lt (hnr xb (.inl rfl))) (G2.out.block pb hpl (hnr pb (.inr (.inl rfl))))
        have hs2 : SdMap z2 m0 (N + 0) (f1 false) := (HR1.out.side false).kept (G2.out.block m0 (HR1.out.side false).lt (hnr m0 (.inr (.inr rfl))))
        have HW2 := Lib.hid hown2
        have HQ2 := Lib.hid hq2a
        have hlies3 : ∀ sl, some (⟨g, l.length + 1, cap⟩ : IxSl) = some sl → (∃ c, f1 false a = some c ∧ c.g = sl.g) ∨ wr.heap.size ≤ sl.g := by
          intro sl e
          cases e
          rcases hlies2 with e | e
          · obtain ⟨sl, h1, h2⟩ := own_of e; exact .inl ⟨sl, h1, h2⟩
          · exact .inr (by show wr.heap.size ≤ g; omega)
        clear hown2 hgrow2 hlies2 hnr hrow HO1 SR hg1s hq2a HQ1
        go_simp
        refine hK.out _ _ ?_ (fun hHeld2 => ?_)
        · exact S2
        clear hK Kx hHeld
        have hHeld := hHeld2
        clear hHeld2
        try simp only [Act.put, List.setIfInBounds_toArray, List.set_cons_zero, List.set_cons_succ]
        obtain ⟨w5, hrun, hs5, ht5⟩ := hs2.put (by omega) a (by omega) (some ⟨g, l.length + 1, cap⟩)
        simp only [ixslV] at hrun
        have hg5 := ht5.grown
        obtain ⟨V1, V2, V3⟩ := HR1.out.turnS false a (some ⟨g, l.length + 1, cap⟩) (w1 := z2) (w2 := w5) G2.out (l' := l ++ [(a, b)]) HW2.out HQ2.out ⟨fun e => (by cases e), fun e => (by simp at e)⟩ hlies3 hs5 (Nat.le_succ _) hg5
        have V1 := Lib.hid (grow_S (q := (a, b)) V1 HL0.out)
        have V2 := Lib.hid V2
        have V3 := Lib.hid V3
        have S5 := ixS_of (X := w5) S2 (hg5.block xb (Nat.lt_of_lt_of_le HR1.out.lt G2.out.size) (fun e => HR1.out.xmap (.inr (.inl rfl)) (Option.some.inj e))) (hg5.block pb (Nat.lt_of_lt_of_le hpl G2.out.size) (fun e => HPN.out (.inr (.inr (.inl (Option.some.inj e))))))
        clear hs2 hs5 ht5 hg5 hlies3 HW2 HQ2
        refine wpAnyH_ready (rs := [11]) (by as_aux_lemma => kernel_rfl) (by simp) ?_
        refine AllReadyH.cons (o := { dst := none, op := Op.mapUpdate 52 (Operand.tmp 35) (Operand.tmp 36) (Operand.tmp 40), type := 0, pos := "index.go:114", after := #[{ on := 5, ground := Ground.data }, { on := 6, ground := Ground.data }, { on := 10, ground := Ground.data }, { on := 10, ground := Ground.chain }, { on := 0, ground := Ground.phase }, { on := 1, ground := Ground.phase }, { on := 2, ground := Ground.phase }, { on := 3, ground := Ground.phase }, { on := 4, ground := Ground.phase }, { on := 5, ground := Ground.phase }, { on := 6, ground := Ground.phase }, { on := 7, ground := Ground.phase }, { on := 8, ground := Ground.phase }, { on := 9, ground := Ground.phase }, { on := 10, ground := Ground.phase }], guard := none }) rfl (fun Kx hK => ?_) AllReadyH.nil
        go_simp
        refine hK.out _ _ ?_ (fun hHeld2 => ?_)
        · exact S5
        clear hK Kx hHeld
        have hHeld := hHeld2
        clear hHeld2
        try simp only [Act.put, List.setIfInBounds_toArray, List.set_cons_zero, List.set_cons_succ]
        refine wpAnyH_done (by kernel_rfl) ?_ _
        have z0x := S5.2.1
        have z1x := S5.2.2
        clear S2 S5 hrun hHeld hq0 hq1 hq2
        go_wp2_with fail
        have hkk : l.length < ((x.grow false (a, b)).S false a).length := by
          show l.length < (if false = false ∧ a = a then x.S false a ++ [(a, b)] else _).length
          rw [if_pos ⟨rfl, rfl⟩, HL0.out]
          simp
        refine (ixlay_w V1.out (by omega) a b ha hb hkk).mono ?_
        rintro e w6 ⟨rfl, Y1, Y2, Y3⟩
        have HV : Hid (∃ f', IxRaw w6 base xb (N + 2 * 1) (L.length + 1) (addN x (a, b) 1) mp m0 m1 f' ∧ Below base w3 w6 ∧ Turned w3 w6 (IxFoot xb mp m0 m1 f) (IxFoot xb mp m0 m1 f')) := by
          refine ⟨_, ?_, (HR2.out.trans V2.out).trans Y2, (HR3.out.trans V3.out).trans Y3⟩
          rw [if_neg (show ¬ ((x.grow false (a, b)).P (a, b)).isSome = true by show ¬ (x.P (a, b)).isSome = true; rw [HNO.out]; simp)] at Y1
          show IxRaw w6 base xb (N + 2) (L.length + 1) ((x.grow false (a, b)).lay false (x.S false a).length (a, b)) mp m0 m1 _
          rw [HL0.out]
          exact Y1
        clear Y1 Y2 Y3 V1 V2 V3 z0x z1x
        go_wp2_with fail
        go_roundw
        case rel => exact ⟨1, by omega, by go_num, HV⟩
        case measure => simp [intOf]

      · skip
        obtain ⟨f1, R1, R2, R3⟩ := HR.out
        have R1 : IxRaw wr base xb (N + 2) (L.length + 1) (x.addS false (a, b)) mp m0 m1 f1 := R1
        have hpb := (R3.2.1 pb hpw hpf.out).trans hxp.out
        have hpn : ¬ IxFoot xb mp m0 m1 f1 pb := fun e => (R3.2.2 pb e).elim hpf.out (fun e => by omega)
        have hpl : pb < wr.heap.size := (Array.getElem?_eq_some_iff.1 hpb).1
        obtain ⟨l, hl0⟩ : ∃ l, (x.addS false (a, b)).S true b = l := ⟨_, rfl⟩
        have hll : l.length ≤ 2000 := by rw [← hl0]; exact K1.out
        have hls := R1.list true b
        rw [hl0] at hls
        obtain ⟨av, cv, hav⟩ := ownS_shapeP hls
        rw [hav] at hls
        have hlook := (R1.side true).look b (by omega)
        rw [hav] at hlook
        simp only [sdOf, if_true] at hlook
        obtain ⟨c0, c1, c2⟩ := R1.cells
        have hS0 : ixS xb 2 pb (.map (some m1)) (.string ⟨a.toArray⟩) (.string ⟨b.toArray⟩) wr := ⟨c2, by simp [World.cell?, hpb], by simp [World.cell?, hpb]⟩
        have HR1 := Lib.hid R1
        have HR2 := Lib.hid R2
        have HR3 := Lib.hid R3
        have HPN := Lib.hid hpn
        have HPB := Lib.hid hpb
        have HLS := Lib.hid hls
        have HAV := Lib.hid hav
        have HL0 := Lib.hid hl0
        have HS0 := Lib.hid hS0
        have hq0 : ∀ X, ixS xb 2 pb (.map (some m1)) (.string ⟨a.toArray⟩) (.string ⟨b.toArray⟩) X → X.cell? ⟨xb, 2, none⟩ = some (.map (some m1)) := fun X h => h.1
        have hq1 : ∀ X, ixS xb 2 pb (.map (some m1)) (.string ⟨a.toArray⟩) (.string ⟨b.toArray⟩) X → X.cell? ⟨pb, 0, none⟩ = some (.string ⟨a.toArray⟩) := fun X h => h.2.1
        have hq2 : ∀ X, ixS xb 2 pb (.map (some m1)) (.string ⟨a.toArray⟩) (.string ⟨b.toArray⟩) X → X.cell? ⟨pb, 1, none⟩ = some (.string ⟨b.toArray⟩) := fun X h => h.2.2
        clear R1 R2 R3 hpn hpb hls hav hl0 hS0 HR
        go_upto_region 7 with fail
        clear c0 c1 c2 hlook
        refine wp_region_held_drew (S := (ixS xb 2 pb (.map (some m1)) (.string ⟨a.toArray⟩) (.string ⟨b.toArray⟩))) (by kernel_rfl) ?_ (fun hHeld => ?_)
        · exact ixS_of HS0.out rfl rfl
        have G0 : Hid (∀ row, wr.grownBy wr.drew row) := fun row => ⟨rfl, rfl, rfl, Nat.le_refl _, fun _ _ _ => rfl⟩
        have HO0 := Lib.hid (HLS.out.drew)
        have hsz0 : wr.drew.heap.size = wr.heap.size := rfl
        generalize wr.drew = z0 at G0 HO0 hsz0 hHeld ⊢
        refine wpAnyH_take (i := 0) (oi := { dst := some 30, op := Op.move (Operand.tmp 0), type := 25, pos := "index.go:114", after := #[], guard := none }) (v := ?_) rfl (by as_aux_lemma => kernel_rfl) (by as_aux_lemma => kernel_rfl) (by as_aux_lemma => kernel_rfl) (fun _ _ _ h => h) (Or.inl ⟨by rfl, ?_⟩) (by assumption) ?_
        rotate_left
        · intro w' hSw
          try dsimp only at hSw
          go_simp
          try with_reducible rfl
        try simp only [Act.put, List.setIfInBounds_toArray, List.set_cons_zero, List.set_cons_succ]
        refine wpAnyH_take (i := 1) (oi := { dst := some 31, op := Op.move (Operand.tmp 4), type := 3, pos := "index.go:114", after := #[], guard := none }) (v := ?_) rfl (by as_aux_lemma => kernel_rfl) (by as_aux_lemma => kernel_rfl) (by as_aux_lemma => kernel_rfl) (fun _ _ _ h => h) (Or.inl ⟨by rfl, ?_⟩) (by assumption) ?_
        rotate_left
        · intro w' hSw
          try dsimp only at hSw
          go_simp
          try with_reducible rfl
        try simp only [Act.put, List.setIfInBounds_toArray, List.set_cons_zero, List.set_cons_succ]
        refine wpAnyH_take (i := 2) (oi := { dst := some 32, op := Op.nilCheck (Operand.tmp 30), type := 0, pos := "index.go:114", after := #[{ on := 0, ground := Ground.data }], guard := none }) (v := ?_) rfl (by as_aux_lemma => kernel_rfl) (by as_aux_lemma => kernel_rfl) (by as_aux_lemma => kernel_rfl) (fun _ _ _ h => h) (Or.inl ⟨by rfl, ?_⟩) (by assumption) ?_
        rotate_left
        · intro w' hSw
          try dsimp only at hSw
          go_simp
          try with_reducible rfl
        try simp only [Act.put, List.setIfInBounds_toArray, List.set_cons_zero, List.set_cons_succ]
        refine wpAnyH_take (i := 3) (oi := { dst := some 33, op := Op.fieldAddr 55 (Operand.tmp 32) 1, type := 0, pos := "index.go:114", after := #[{ on := 2, ground := Ground.data }], guard := none }) (v := ?_) rfl (by as_aux_lemma => kernel_rfl) (by as_aux_lemma => kernel_rfl) (by as_aux_lemma => kernel_rfl) (fun _ _ _ h => h) (Or.inl ⟨by rfl, ?_⟩) (by assumption) ?_
        rotate_left
        · intro w' hSw
          try dsimp only at hSw
          go_simp
          try with_reducible rfl
        try simp only [Act.put, List.setIfInBounds_toArray, List.set_cons_zero, List.set_cons_succ]
        refine wpAnyH_take (i := 4) (oi := { dst := some 34, op := Op.indexAddr 53 (Operand.tmp 33) (Operand.tmp 31), type := 0, pos := "index.go:114", after := #[{ on := 3, ground := Ground.data }, { on := 1, ground := Ground.data }], guard := none }) (v := ?_) rfl (by as_aux_lemma => kernel_rfl) (by as_aux_lemma => kernel_rfl) (by as_aux_lemma => kernel_rfl) (fun _ _ _ h => h) (Or.inl ⟨by rfl, ?_⟩) (by assumption) ?_
        rotate_left
        · intro w' hSw
          try dsimp only at hSw
          go_simp
          try with_reducible rfl
        try simp only [Act.put, List.setIfInBounds_toArray, List.set_cons_zero, List.set_cons_succ]
        refine wpAnyH_take (i := 5) (oi := { dst := some 35, op := Op.load 52 (Operand.tmp 34), type := 52, pos := "index.go:114", after := #[{ on := 4, ground := Ground.data }], guard := none }) (v := ?_) rfl (by as_aux_lemma => kernel_rfl) (by as_aux_lemma => kernel_rfl) (by as_aux_lemma => kernel_rfl) (fun _ _ _ h => h) (Or.inl ⟨by rfl, ?_⟩) (by assumption) ?_
        rotate_left
        · intro w' hSw
          try dsimp only at hSw
          go_simp
          try with_reducible rfl
        try simp only [Act.put, List.setIfInBounds_toArray, List.set_cons_zero, List.set_cons_succ]
        refine wpAnyH_take (i := 6) (oi := { dst := some 36, op := Op.move (Operand.tmp 5), type := 9, pos := "index.go:114", after := #[], guard := none }) (v := ?_) rfl (by as_aux_lemma => kernel_rfl) (by as_aux_lemma => kernel_rfl) (by as_aux_lemma => kernel_rfl) (fun _ _ _ h => h) (Or.inl ⟨by rfl, ?_⟩) (by assumption) ?_
        rotate_left
        · intro w' hSw
          try dsimp only at hSw
          go_simp
          try with_reducible rfl
        try simp only [Act.put, List.setIfInBounds_toArray, List.set_cons_zero, List.set_cons_succ]
        refine wpAnyH_take (i := 7) (oi := { dst := some 37, op := Op.move (Operand.tmp 6), type := 61, pos := "index.go:114", after := #[], guard := none }) (v := ?_) rfl (by as_aux_lemma => kernel_rfl) (by as_aux_lemma => kernel_rfl) (by as_aux_lemma => kernel_rfl) (fun _ _ _ h => h) (Or.inl ⟨by rfl, ?_⟩) (by assumption) ?_
        rotate_left
        · intro w' hSw
          try dsimp only at hSw
          go_simp
          try with_reducible rfl
        try simp only [Act.put, List.setIfInBounds_toArray, List.set_cons_zero, List.set_cons_succ]
        refine wpAnyH_take (i := 8) (oi := { dst := some 38, op := Op.load 57 (Operand.tmp 3), type := 57, pos := "index.go:114", after := #[], guard := none }) (v := ?_) rfl (by as_aux_lemma => kernel_rfl) (by as_aux_lemma => kernel_rfl) (by as_aux_lemma => kernel_rfl) (fun _ _ _ h => h) (Or.inl ⟨by rfl, ?_⟩) (by assumption) ?_
        rotate_left
        · intro w' hSw
          try dsimp only at hSw
          go_simp
          try with_reducible rfl
        try simp only [Act.put, List.setIfInBounds_toArray, List.set_cons_zero, List.set_cons_succ]
        refine wpAnyH_ready (rs := [9]) (by as_aux_lemma => kernel_rfl) (by simp) ?_
        refine AllReadyH.cons (o := { dst := some 39, op := Op.buildSlice 61 1 #[(0, Operand.tmp 38)], type := 61, pos := "index.go:114", after := #[{ on := 8, ground := Ground.data }], guard := none }) rfl (fun Kx hK => ?_) AllReadyH.nil
        go_simp
        have nz := (MapKept.heap_alloc z0 (.cells #[.string ⟨a.toArray⟩, .string ⟨b.toArray⟩] 57)).1
        have G1 : ∀ row, wr.grownBy (z0.alloc (.cells #[.string ⟨a.toArray⟩, .string ⟨b.toArray⟩] 57)) row := fun row => World.grownBy.trans (G0.out row) (World.grownBy_alloc z0 _ row)
        have HO1 := Lib.hid (HO0.out.alloc (.cells #[.string ⟨a.toArray⟩, .string ⟨b.toArray⟩] 57))
        have hqa : AllQ isStrV (z0.alloc (.cells #[.string ⟨a.toArray⟩, .string ⟨b.toArray⟩] 57)) 57 (.slice av l.length cv) := by
          rw [← HAV.out]
          exact (HR1.out.str true b).kept fun gg hgg => by obtain ⟨sl, hsl, hslg⟩ := HR1.out.own hgg; exact (G1 none).block gg (hslg ▸ (HR1.out.row hsl).2.2.1) (by simp)
        have HQ1 := Lib.hid hqa
        clear hqa
        have hsrc := srcS_new (vals := prVals) (w := z0) (r := (a, b)) (cs := #[.string ⟨a.toArray⟩, .string ⟨b.toArray⟩]) rfl (e := 57) (B := z0.heap.size) rfl _ rfl
        have hg1s := (G1 none).size
        have S1 := ixS_of (X := z0.alloc (.cells #[.string ⟨a.toArray⟩, .string ⟨b.toArray⟩] 57)) HS0.out ((G1 none).block xb HR1.out.lt (by simp)) ((G1 none).block pb hpl (by simp))
        refine hK.out _ _ ?_ (fun hHeld2 => ?_)
        · exact S1
        clear hK Kx hHeld
        have hHeld := hHeld2
        clear hHeld2
        try simp only [Act.put, List.setIfInBounds_toArray, List.set_cons_zero, List.set_cons_succ]
        have G1 := Lib.hid G1
        have SR := Lib.hid hsrc
        clear hsrc S1 HO0 G0
        generalize z0.alloc (.cells #[.string ⟨a.toArray⟩, .string ⟨b.toArray⟩] 57) = z1 at nz G1 HO1 HQ1 SR hHeld hg1s ⊢
        generalize z0.heap.size = rb at nz SR hsz0 ⊢
        clear nz
        refine wpAnyH_ready (rs := [10]) (by as_aux_lemma => kernel_rfl) (by simp) ?_
        refine AllReadyH.cons (o := { dst := some 40, op := Op.call { callee := Callee.builtin Builtin.append, args := #[Operand.tmp 37, Operand.tmp 39], argTypes := #[61, 61] }, type := 61, pos := "index.go:114", after := #[{ on := 7, ground := Ground.data }, { on := 9, ground := Ground.data }], guard := none }) rfl (fun Kx hK => ?_) AllReadyH.nil
        refine step_append_GQ rfl (.tmp 37) (.tmp 39) rfl base _ l (by simp [Act.eval]; done) HO1.out HQ1.out ⟨rb, 0, none⟩ 1 (a, b) (by simp [Act.eval]; done) SR.out (by omega) (Nat.le_trans hbw3 (Nat.le_trans HR2.out.size hg1s)) ?_
        intro v2 z2 ⟨g, cap, hv2, hown2, hgrow2, hlies2, hglt2, hq2a⟩
        subst hv2
        have hrow : (Value.slice av l.length cv).ownBlock = (ixslV (f1 true b)).ownBlock := by rw [HAV.out]
        rw [hrow] at hgrow2 hlies2
        have G2 := Lib.hid ((G1.out _).trans hgrow2)
        have hnr : ∀ X, (X = xb ∨ X = pb ∨ X = m1) → some X ≠ (ixslV (f1 true b)).ownBlock := by
          intro X hX e
          obtain ⟨sl, hsl, hslg⟩ := own_of e.symm
          rcases hX with rfl | rfl | rfl
          · exact HR1.out.rx hsl hslg
          · exact HPN.out (.inr (.inr (.inr (.inr ⟨true, b, sl, hsl, hslg⟩))))
          · exact HR1.out.rmap hsl (.inr (.inr rfl)) hslg
        have S2 := ixS_of (X := z2) HS0.out (G2.out.block xb HR1.out.lt (hnr xb (.inl rfl))) (G2.out.block pb hpl (hnr pb (.inr (.inl rfl))))
        have hs2 : SdMap z2 m1 (N + 2) (f1 true) := (HR1.out.side true).kept (G2.out.block m1 (HR1.out.side true).lt (hnr m1 (.inr (.inr rfl))))
        have HW2 := Lib.hid hown2
        have HQ2 := Lib.hid hq2a
        have hlies3 : ∀ sl, some (⟨g, l.length + 1, cap⟩ : IxSl) = some sl → (∃ c, f1 true b = some c ∧ c.g = sl.g) ∨ wr.heap.size ≤ sl.g := by
          intro sl e
          cases e
          rcases hlies2 with e | e
          · obtain ⟨sl, h1, h2⟩ := own_of e; exact .inl ⟨sl, h1, h2⟩
          · exact .inr (by show wr.heap.size ≤ g; omega)
        clear hown2 hgrow2 hlies2 hnr hrow HO1 SR hg1s hq2a HQ1
        go_simp
        refine hK.out _ _ ?_ (fun hHeld2 => ?_)
        · exact S2
        clear hK Kx hHeld
        have hHeld := hHeld2
        clear hHeld2
        try simp only [Act.put, List.setIfInBounds_toArray, List.set_cons_zero, List.set_cons_succ]
        obtain ⟨w5, hrun, hs5, ht5⟩ := hs2.put (by omega) b (by omega) (some ⟨g, l.length + 1, cap⟩)
        simp only [ixslV] at hrun
        have hg5 := ht5.grown
        obtain ⟨V1, V2, V3⟩ := HR1.out.turnS true b (some ⟨g, l.length + 1, cap⟩) (w1 := z2) (w2 := w5) G2.out (l' := l ++ [(a, b)]) HW2.out HQ2.out ⟨fun e => (by cases e), fun e => (by simp at e)⟩ hlies3 hs5 (Nat.le_succ _) hg5
        have V1 := Lib.hid (grow_S (q := (a, b)) V1 HL0.out)
        have V2 := Lib.hid V2
        have V3 := Lib.hid V3
        have S5 := ixS_of (X := w5) S2 (hg5.block xb (Nat.lt_of_lt_of_le HR1.out.lt G2.out.size) (fun e => HR1.out.xmap (.inr (.inr rfl)) (Option.some.inj e))) (hg5.block pb (Nat.lt_of_lt_of_le hpl G2.out.size) (fun e => HPN.out (.inr (.inr (.inr (.inl (Option.some.inj e)))))))
        clear hs2 hs5 ht5 hg5 hlies3 HW2 HQ2
        refine wpAnyH_ready (rs := [11]) (by as_aux_lemma => kernel_rfl) (by simp) ?_
        refine AllReadyH.cons (o := { dst := none, op := Op.mapUpdate 52 (Operand.tmp 35) (Operand.tmp 36) (Operand.tmp 40), type := 0, pos := "index.go:114", after := #[{ on := 5, ground := Ground.data }, { on := 6, ground := Ground.data }, { on := 10, ground := Ground.data }, { on := 10, ground := Ground.chain }, { on := 0, ground := Ground.phase }, { on := 1, ground := Ground.phase }, { on := 2, ground := Ground.phase }, { on := 3, ground := Ground.phase }, { on := 4, ground := Ground.phase }, { on := 5, ground := Ground.phase }, { on := 6, ground := Ground.phase }, { on := 7, ground := Ground.phase }, { on := 8, ground := Ground.phase }, { on := 9, ground := Ground.phase }, { on := 10, ground := Ground.phase }], guard := none }) rfl (fun Kx hK => ?_) AllReadyH.nil
        go_simp
        refine hK.out _ _ ?_ (fun hHeld2 => ?_)
        · exact S5
        clear hK Kx hHeld
        have hHeld := hHeld2
        clear hHeld2
        try simp only [Act.put, List.setIfInBounds_toArray, List.set_cons_zero, List.set_cons_succ]
        refine wpAnyH_done (by kernel_rfl) ?_ _
        have z0x := S5.2.1
        have z1x := S5.2.2
        clear S2 S5 hrun hHeld hq0 hq1 hq2
        go_wp2_with fail
        have hkk : l.length < (((x.addS false (a, b)).grow true (a, b)).S true b).length := by
          show l.length < (if true = true ∧ b = b then (x.addS false (a, b)).S true b ++ [(a, b)] else _).length
          rw [if_pos ⟨rfl, rfl⟩, HL0.out]
          simp
        refine (ixlay_c V1.out (by omega) a b ha hb hkk).mono ?_
        rintro e w6 ⟨rfl, Y1, Y2, Y3⟩
        have HV : Hid (∃ f', IxRaw w6 base xb (N + 2 * 2) (L.length + 1) (addN x (a, b) 2) mp m0 m1 f' ∧ Below base w3 w6 ∧ Turned w3 w6 (IxFoot xb mp m0 m1 f) (IxFoot xb mp m0 m1 f')) := by
          refine ⟨_, ?_, (HR2.out.trans V2.out).trans Y2, (HR3.out.trans V3.out).trans Y3⟩
          rw [if_pos (show (((x.addS false (a, b)).grow true (a, b)).P (a, b)).isSome = true from add_P _ _)] at Y1
          show IxRaw w6 base xb (N + 4) (L.length + 1) (((x.addS false (a, b)).grow true (a, b)).lay true ((x.addS false (a, b)).S true b).length (a, b)) mp m0 m1 _
          rw [HL0.out]
          exact Y1
        clear Y1 Y2 Y3 V1 V2 V3 z0x z1x
        go_wp2_with fail
        go_roundw
        case rel => exact ⟨2, by omega, by go_num, HV⟩
        case measure => simp [intOf]

      · skip
        obtain ⟨f1, R1, R2, R3⟩ := HR.out
        have R1 : IxRaw wr base xb (N + 4) (L.length + 1) (x.add (a, b)) mp m0 m1 f1 := R1
        have HZ : Hid (IxAt wr base xb (N + 4) (L ++ [(a, b)]) (x.add (a, b)) mp m0 m1 f1) := IxRaw.at R1 (by simp) (ix_add HA.out.has HP.out) (fun p hp => by
          rcases List.mem_append.1 hp with e | e
          · exact HA.out.short p e
          · rw [List.mem_singleton] at e
            subst e
            exact ⟨ha, hb⟩)
        have HB9 := Lib.hid (HB3.out.trans R2)
        have HT9 := Lib.hid (HT3.out.trans R3)
        clear R1 R2 R3
        go_wp2_with fail
        go_end0
        exact ⟨_, f1, rfl, HZ.out, HB9.out, HT9.out⟩

end Go.Proofs.Ytlckphdmflofgaa
end

section
/-
  LAYER 13, THE CODE: Set.
-/
namespace Go.Proofs.Ytlckphdmflofgaa
open Go.RowKit Go.ChangeMaps Go.MapKept

theorem IxAt.more {w : World} {base xb N M : Nat} {L : List Pr} {x : Ix} {mp m0 m1 : Nat} {f : Bool → List UInt8 → Option IxSl} (h : IxAt w base xb N L x mp m0 m1 f) (hm : N ≤ M) : IxAt w base xb M L x mp m0 m1 f :=
  { h with pairs := h.pairs.more hm, side := fun s => (h.side s).more hm }

set_option maxHeartbeats 1600000 in
set_option maxRecDepth 100000 in
theorem ixset_00 {w : World} {base xb N : Nat} {L : List Pr} {x : Ix} {mp m0 m1 : Nat} {f : Bool → List UInt8 → Option IxSl} (h : IxAt w base xb N L x mp m0 m1 f) (u v : List UInt8) (hu : u.length ≤ 60) (hv : v.length ≤ 60) (hp : (u, v) ∉ L) :
    Calls Try.prog 12 #[.pointer (some ⟨xb, 0, none⟩), .string ⟨u.toArray⟩, .string ⟨v.toArray⟩, .bool false] w fun e w' =>
      ∃ x' f', e = .returned (.bool false) ∧ IxAt w' base xb (N + 4) (L) x' mp m0 m1 f' ∧ Below base w w' ∧ Turned w w' (IxFoot xb mp m0 m1 f) (IxFoot xb mp m0 m1 f') := by
  have hq : ixHas L (u, v) = false := decide_eq_false hp
  have HH := Lib.hid (ixhas_any h u v (by omega) (by omega) hq)
  have hbw : base ≤ w.heap.size := Nat.le_trans h.low.1 (Nat.le_of_lt h.lt)
  have H := Lib.hid h
  
  clear h hq hp
  go_enter Try.func12, Try.ntmps12
  go_wp2_with fail
  refine HH.out.mono ?_
  rintro e w2 ⟨rfl, hb2⟩
  have HA2 := Lib.hid ((H.out.later hb2).more (show N ≤ N + 4 by omega))
  have HB2 := Lib.hid (hb2.mono hbw)
  have HT2 := Lib.hid (turned_below (F := IxFoot xb mp m0 m1 f) hb2)
  clear hb2
  go_wp2_with fail
  exact bodyPost_ret (v := .bool false) (by simp [results, Try.results12, go_sem]) rfl ⟨x, f, rfl, HA2.out, HB2.out, HT2.out⟩

set_option maxHeartbeats 1600000 in
set_option maxRecDepth 100000 in
theorem ixset_01 {w : World} {base xb N : Nat} {L : List Pr} {x : Ix} {mp m0 m1 : Nat} {f : Bool → List UInt8 → Option IxSl} (h : IxAt w base xb N L x mp m0 m1 f) (hN : N ≤ 99990) (u v : List UInt8) (hu : u.length ≤ 60) (hv : v.length ≤ 60) (hp : (u, v) ∉ L) (hl : L.length ≤ 1000) :
    Calls Try.prog 12 #[.pointer (some ⟨xb, 0, none⟩), .string ⟨u.toArray⟩, .string ⟨v.toArray⟩, .bool true] w fun e w' =>
      ∃ x' f', e = .returned (.bool true) ∧ IxAt w' base xb (N + 4) (L ++ [(u, v)]) x' mp m0 m1 f' ∧ Below base w w' ∧ Turned w w' (IxFoot xb mp m0 m1 f) (IxFoot xb mp m0 m1 f') := by
  have hq : ixHas L (u, v) = false := decide_eq_false hp
  have HH := Lib.hid (ixhas_any h u v (by omega) (by omega) hq)
  have hbw : base ≤ w.heap.size := Nat.le_trans h.low.1 (Nat.le_of_lt h.lt)
  have H := Lib.hid h
  have HP := Lib.hid hp
  clear h hq hp
  go_enter Try.func12, Try.ntmps12
  go_wp2_with fail
  refine HH.out.mono ?_
  rintro e w2 ⟨rfl, hb2⟩
  have H2 := Lib.hid (H.out.later hb2)
  have HB2 := Lib.hid (hb2.mono hbw)
  have HT2 := Lib.hid (turned_below (F := IxFoot xb mp m0 m1 f) hb2)
  clear hb2
  go_wp2_with fail
  refine (ixadd_any H2.out hN u v hu hv HP.out hl).mono ?_
  rintro e w3 ⟨x', f', rfl, V1, V2, V3⟩
  have V1 := Lib.hid V1
  have V2 := Lib.hid (HB2.out.trans V2)
  have V3 := Lib.hid (HT2.out.trans V3)
  go_wp2_with fail
  exact bodyPost_ret (v := .bool true) (by simp [results, Try.results12, go_sem]) rfl ⟨x', f', rfl, V1.out, V2.out, V3.out⟩

set_option maxHeartbeats 1600000 in
set_option maxRecDepth 100000 in
theorem ixset_10 {w : World} {base xb N : Nat} {L : List Pr} {x : Ix} {mp m0 m1 : Nat} {f : Bool → List UInt8 → Option IxSl} (h : IxAt w base xb N L x mp m0 m1 f) (hN : N ≤ 99990) (u v : List UInt8) (hu : u.length ≤ 60) (hv : v.length ≤ 60) (hp : (u, v) ∈ L) (hl : L.length ≤ 1000) :
    Calls Try.prog 12 #[.pointer (some ⟨xb, 0, none⟩), .string ⟨u.toArray⟩, .string ⟨v.toArray⟩, .bool false] w fun e w' =>
      ∃ x' f', e = .returned (.bool true) ∧ IxAt w' base xb (N + 4) (L.filter (· ≠ (u, v))) x' mp m0 m1 f' ∧ Below base w w' ∧ Turned w w' (IxFoot xb mp m0 m1 f) (IxFoot xb mp m0 m1 f') := by
  have hq : ixHas L (u, v) = true := decide_eq_true hp
  have HH := Lib.hid (ixhas_any h u v (by omega) (by omega) hq)
  have hbw : base ≤ w.heap.size := Nat.le_trans h.low.1 (Nat.le_of_lt h.lt)
  have H := Lib.hid h
  have HP := Lib.hid hp
  clear h hq hp
  go_enter Try.func12, Try.ntmps12
  go_wp2_with fail
  refine HH.out.mono ?_
  rintro e w2 ⟨rfl, hb2⟩
  have H2 := Lib.hid (H.out.later hb2)
  have HB2 := Lib.hid (hb2.mono hbw)
  have HT2 := Lib.hid (turned_below (F := IxFoot xb mp m0 m1 f) hb2)
  clear hb2
  go_wp2_with fail
  refine (ixremove_any H2.out hN u v HP.out hl).mono ?_
  rintro e w3 ⟨x', f', rfl, V1, V2, V3⟩
  have V1 := Lib.hid V1
  have V2 := Lib.hid (HB2.out.trans V2)
  have V3 := Lib.hid (HT2.out.trans V3)
  go_wp2_with fail
  exact bodyPost_ret (v := .bool true) (by simp [results, Try.results12, go_sem]) rfl ⟨x', f', rfl, V1.out, V2.out, V3.out⟩

set_option maxHeartbeats 1600000 in
set_option maxRecDepth 100000 in
theorem ixset_11 {w : World} {base xb N : Nat} {L : List Pr} {x : Ix} {mp m0 m1 : Nat} {f : Bool → List UInt8 → Option IxSl} (h : IxAt w base xb N L x mp m0 m1 f) (u v : List UInt8) (hu : u.length ≤ 60) (hv : v.length ≤ 60) (hp : (u, v) ∈ L) :
    Calls Try.prog 12 #[.pointer (some ⟨xb, 0, none⟩), .string ⟨u.toArray⟩, .string ⟨v.toArray⟩, .bool true] w fun e w' =>
      ∃ x' f', e = .returned (.bool false) ∧ IxAt w' base xb (N + 4) (L) x' mp m0 m1 f' ∧ Below base w w' ∧ Turned w w' (IxFoot xb mp m0 m1 f) (IxFoot xb mp m0 m1 f') := by
  have hq : ixHas L (u, v) = true := decide_eq_true hp
  have HH := Lib.hid (ixhas_any h u v (by omega) (by omega) hq)
  have hbw : base ≤ w.heap.size := Nat.le_trans h.low.1 (Nat.le_of_lt h.lt)
  have H := Lib.hid h
  
  clear h hq hp
  go_enter Try.func12, Try.ntmps12
  go_wp2_with fail
  refine HH.out.mono ?_
  rintro e w2 ⟨rfl, hb2⟩
  have HA2 := Lib.hid ((H.out.later hb2).more (show N ≤ N + 4 by omega))
  have HB2 := Lib.hid (hb2.mono hbw)
  have HT2 := Lib.hid (turned_below (F := IxFoot xb mp m0 m1 f) hb2)
  clear hb2
  go_wp2_with fail
  exact bodyPost_ret (v := .bool false) (by simp [results, Try.results12, go_sem]) rfl ⟨x, f, rfl, HA2.out, HB2.out, HT2.out⟩

theorem ixset_any {w : World} {base xb N : Nat} {L : List Pr} {x : Ix} {mp m0 m1 : Nat} {f : Bool → List UInt8 → Option IxSl} (h : IxAt w base xb N L x mp m0 m1 f) (hN : N ≤ 99990) (u v : List UInt8) (hu : u.length ≤ 60) (hv : v.length ≤ 60) (hl : L.length ≤ 1000) (on : Bool) {L' : List Pr} {r : Bool} (hs : ixSet L (u, v) on = (L', r)) :
    Calls Try.prog 12 #[.pointer (some ⟨xb, 0, none⟩), .string ⟨u.toArray⟩, .string ⟨v.toArray⟩, .bool on] w fun e w' =>
      ∃ x' f', e = .returned (.bool r) ∧ IxAt w' base xb (N + 4) L' x' mp m0 m1 f' ∧ Below base w w' ∧ Turned w w' (IxFoot xb mp m0 m1 f) (IxFoot xb mp m0 m1 f') := by
  unfold ixSet ixHas at hs
  by_cases hp : (u, v) ∈ L
  · rw [decide_eq_true hp] at hs
    cases on with
    | true =>
      rw [if_pos rfl] at hs
      cases hs
      exact ixset_11 h u v hu hv hp
    | false =>
      rw [if_neg (by decide), if_neg (by decide)] at hs
      cases hs
      exact ixset_10 h hN u v hu hv hp hl
  · rw [decide_eq_false hp] at hs
    cases on with
    | true =>
      rw [if_neg (by decide), if_pos rfl] at hs
      cases hs
      exact ixset_01 h hN u v hu hv hp hl
    | false =>
      rw [if_pos rfl] at hs
      cases hs
      exact ixset_00 h u v hu hv hp

end Go.Proofs.Ytlckphdmflofgaa
end

section
/-
  LAYER 13, THE CODE: Forget.
-/
namespace Go.Proofs.Ytlckphdmflofgaa
open Go.RowKit Go.ChangeMaps Go.MapKept

/-- What holds between two pairs that are taken off. -/
def ForgAt (w0 w : World) (base xb N : Nat) (L : List Pr) (u : List UInt8) (F : Nat → Prop) (mp m0 m1 g : Nat) : Prop :=
  ∃ M Lc x f, IxAt w base xb M Lc x mp m0 m1 f ∧ M + 4 * Lc.length ≤ N + 4 * L.length ∧ Lc.length + g = L.length ∧ Lc.filter (ixFree u) = ixForget L u ∧ Below base w0 w ∧ Turned w0 w F (IxFoot xb mp m0 m1 f)

theorem idxm0 (w : World) (a b : Nat) : (Instr.index 53 (.agg #[.map (some a), .map (some b)]) (.int .i64 0)).run Try.prog w = .ok (.map (some a)) w := by kernel_rfl
theorem idxm1 (w : World) (a b : Nat) : (Instr.index 53 (.agg #[.map (some a), .map (some b)]) (.int .i64 1)).run Try.prog w = .ok (.map (some b)) w := by kernel_rfl

theorem filter_two (L : List Pr) (p : Pr) (u : List UInt8) (hn : L.Nodup) (hp : p ∈ L) (s : Bool) (hs : pcOf s p = u) {L0 : List Pr} (h : L.filter (ixFree u) = ixForget L0 u) : (L.filter (· ≠ p)).filter (ixFree u) = ixForget L0 u ∧ (L.filter (· ≠ p)).length + 1 = L.length := forget_step hn hp hs h

set_option maxHeartbeats 6400000 in
set_option maxRecDepth 100000 in
theorem ixforget_any {w : World} {base xb N : Nat} {L : List Pr} {x0 : Ix} {mp m0 m1 : Nat} {f0 : Bool → List UInt8 → Option IxSl} (h : IxAt w base xb N L x0 mp m0 m1 f0) (hN : N + 4 * L.length ≤ 99990) (hl : L.length ≤ 1000) (u : List UInt8) (hu : u.length ≤ 60) :
    Calls Try.prog 16 #[.pointer (some ⟨xb, 0, none⟩), .string ⟨u.toArray⟩] w fun e w' =>
      ∃ M x' f', e = .returned (.int .i64 ((L.length : Int) - (ixForget L u).length)) ∧ M + 4 * (ixForget L u).length ≤ N + 4 * L.length ∧ IxAt w' base xb M (ixForget L u) x' mp m0 m1 f' ∧ Below base w w' ∧ Turned w w' (IxFoot xb mp m0 m1 f0) (IxFoot xb mp m0 m1 f') := by
  have H := Lib.hid h
  have i0 := fun w => idxm0 w m0 m1
  have i1 := fun w => idxm1 w m0 m1
  clear h
  go_enter Try.func16, Try.ntmps16
  go_wp2_with fail
  go_step3
  go_wp2_with fail
  go_step3
  go_wp2_with fail
  go_loopw [5] (fun s wr => ∃ g : Nat, g ≤ L.length ∧ s = .int .i64 g ∧ Hid (ForgAt w wr base xb N L u (IxFoot xb mp m0 m1 f0) mp m0 m1 g)) (fun s _ => L.length - (intOf s).toNat)
  case atStart => exact ⟨0, by omega, rfl, N, L, x0, f0, H.out, Nat.le_refl _, by omega, rfl, Below.refl _ _, turned_below (Below.refl _ _)⟩
  case round =>
    obtain ⟨g, hg, rfl, HR⟩ := hrel
    obtain ⟨M, Lc, x, f, R1, hM, hLg, hfi, hbel, htu⟩ := HR.out
    have HFI := Lib.hid hfi
    have HB := Lib.hid hbel
    have HT := Lib.hid htu
    obtain ⟨c0, c1, c2⟩ := R1.cells
    have l0 := (R1.side false).look u (by omega)
    have l1 := (R1.side true).look u (by omega)
    simp only [sdOf, Bool.false_eq_true, if_false, if_true] at l0 l1
    clear hfi hbel htu HR
    go_wp2_with fail
    go_loop [5, 15] (fun s t => ∃ k : Nat, k ≤ 2 ∧ s = .int .i64 g ∧ t = .int .i64 k ∧ (k = 1 → x.S false u = []) ∧ (k = 2 → x.S false u = [] ∧ x.S true u = [])) (fun _ t => 2 - (intOf t).toNat)
    case atStart => exact ⟨0, by omega, rfl, rfl, fun h => absurd h (by omega), fun h => absurd h (by omega)⟩
    case round =>
      obtain ⟨k, hk, rfl, rfl, ha, hb⟩ := hrel
      have H0 := Lib.hid ha
      have H1 := Lib.hid hb
      clear ha hb
      rcases (show k = 0 ∨ k = 1 ∨ k = 2 by omega) with rfl | rfl | rfl
      · have hlook := l0
        clear l0
        have l0 := True.intro
        cases ef : f false u with
        | none =>
          rw [ef] at hlook
          simp only [ixslV] at hlook
          have he := Lib.hid ((R1.nil false u).1 ef)
          clear ef
          go_wp2_with fail
          go_round
          case rel => exact ⟨1, by omega, rfl, by go_num, fun _ => he.out, fun h => absurd h (by omega)⟩
          case measure => simp [intOf]
        | some sl =>
          obtain ⟨q1, q2, q3, q4, q5, q6, -⟩ := R1.raw.row ef
          obtain ⟨sg, sn, sc⟩ := sl
          simp only at q1 q2 q3 q4 q5 q6
          have hne : x.S false u ≠ [] := fun e => by rw [(R1.nil false u).2 e] at ef; cases ef
          obtain ⟨mm, z, hmz⟩ : ∃ mm z, x.S false u = mm ++ [z] := ⟨_, _, (List.dropLast_concat_getLast hne).symm⟩
          have hz := ((R1.has.side false).mem u z).1 (by rw [hmz]; simp)
          have hsl := side_len R1.has false u
          rw [hmz] at q1 q6 hsl
          obtain ⟨ml, hml⟩ : ∃ ml, mm.length = ml := ⟨_, rfl⟩
          have hlen : (mm ++ [z]).length = ml + 1 := by simp [hml]
          rw [hlen] at q1 hsl
          subst q1
          rw [ef] at hlook
          simp only [ixslV] at hlook
          have gz : (mm ++ [z]).getD ml ([], []) = z := by rw [← hml]; simp
          have s0 := q6.row prOK (k := ml) (by rw [hlen]; omega) 0 _ rfl
          have s1 := q6.row prOK (k := ml) (by rw [hlen]; omega) 1 _ rfl
          simp only [Nat.add_zero, gz] at s0 s1
          obtain ⟨z1, z2⟩ := z
          have hcm : sc ≤ 9223372036854775807 := by unfold maxLen at q5; omega
          have hw : IntKind.i64.wrap ((ml : Int) + 1 - 1) = ml := by rw [Int.add_sub_cancel]; exact IntWalk.i64_in _ (by omega)
          have hw3 : IntKind.i64.wrap (ml : Int) = ml := IntWalk.i64_in _ (by omega)
          have hw4 : IntKind.i64.wrap ((g : Int) + 1) = (g : Int) + 1 := IntWalk.i64_in _ (by omega)
          have t0 : (0 : Int) ≤ (ml : Int) := by omega
          have t1 : (ml : Int) < (ml : Int) + 1 := by omega
          have t2 : (0 : Int) < (ml : Int) + 1 := by omega
          have t3 : decide ((0 : Int) < (ml : Int) + 1) = true := decide_eq_true (by omega)
          have HZ := Lib.hid hz.1
          have HU := Lib.hid hz.2
          have HR1 := Lib.hid R1
          clear hz hmz hlen gz q6 ef hml
          go_wp2_with fail
          refine (ixremove_any HR1.out (by omega) z1 z2 HZ.out (by omega)).mono ?_
          rintro e w5 ⟨x5, f5, rfl, V1, V2, V3⟩
          have HX : Hid (ForgAt w w5 base xb N L u (IxFoot xb mp m0 m1 f0) mp m0 m1 (g + 1)) := by
            obtain ⟨A, B⟩ := filter_two Lc (z1, z2) u HR1.out.has.nd HZ.out false HU.out HFI.out
            exact ⟨_, _, x5, f5, V1, by omega, by omega, A, HB.out.trans V2, HT.out.trans V3⟩
          clear V1 V2 V3 s0 s1 hlook c0 c1 c2 l0 l1
          go_wp2_with fail
          go_roundw
          case rel => exact ⟨g + 1, by omega, by go_num, HX⟩
          case measure => simp [intOf]; omega

      · have hlook := l1
        clear l1
        have l1 := True.intro
        cases ef : f true u with
        | none =>
          rw [ef] at hlook
          simp only [ixslV] at hlook
          have he := Lib.hid ((R1.nil true u).1 ef)
          clear ef
          go_wp2_with fail
          go_round
          case rel => exact ⟨2, by omega, rfl, by go_num, fun h => absurd h (by omega), fun _ => ⟨H0.out rfl, he.out⟩⟩
          case measure => simp [intOf]
        | some sl =>
          obtain ⟨q1, q2, q3, q4, q5, q6, -⟩ := R1.raw.row ef
          obtain ⟨sg, sn, sc⟩ := sl
          simp only at q1 q2 q3 q4 q5 q6
          have hne : x.S true u ≠ [] := fun e => by rw [(R1.nil true u).2 e] at ef; cases ef
          obtain ⟨mm, z, hmz⟩ : ∃ mm z, x.S true u = mm ++ [z] := ⟨_, _, (List.dropLast_concat_getLast hne).symm⟩
          have hz := ((R1.has.side true).mem u z).1 (by rw [hmz]; simp)
          have hsl := side_len R1.has true u
          rw [hmz] at q1 q6 hsl
          obtain ⟨ml, hml⟩ : ∃ ml, mm.length = ml := ⟨_, rfl⟩
          have hlen : (mm ++ [z]).length = ml + 1 := by simp [hml]
          rw [hlen] at q1 hsl
          subst q1
          rw [ef] at hlook
          simp only [ixslV] at hlook
          have gz : (mm ++ [z]).getD ml ([], []) = z := by rw [← hml]; simp
          have s0 := q6.row prOK (k := ml) (by rw [hlen]; omega) 0 _ rfl
          have s1 := q6.row prOK (k := ml) (by rw [hlen]; omega) 1 _ rfl
          simp only [Nat.add_zero, gz] at s0 s1
          obtain ⟨z1, z2⟩ := z
          have hcm : sc ≤ 9223372036854775807 := by unfold maxLen at q5; omega
          have hw : IntKind.i64.wrap ((ml : Int) + 1 - 1) = ml := by rw [Int.add_sub_cancel]; exact IntWalk.i64_in _ (by omega)
          have hw3 : IntKind.i64.wrap (ml : Int) = ml := IntWalk.i64_in _ (by omega)
          have hw4 : IntKind.i64.wrap ((g : Int) + 1) = (g : Int) + 1 := IntWalk.i64_in _ (by omega)
          have t0 : (0 : Int) ≤ (ml : Int) := by omega
          have t1 : (ml : Int) < (ml : Int) + 1 := by omega
          have t2 : (0 : Int) < (ml : Int) + 1 := by omega
          have t3 : decide ((0 : Int) < (ml : Int) + 1) = true := decide_eq_true (by omega)
          have HZ := Lib.hid hz.1
          have HU := Lib.hid hz.2
          have HR1 := Lib.hid R1
          clear hz hmz hlen gz q6 ef hml
          go_wp2_with fail
          refine (ixremove_any HR1.out (by omega) z1 z2 HZ.out (by omega)).mono ?_
          rintro e w5 ⟨x5, f5, rfl, V1, V2, V3⟩
          have HX : Hid (ForgAt w w5 base xb N L u (IxFoot xb mp m0 m1 f0) mp m0 m1 (g + 1)) := by
            obtain ⟨A, B⟩ := filter_two Lc (z1, z2) u HR1.out.has.nd HZ.out true HU.out HFI.out
            exact ⟨_, _, x5, f5, V1, by omega, by omega, A, HB.out.trans V2, HT.out.trans V3⟩
          clear V1 V2 V3 s0 s1 hlook c0 c1 c2 l0 l1
          go_wp2_with fail
          go_roundw
          case rel => exact ⟨g + 1, by omega, by go_num, HX⟩
          case measure => simp [intOf]; omega

      · have hFin := Lib.hid (forget_end R1.has (H1.out rfl).1 (H1.out rfl).2 HFI.out)
        have HR1 := Lib.hid R1
        clear l0 l1
        go_wp2_with fail
        go_ret
        have e := hFin.out
        subst e
        exact ⟨M, x, f, by rw [show (L.length : Int) - (ixForget L u).length = g by omega]; rfl, hM, HR1.out, HB.out, HT.out⟩

end Go.Proofs.Ytlckphdmflofgaa
end

section
/-
  THE CONTRACTS OF varint.Put, Size, Text AND OF THE DOCUMENT'S ANSWERS TO THEM: each returns what the plain mathematics says, and writes nothing that was there.
-/
namespace Go.Proofs.Ytlckphdmflofgaa
open Go.RowKit

end Go.Proofs.Ytlckphdmflofgaa
end

section
/-
  THE CONTRACTS OF varint.Get, Take AND OF THE DOCUMENT'S ANSWERS TO THEM.
-/
namespace Go.Proofs.Ytlckphdmflofgaa
open Go.RowKit

/-- Three results: number, place, error. -/
def triple (r : Nat × Nat × Nat) : Value := .tuple #[.int .u64 r.1, .int .i64 r.2.1, .int .i64 r.2.2]

/-- What holds at each jump back. -/
def GetJ (l : List UInt8) (q : Nat) (w : World) (a' : Act) (w' : World) : Prop := w' = w ∧ ∃ (i acc p sh : Nat) (u10 u11 u12 u13 u14 u15 u16 u17 u18 u19 u20 u21 u22 u23 u24 u25 u26 u27 u28 u29 u30 u31 u32 u33 u34 u35 u36 u37 u38 u39 u40 u41 u42 u43 u44 u45 u46 u47 u48 u49 u50 u51 u52 u53 u54 u55 u56 : Value), i ≤ 9 ∧ 1 ≤ i ∧ p ≤ l.length ∧ Hid (GetAt l q i acc p sh) ∧
      a' = { tmps := #[.string ⟨l.toArray⟩, .int .i64 q, undef, undef, .int .u64 0, .int .i64 0, .int .i64 0, .int .u64 acc, .int .u64 sh, .int .i64 p, u10, u11, u12, u13, u14, u15, u16, u17, u18, u19, u20, u21, u22, u23, u24, u25, u26, u27, u28, u29, u30, u31, u32, u33, u34, u35, u36, u37, u38, u39, u40, u41, u42, u43, u44, u45, u46, u47, u48, u49, u50, u51, u52, u53, u54, u55, u56], defers := [] }

def GetM (l : List UInt8) (a' : Act) (_ : World) : Nat := l.length - (intOf (a'.tmps.getD 9 undef)).toNat

end Go.Proofs.Ytlckphdmflofgaa
end

section
/-
  THE CONTRACT OF THE DOCUMENT'S ANSWER TO varint.Get.
-/
namespace Go.Proofs.Ytlckphdmflofgaa
open Go.RowKit

end Go.Proofs.Ytlckphdmflofgaa
end

section
/-
  THE CONTRACTS OF varint.Take AND OF THE DOCUMENT'S ANSWER TO IT.
-/
namespace Go.Proofs.Ytlckphdmflofgaa
open Go.RowKit

/-- Three results: text, place, error. -/
def tripleS (r : List UInt8 × Nat × Nat) : Value := .tuple #[.string ⟨r.1.toArray⟩, .int .i64 r.2.1, .int .i64 r.2.2]

end Go.Proofs.Ytlckphdmflofgaa
end

section
/-
  CONTRACTS OF GO'S OWN LIBRARY AT THIS PROGRAM, LAID WITHOUT A WALK: the tables of numbers and one application each (strings.Builder, strings.Compare, cmp.Compare, slices.Compact, slices.SortFunc).
-/
namespace Go.Proofs.Ytlckphdmflofgaa
open Go.Shelf Go.RowKit

def Try.lays106_ren : Go.Shelf.Ren := ⟨fun | 106 => 88 | 213 => 103 | 265 => 111 | n => n, fun | 9 => 9 | 3 => 3 | n => n, fun | n => n⟩

theorem Try.lays106 : Go.Proofs.Lays.n106 Try.prog Try.lays106_ren := {
  mixed := by kernel_rfl
  f106 := Try.func88.trans (congrArg some (by kernel_rfl))
  f213 := Try.func103.trans (congrArg some (by kernel_rfl))
  f265 := Try.func111.trans (congrArg some (by kernel_rfl))
  t3 := Try.underlying3
  a3 := Try.isAgg3
  z3 := Try.sizeOf3
  v3 := Try.zeroValue3
  t9 := Try.underlying9
  a9 := Try.isAgg9
  z9 := Try.sizeOf9
  v9 := Try.zeroValue9 }

open Go.RowKit in
theorem Try.strings_Compare (a b : ByteArray) (w : World) :
    Calls Try.prog 88 #[.string a, .string b] w fun e w' => e = .returned (.int .i64 (Lib.compareBytes a.data.toList b.data.toList)) ∧ w' = w := Any.strings_Compare Try.lays106 a b w

def Try.lays122_ren : Go.Shelf.Ren := ⟨fun | 122 => 87 | 215 => 102 | n => n, fun | 3 => 3 | 4 => 4 | n => n, fun | n => n⟩

theorem Try.lays122 : Go.Proofs.Lays.n122 Try.prog Try.lays122_ren := {
  mixed := by kernel_rfl
  f122 := Try.func87.trans (congrArg some (by kernel_rfl))
  f215 := Try.func102.trans (congrArg some (by kernel_rfl))
  t3 := Try.underlying3
  a3 := Try.isAgg3
  z3 := Try.sizeOf3
  v3 := Try.zeroValue3
  t4 := Try.underlying4
  a4 := Try.isAgg4
  z4 := Try.sizeOf4
  v4 := Try.zeroValue4 }

open Go.RowKit in
theorem Try.cmp_Compare_int (x y : Int) (w : World) :
    Calls Try.prog 87 #[.int .i64 x, .int .i64 y] w fun e w' => e = .returned (.int .i64 (Lib.compareInt x y)) ∧ w' = w := Any.cmp_Compare_int Try.lays122 x y w

def Try.lays194_ren : Go.Shelf.Ren := ⟨fun | 194 => 48 | n => n, fun | 31 => 38 | 9 => 9 | 3 => 3 | 4 => 4 | 0 => 0 | n => n, fun | n => n⟩

theorem Try.lays194 : Go.Proofs.Lays.n194 Try.prog Try.lays194_ren := {
  mixed := by kernel_rfl
  f194 := Try.func48.trans (congrArg some (by kernel_rfl))
  t0 := Try.underlying0
  a0 := Try.isAgg0
  z0 := Try.sizeOf0
  v0 := Try.zeroValue0
  t3 := Try.underlying3
  a3 := Try.isAgg3
  z3 := Try.sizeOf3
  v3 := Try.zeroValue3
  t4 := Try.underlying4
  a4 := Try.isAgg4
  z4 := Try.sizeOf4
  v4 := Try.zeroValue4
  t9 := Try.underlying9
  a9 := Try.isAgg9
  z9 := Try.sizeOf9
  v9 := Try.zeroValue9
  t31 := Try.underlying38
  a31 := Try.isAgg38
  z31 := Try.sizeOf38
  v31 := Try.zeroValue38 }

open Go.RowKit Go.Lib Go.Sort in
theorem Try.slices_Compact_string_empty (a : Option Addr) (cap : Nat) (w : World) :
    Calls Try.prog 48 #[.slice a 0 cap] w fun e w' => e = .returned (.slice a 0 cap) ∧ w' = w := Any.slices_Compact_string_empty Try.lays194 a cap w

def Try.laysSlE43_f37_ren : Go.Shelf.Ren := ⟨fun | 43 => 48 | n => n, fun | 22 => 38 | 23 => 9 | 3 => 3 | 4 => 4 | 0 => 0 | n => n, fun | n => n⟩

theorem Try.laysSlE43_f37 : Go.Proofs.SlLaysE.n43 Try.prog Try.laysSlE43_f37_ren := {
  mixed := by kernel_rfl
  f43 := ⟨Try.f48.name, by decide, Try.func48.trans (congrArg some (by kernel_rfl))⟩
  t0 := Try.underlying0
  a0 := Try.isAgg0
  z0 := Try.sizeOf0
  v0 := Try.zeroValue0
  t3 := Try.underlying3
  a3 := Try.isAgg3
  z3 := Try.sizeOf3
  v3 := Try.zeroValue3
  t4 := Try.underlying4
  a4 := Try.isAgg4
  z4 := Try.sizeOf4
  v4 := Try.zeroValue4
  t22 := Try.underlying38
  a22 := Try.isAgg38
  z22 := Try.sizeOf38
  v22 := Try.zeroValue38
  a23 := Try.isAgg9
  z23 := Try.sizeOf9 }

open Go.RowKit Go.Lib Go.Sort in
theorem Try.slices_Compact {α : Type} [Inhabited α] [DecidableEq α] (enc : α → Value) (hO : OneCell enc) (heq : EqlAt Try.prog 9 enc (fun x y => decide (x = y))) (hne : NeqAt Try.prog 9 enc (fun x y => decide (x = y))) (zr : α) (v23 : ∀ w, (zeroValue 9).run Try.prog w = .ok (enc zr) w) (blk off cap : Nat) (d : Array α) (w : World) (hH : Holds enc w blk off d) (hsz : d.size ≤ 9223372036854775807) (hcap : d.size ≤ cap) :
    Calls Try.prog 48 #[.slice (some ⟨blk, off, none⟩) d.size cap] w fun e w' => e = .returned (.slice (some ⟨blk, off, none⟩) (compactUpTo d d.size).length cap) ∧ ∃ q, w' = putRow enc (Sort.ahead w q) blk off (compactUpTo d d.size ++ List.replicate (d.size - (compactUpTo d d.size).length) zr).toArray := AnyE.slices_Compact Try.laysSlE43_f37 enc hO heq hne zr v23 blk off cap d w hH hsz hcap

def Try.laysSlF6_f36_ren : Go.Shelf.Ren := ⟨fun | 6 => 69 | 15 => 85 | 14 => 84 | 28 => 100 | 29 => 101 | 20 => 92 | 21 => 93 | 22 => 94 | 23 => 95 | 24 => 96 | 25 => 97 | 26 => 98 | 27 => 99 | 46 => 106 | 47 => 107 | 48 => 108 | 49 => 109 | 50 => 110 | 57 => 112 | n => n, fun | 22 => 38 | 24 => 9 | 25 => 104 | 3 => 3 | 39 => 117 | 0 => 0 | 53 => 128 | 55 => 130 | 4 => 4 | 46 => 122 | 45 => 121 | 50 => 90 | 5 => 5 | 9 => 9 | 66 => 133 | 70 => 137 | 76 => 139 | 77 => 140 | n => n, fun | n => n⟩

theorem Try.laysSlF6_f36 : Go.Proofs.SlLaysF.n6 Try.prog Try.laysSlF6_f36_ren := {
  mixed := by kernel_rfl
  f6 := ⟨Try.f69.name, by decide, Try.func69.trans (congrArg some (by kernel_rfl))⟩
  f14 := ⟨Try.f84.name, by decide, Try.func84.trans (congrArg some (by kernel_rfl))⟩
  f15 := Try.func85.trans (congrArg some (by kernel_rfl))
  f20 := ⟨Try.f92.name, by decide, Try.func92.trans (congrArg some (by kernel_rfl))⟩
  f21 := ⟨Try.f93.name, by decide, Try.func93.trans (congrArg some (by kernel_rfl))⟩
  f22 := ⟨Try.f94.name, by decide, Try.func94.trans (congrArg some (by kernel_rfl))⟩
  f23 := ⟨Try.f95.name, by decide, Try.func95.trans (congrArg some (by kernel_rfl))⟩
  f24 := ⟨Try.f96.name, by decide, Try.func96.trans (congrArg some (by kernel_rfl))⟩
  f25 := ⟨Try.f97.name, by decide, Try.func97.trans (congrArg some (by kernel_rfl))⟩
  f26 := ⟨Try.f98.name, by decide, Try.func98.trans (congrArg some (by kernel_rfl))⟩
  f27 := ⟨Try.f99.name, by decide, Try.func99.trans (congrArg some (by kernel_rfl))⟩
  f28 := Try.func100.trans (congrArg some (by kernel_rfl))
  f29 := Try.func101.trans (congrArg some (by kernel_rfl))
  f46 := ⟨Try.f106.name, by decide, Try.func106.trans (congrArg some (by kernel_rfl))⟩
  f47 := Try.func107.trans (congrArg some (by kernel_rfl))
  f48 := Try.func108.trans (congrArg some (by kernel_rfl))
  f49 := ⟨Try.f109.name, by decide, Try.func109.trans (congrArg some (by kernel_rfl))⟩
  f50 := ⟨Try.f110.name, by decide, Try.func110.trans (congrArg some (by kernel_rfl))⟩
  f57 := ⟨Try.f112.name, by decide, Try.func112.trans (congrArg some (by kernel_rfl))⟩
  t0 := Try.underlying0
  a0 := Try.isAgg0
  z0 := Try.sizeOf0
  v0 := Try.zeroValue0
  t3 := Try.underlying3
  a3 := Try.isAgg3
  z3 := Try.sizeOf3
  v3 := Try.zeroValue3
  t4 := Try.underlying4
  a4 := Try.isAgg4
  z4 := Try.sizeOf4
  v4 := Try.zeroValue4
  t5 := Try.underlying5
  a5 := Try.isAgg5
  z5 := Try.sizeOf5
  v5 := Try.zeroValue5
  t9 := Try.underlying9
  a9 := Try.isAgg9
  z9 := Try.sizeOf9
  v9 := Try.zeroValue9
  t22 := Try.underlying38
  a22 := Try.isAgg38
  z22 := Try.sizeOf38
  v22 := Try.zeroValue38
  a24 := Try.isAgg9
  z24 := Try.sizeOf9
  t25 := Try.underlying104
  a25 := Try.isAgg104
  z25 := Try.sizeOf104
  v25 := Try.zeroValue104
  t39 := Try.underlying117
  a39 := Try.isAgg117
  z39 := Try.sizeOf117
  v39 := Try.zeroValue117
  t45 := Try.underlying121
  a45 := Try.isAgg121
  z45 := Try.sizeOf121
  v45 := Try.zeroValue121
  t46 := Try.underlying122
  a46 := Try.isAgg122
  z46 := Try.sizeOf122
  v46 := Try.zeroValue122
  t50 := Try.underlying90
  a50 := Try.isAgg90
  z50 := Try.sizeOf90
  v50 := Try.zeroValue90
  t53 := Try.underlying128
  a53 := Try.isAgg128
  z53 := Try.sizeOf128
  v53 := Try.zeroValue128
  t55 := Try.underlying130
  a55 := Try.isAgg130
  z55 := Try.sizeOf130
  v55 := Try.zeroValue130
  t66 := Try.underlying133
  a66 := Try.isAgg133
  z66 := Try.sizeOf133
  v66 := Try.zeroValue133
  t70 := Try.underlying137
  a70 := Try.isAgg137
  z70 := Try.sizeOf137
  v70 := Try.zeroValue137
  t76 := Try.underlying139
  a76 := Try.isAgg139
  z76 := Try.sizeOf139
  v76 := Try.zeroValue139
  t77 := Try.underlying140
  a77 := Try.isAgg140
  z77 := Try.sizeOf140
  v77 := Try.zeroValue140 }

def Try.laysSlF06_f36_ren : Go.Shelf.Ren := ⟨fun | 6 => 69 | 15 => 85 | 14 => 84 | 28 => 100 | 29 => 101 | 20 => 92 | 21 => 93 | 22 => 94 | 23 => 95 | 24 => 96 | 25 => 97 | 26 => 98 | 27 => 99 | 46 => 106 | 47 => 107 | 48 => 108 | 49 => 109 | 50 => 110 | 57 => 112 | n => n, fun | 22 => 38 | 24 => 9 | 25 => 104 | 3 => 3 | 39 => 117 | 0 => 0 | 53 => 128 | 55 => 130 | 4 => 4 | 46 => 122 | 45 => 121 | 50 => 90 | 5 => 5 | 9 => 9 | 66 => 133 | 70 => 137 | 76 => 139 | 77 => 140 | n => n, fun | n => n⟩

theorem Try.laysSlF06_f36 : Go.Proofs.SlLaysF0.n6 Try.prog Try.laysSlF06_f36_ren := {
  mixed := by kernel_rfl
  f6 := ⟨Try.f69.name, by decide, Try.func69.trans (congrArg some (by kernel_rfl))⟩
  f14 := ⟨Try.f84.name, by decide, Try.func84.trans (congrArg some (by kernel_rfl))⟩
  f15 := Try.func85.trans (congrArg some (by kernel_rfl))
  f20 := ⟨Try.f92.name, by decide, Try.func92.trans (congrArg some (by kernel_rfl))⟩
  f21 := ⟨Try.f93.name, by decide, Try.func93.trans (congrArg some (by kernel_rfl))⟩
  f22 := ⟨Try.f94.name, by decide, Try.func94.trans (congrArg some (by kernel_rfl))⟩
  f23 := ⟨Try.f95.name, by decide, Try.func95.trans (congrArg some (by kernel_rfl))⟩
  f24 := ⟨Try.f96.name, by decide, Try.func96.trans (congrArg some (by kernel_rfl))⟩
  f25 := ⟨Try.f97.name, by decide, Try.func97.trans (congrArg some (by kernel_rfl))⟩
  f26 := ⟨Try.f98.name, by decide, Try.func98.trans (congrArg some (by kernel_rfl))⟩
  f27 := ⟨Try.f99.name, by decide, Try.func99.trans (congrArg some (by kernel_rfl))⟩
  f28 := Try.func100.trans (congrArg some (by kernel_rfl))
  f29 := Try.func101.trans (congrArg some (by kernel_rfl))
  f46 := ⟨Try.f106.name, by decide, Try.func106.trans (congrArg some (by kernel_rfl))⟩
  f47 := Try.func107.trans (congrArg some (by kernel_rfl))
  f48 := Try.func108.trans (congrArg some (by kernel_rfl))
  f49 := ⟨Try.f109.name, by decide, Try.func109.trans (congrArg some (by kernel_rfl))⟩
  f50 := ⟨Try.f110.name, by decide, Try.func110.trans (congrArg some (by kernel_rfl))⟩
  f57 := ⟨Try.f112.name, by decide, Try.func112.trans (congrArg some (by kernel_rfl))⟩
  t0 := Try.underlying0
  a0 := Try.isAgg0
  z0 := Try.sizeOf0
  v0 := Try.zeroValue0
  t3 := Try.underlying3
  a3 := Try.isAgg3
  z3 := Try.sizeOf3
  v3 := Try.zeroValue3
  t4 := Try.underlying4
  a4 := Try.isAgg4
  z4 := Try.sizeOf4
  v4 := Try.zeroValue4
  t5 := Try.underlying5
  a5 := Try.isAgg5
  z5 := Try.sizeOf5
  v5 := Try.zeroValue5
  t9 := Try.underlying9
  a9 := Try.isAgg9
  z9 := Try.sizeOf9
  v9 := Try.zeroValue9
  t22 := Try.underlying38
  a22 := Try.isAgg38
  z22 := Try.sizeOf38
  v22 := Try.zeroValue38
  t25 := Try.underlying104
  a25 := Try.isAgg104
  z25 := Try.sizeOf104
  v25 := Try.zeroValue104
  t39 := Try.underlying117
  a39 := Try.isAgg117
  z39 := Try.sizeOf117
  v39 := Try.zeroValue117
  t45 := Try.underlying121
  a45 := Try.isAgg121
  z45 := Try.sizeOf121
  v45 := Try.zeroValue121
  t46 := Try.underlying122
  a46 := Try.isAgg122
  z46 := Try.sizeOf122
  v46 := Try.zeroValue122
  t50 := Try.underlying90
  a50 := Try.isAgg90
  z50 := Try.sizeOf90
  v50 := Try.zeroValue90
  t53 := Try.underlying128
  a53 := Try.isAgg128
  z53 := Try.sizeOf128
  v53 := Try.zeroValue128
  t55 := Try.underlying130
  a55 := Try.isAgg130
  z55 := Try.sizeOf130
  v55 := Try.zeroValue130
  t66 := Try.underlying133
  a66 := Try.isAgg133
  z66 := Try.sizeOf133
  v66 := Try.zeroValue133
  t70 := Try.underlying137
  a70 := Try.isAgg137
  z70 := Try.sizeOf137
  v70 := Try.zeroValue137
  t76 := Try.underlying139
  a76 := Try.isAgg139
  z76 := Try.sizeOf139
  v76 := Try.zeroValue139
  t77 := Try.underlying140
  a77 := Try.isAgg140
  z77 := Try.sizeOf140
  v77 := Try.zeroValue140 }

open Go.RowKit Go.Lib Go.Sort in
theorem Try.slices_SortFunc_none {α : Type} [Inhabited α] (p : Option Addr) (cap : Nat) (fv : Value) (w : World) :
    Calls Try.prog 69 #[.slice p 0 cap, fv] w fun e w' => e = .returned (.tuple #[]) ∧ w' = w := AnyF.slices_SortFunc_none Try.laysSlF06_f36 p cap fv w

open Go.RowKit Go.Lib Go.Sort in
theorem Try.slices_SortFunc_total {α : Type} [Inhabited α] (enc : α → Value) (h1 : OneCell enc) (cf : α → α → Int) (hO : SWO (ltOf cf)) (g : Nat) (cb : Array Value) (blk off cap : Nat) (d : Array α) (w : World) (eg : ∀ args w, (callFunc g args).run Try.prog w = .ok (.enter g args) w) (hcmp : CmpLays1 Try.prog g cb enc cf blk off d.size w) (hH : Holds enc w blk off d) (hblk : blk < w.heap.size) (hsz : d.size < 4611686018427387904) (hT : ∀ x y, (ltOf cf) x y = false → (ltOf cf) y x = false → x = y) :
    Calls Try.prog 69 #[.slice (some ⟨blk, off, none⟩) d.size cap, .func (.func g) #[] cb] w fun e w' =>
      e = .returned (.tuple #[]) ∧ ∃ n os, w' = sortWorld enc w blk off n (d.toList.mergeSort fun x y => !(ltOf cf) y x).toArray os := Any.slices_SortFunc_total Try.laysSlF6_f36 enc h1 cf hO g cb blk off cap d w eg hcmp hH hblk hsz hT

end Go.Proofs.Ytlckphdmflofgaa
end
