/-
  TEXTS OF THE PROOF, one behind the other: RosPairP, RosPairE, RosMayC, RosDoC.
-/
import Derived.Test.YtlckphdmflofgaaB04
import Derived.Test.YtlckphdmflofgaaB09
import Derived.Test.YtlckphdmflofgaaB07
import Derived.Deep.RegionHeld3

set_option linter.unusedVariables false

section
/-
  LAYER 8, PLAIN: has an entry its counterpart? Told from what stands at the counterpart's place.
-/
namespace Go.Proofs.Ytlckphdmflofgaa

theorem roPaired_off {l : List Ent} {eo ec : List UInt8} {x : It} (hany : (l.any fun e => entIs e ⟨ec, eo, ⟨false, false, false, false, false⟩⟩) = false) : roPaired l ⟨eo, ec, x⟩ = false := by
  show ((l.any fun x => entIs x ⟨ec, eo, ⟨false, false, false, false, false⟩⟩) && _) = false
  rw [hany, Bool.false_and]

theorem roPaired_on {l : List Ent} (hr : Rise l) {eo ec fo fc : List UInt8} {x i : It} (hany : (l.any fun e => entIs e ⟨ec, eo, ⟨false, false, false, false, false⟩⟩) = true)
    (hlt : entPlace l ⟨ec, eo, ⟨false, false, false, false, false⟩⟩ < l.length) (he : l.getD (entPlace l ⟨ec, eo, ⟨false, false, false, false, false⟩⟩) Ent.zero = ⟨fo, fc, i⟩)
    (hs : entIs ⟨fo, fc, i⟩ ⟨ec, eo, ⟨false, false, false, false, false⟩⟩ = true) : roPaired l ⟨eo, ec, x⟩ = (suMay x i && !(suEmpty x && suEmpty i)) := by
  have hm : (⟨fo, fc, i⟩ : Ent) ∈ l := by rw [← he, getD_at hlt]; exact List.getElem_mem hlt
  have hit := roIt_mem hr hm
  obtain ⟨ho, hc⟩ := entIs_iff.1 hs
  simp only at ho hc hit
  subst ho hc
  unfold roPaired
  simp only []
  rw [hit, show (l.any fun x => entIs x ⟨fo, fc, It.zero⟩) = true from hany, Bool.true_and]

/-- Where the counterpart stands. -/
theorem roPair_place {l : List Ent} (hr : Rise l) {eo ec : List UInt8} (hany : (l.any fun e => entIs e ⟨ec, eo, ⟨false, false, false, false, false⟩⟩) = true) :
    entPlace l ⟨ec, eo, ⟨false, false, false, false, false⟩⟩ < l.length ∧ entIs (l.getD (entPlace l ⟨ec, eo, ⟨false, false, false, false, false⟩⟩) Ent.zero) ⟨ec, eo, ⟨false, false, false, false, false⟩⟩ = true := by
  have ht := (entPlace_there hr ⟨ec, eo, ⟨false, false, false, false, false⟩⟩).trans hany
  rw [Bool.and_eq_true, decide_eq_true_eq] at ht
  exact ht

end Go.Proofs.Ytlckphdmflofgaa
end

section
/-
  LAYER 8: isPaired against one plain function.
-/
namespace Go.Proofs.Ytlckphdmflofgaa
open Go.RowKit

theorem paired_any {w : World} {v : Value} {l : List Ent} (hv : Ents w v l) (hr : Rise l) (eo ec : List UInt8) (x1 x2 x3 x4 x5 : Bool) {r : Bool} (h : Hid (roPaired l ⟨eo, ec, ⟨x1, x2, x3, x4, x5⟩⟩ = r)) :
    Calls Try.prog 54 #[v, .agg #[.string ⟨eo.toArray⟩, .string ⟨ec.toArray⟩, .bool x1, .bool x2, .bool x3, .bool x4, .bool x5]] w fun e w' => e = .returned (.bool r) ∧ Below w.heap.size w w' := by
  cases hany : (l.any fun e => entIs e ⟨ec, eo, ⟨false, false, false, false, false⟩⟩) with
  | false =>
    have hR := roPaired_off (x := ⟨x1, x2, x3, x4, x5⟩) hany
    rw [h.out] at hR
    subst hR
    exact paired_no hv hr eo ec x1 x2 x3 x4 x5 hany
  | true =>
    obtain ⟨hlt, hs⟩ := roPair_place hr hany
    obtain ⟨⟨fo, fc, ⟨i1, i2, i3, i4, i5⟩⟩, he⟩ : ∃ r, l.getD (entPlace l ⟨ec, eo, ⟨false, false, false, false, false⟩⟩) Ent.zero = r := ⟨_, rfl⟩
    rw [he] at hs
    have hP := paired_yes hv hr eo ec x1 x2 x3 x4 x5 hlt he hs
    have hR := roPaired_on (x := ⟨x1, x2, x3, x4, x5⟩) hr hany hlt he hs
    rw [h.out] at hR
    rw [← hR] at hP
    exact hP

end Go.Proofs.Ytlckphdmflofgaa
end

section
/-
  LAYER 8, THE CODE: whether rosters may be.
-/
namespace Go.Proofs.Ytlckphdmflofgaa
open Go.RowKit

theorem roMayC_off {l : List Ent} {k : Nat} (hk : k < l.length) (h : roCodeAt l k = false) : roMayC l = false := by
  rw [Bool.eq_false_iff]
  intro h'
  unfold roMayC at h'
  rw [Bool.and_eq_true, List.all_eq_true, List.all_eq_true] at h'
  rw [h'.2 k (by simpa using hk)] at h
  cases h

theorem roCode_next {l : List Ent} {k : Nat} (h : (List.range k).all (roCodeAt l) = true) (hk : roCodeAt l k = true) : (List.range (k + 1)).all (roCodeAt l) = true := by
  rw [List.range_succ, List.all_append, h]
  simp [hk]

set_option maxHeartbeats 3200000 in
set_option maxRecDepth 100000 in
theorem romay_any {w : World} {v : Value} {l : List Ent} (hv : Ents w v l) (hs : ShortE l) {r : Bool} (h : Hid (roMayC l = r)) :
    Calls Try.prog 34 #[v] w fun e w' => e = .returned (.bool r) ∧ Below w.heap.size w w' := by
  have HV := Lib.hid hv
  have HS := Lib.hid hs
  have HI := Lib.hid (rises_any hv hs)
  obtain ⟨a, cap, rfl, hm⟩ := hv.open'
  clear hv hs
  cases hri : riseB l with
  | false =>
    have HR : roMayC l = false := by
      show (riseB l && _) = false
      rw [hri, Bool.false_and]
    rw [h.out] at HR
    subst HR
    rw [hri] at HI
    clear hri
    go_enter Try.func34, Try.ntmps34
    go_wp2_with fail
    refine HI.out.mono ?_
    rintro e w1 ⟨rfl, b1⟩
    have B1 := Lib.hid b1
    clear b1
    go_wp2_with fail
    go_ret
    exact ⟨rfl, B1.out⟩
  | true =>
    have HRise := Lib.hid (riseB_rise hri)
    have HRB := Lib.hid hri
    rw [hri] at HI
    clear hri
    go_enter Try.func34, Try.ntmps34
    go_wp2_with fail
    refine HI.out.mono ?_
    rintro e w1 ⟨rfl, b1⟩
    have B1 := Lib.hid b1
    clear b1
    go_wp2_with fail
    go_loopw [10] (fun i wr => ∃ k : Nat, k ≤ l.length ∧ i = .int .i64 k ∧ Hid (Below w.heap.size w wr) ∧ Hid ((List.range k).all (roCodeAt l) = true)) (fun i _ => l.length - (intOf i).toNat)
    case atStart => exact ⟨0, by omega, rfl, B1, by show _ = _; simp⟩
    case round =>
      obtain ⟨k, hk, rfl, HB, HA⟩ := hrel
      by_cases hlt : k < l.length
      · obtain ⟨b, off, rfl, h0, h1, h2, h3, h4, h5, h6⟩ := HV.out.row HB.out k hlt
        obtain ⟨⟨eo, ec, ⟨i1, i2, i3, i4, i5⟩⟩, hr⟩ : ∃ r, l.getD k Ent.zero = r := ⟨_, rfl⟩
        rw [hr] at h0 h1 h2 h3 h4 h5 h6
        simp only at h0 h1 h2 h3 h4 h5 h6
        have B2 := Lib.hid (bl_allocS HB.out (.cells #[.string ⟨eo.toArray⟩, .string ⟨ec.toArray⟩, .bool i1, .bool i2, .bool i3, .bool i4, .bool i5] 70))
        have C1 := Lib.hid (cells7_made wr ⟨eo, ec, ⟨i1, i2, i3, i4, i5⟩⟩ 70)
        have HO := Lib.hid (over_any (HV.out.later B2.out) hlt)
        cases ho : roOver l k with
        | true =>
          have HR : roMayC l = false := roMayC_off hlt (by unfold roCodeAt; rw [ho]; rfl)
          rw [h.out] at HR
          subst HR
          rw [ho] at HO
          clear ho hr
          go_wp2_with fail
          refine HO.out.mono ?_
          rintro e w3 ⟨rfl, b3⟩
          have B3 := Lib.hid (below2S B2.out b3)
          clear b3
          go_wp2_with fail
          go_ret
          exact ⟨rfl, B3.out⟩
        | false =>
          rw [ho] at HO
          obtain ⟨q, hq⟩ : ∃ q, roPaired l ⟨eo, ec, ⟨i1, i2, i3, i4, i5⟩⟩ = q := ⟨_, rfl⟩
          have hAt : roCodeAt l k = q := by
            unfold roCodeAt
            rw [ho, hr, hq]
            rfl
          have HAt := Lib.hid hAt
          have HQ := Lib.hid hq
          clear hAt hq ho hr
          go_wp2_with fail
          refine HO.out.mono ?_
          rintro e w3 ⟨rfl, b3⟩
          have B3 := Lib.hid (below2S B2.out b3)
          obtain ⟨c0, c1, c2, c3, c4, c5, c6⟩ := C1.out.later b3
          simp only [Nat.zero_add] at c0 c1 c2 c3 c4 c5 c6
          clear b3
          go_wp2_with fail
          refine (paired_any (HV.out.later B3.out) HRise.out eo ec i1 i2 i3 i4 i5 HQ).mono ?_
          rintro e w4 ⟨rfl, b4⟩
          have B4 := Lib.hid (below2S B3.out b4)
          clear b4 c0 c1 c2 c3 c4 c5 c6
          cases q with
          | true =>
            have HA2 := Lib.hid (roCode_next HA.out HAt.out)
            go_wp2_with fail
            go_roundw
            case rel => exact ⟨k + 1, by omega, by go_num, B4, HA2⟩
            case measure => simp [intOf]; omega
          | false =>
            have HR : roMayC l = false := roMayC_off hlt HAt.out
            rw [h.out] at HR
            subst HR
            go_wp2_with fail
            go_ret
            exact ⟨rfl, B4.out⟩
      · obtain rfl : k = l.length := by omega
        have HR : roMayC l = true := by
          unfold roMayC
          rw [HA.out, Bool.and_true]
          exact HRB.out
        rw [h.out] at HR
        subst HR
        go_wp2_with fail
        go_ret
        exact ⟨rfl, HB.out⟩

end Go.Proofs.Ytlckphdmflofgaa
end

section
/-
  LAYER 8, THE CODE: isFull; find, as one contract; Do.
-/
namespace Go.Proofs.Ytlckphdmflofgaa
open Go.RowKit

theorem e7_cells {w : World} {B : Nat} {xo xc : List UInt8} {x1 x2 x3 x4 x5 : Bool} (h : w.heap[B]? = some (.cells #[.string ⟨xo.toArray⟩, .string ⟨xc.toArray⟩, .bool x1, .bool x2, .bool x3, .bool x4, .bool x5] 70 (0, 0))) : Cells7 w B 0 ⟨xo, xc, ⟨x1, x2, x3, x4, x5⟩⟩ :=
  ⟨cell_of_row w B 0 _ _ (0, 0) h, cell_of_row w B 1 _ _ (0, 0) h, cell_of_row w B 2 _ _ (0, 0) h, cell_of_row w B 3 _ _ (0, 0) h, cell_of_row w B 4 _ _ (0, 0) h, cell_of_row w B 5 _ _ (0, 0) h, cell_of_row w B 6 _ _ (0, 0) h⟩

theorem e7_frozen {w : World} {B : Nat} {cs : Array Value} (h : w.heap[B]? = some (.cells cs 70 (0, 0))) (j : Nat) : w.frozen? ⟨B, j, none⟩ = false := frozen_of_row w B j _ _ h

/-- An entry's item stored anew. -/
def setI (w : World) (B : Nat) (x1 x2 x3 x4 x5 : Bool) : World :=
  ((((w.setCell ⟨B, 2, none⟩ (.bool x1)).setCell ⟨B, 3, none⟩ (.bool x2)).setCell ⟨B, 4, none⟩ (.bool x3)).setCell ⟨B, 5, none⟩ (.bool x4)).setCell ⟨B, 6, none⟩ (.bool x5)

theorem e7_set {w : World} {B : Nat} {xo xc : List UInt8} {x1 x2 x3 x4 x5 : Bool} (h : w.heap[B]? = some (.cells #[.string ⟨xo.toArray⟩, .string ⟨xc.toArray⟩, .bool x1, .bool x2, .bool x3, .bool x4, .bool x5] 70 (0, 0))) (y1 y2 y3 y4 y5 : Bool) : (setI w B y1 y2 y3 y4 y5).heap[B]? = some (.cells #[.string ⟨xo.toArray⟩, .string ⟨xc.toArray⟩, .bool y1, .bool y2, .bool y3, .bool y4, .bool y5] 70 (0, 0)) :=
  heap_setCell_same _ B 6 _ _ (.bool y5) (heap_setCell_same _ B 5 _ _ (.bool y4) (heap_setCell_same _ B 4 _ _ (.bool y3) (heap_setCell_same _ B 3 _ _ (.bool y2) (heap_setCell_same w B 2 _ _ (.bool y1) h))))

theorem heap_set_otherR {w : World} {b c : Nat} {o : Obj} (h : w.heap[b]? = some o) (hne : c ≠ b) (j : Nat) (v : Value) : (w.setCell ⟨c, j, none⟩ v).heap[b]? = some o :=
  (heap_setCell_other w ⟨c, j, none⟩ b v (fun e => hne e.symm)).trans h

theorem e7_other {w : World} {B C : Nat} {o : Obj} (h : w.heap[C]? = some o) (hne : B ≠ C) (y1 y2 y3 y4 y5 : Bool) : (setI w B y1 y2 y3 y4 y5).heap[C]? = some o :=
  heap_set_otherR (heap_set_otherR (heap_set_otherR (heap_set_otherR (heap_set_otherR h hne 2 _) hne 3 _) hne 4 _) hne 5 _) hne 6 _

theorem setI_below {w w1 : World} {n B : Nat} (h : Below n w w1) (hB : n ≤ B) (y1 y2 y3 y4 y5 : Bool) : Below n w (setI w1 B y1 y2 y3 y4 y5) :=
  ((((h.setCell hB _).setCell hB _).setCell hB _).setCell hB _).setCell hB _

theorem heap_newR (w : World) (o : Obj) {B : Nat} (hB : B = w.heap.size) : (w.alloc o).heap[B]? = some o := by
  subst hB
  exact heap_alloc_new w o

theorem heap_ltR {w : World} {B : Nat} {o : Obj} (h : w.heap[B]? = some o) : B < w.heap.size := (Array.getElem?_eq_some_iff.1 h).1

theorem heap_laterR {w w' : World} {B : Nat} {o : Obj} (h : w.heap[B]? = some o) (hb : Below w.heap.size w w') : w'.heap[B]? = some o := (hb.block B (heap_ltR h)).trans h

set_option maxHeartbeats 800000 in
set_option maxRecDepth 100000 in
theorem risFull_any {w : World} {v : Value} {l : List Ent} (hv : Ents w v l) (hl : l.length ≤ 1000) (o : List UInt8) {r : Bool} (h : Hid (decide (16 ≤ (roOf l o).length) = r)) :
    Calls Try.prog 39 #[v, .string ⟨o.toArray⟩] w fun e w' => e = .returned (.bool r) ∧ Below w.heap.size w w' := by
  have HO := Lib.hid (of_any hv (by omega) o)
  obtain ⟨a, cap, rfl, hm⟩ := hv.open'
  have hle := roOf_le l o
  clear hv
  go_enter Try.func39, Try.ntmps39
  go_wp2_with fail
  refine HO.out.mono ?_
  rintro e w1 ⟨u, rfl, ho, b1⟩
  have B1 := Lib.hid b1
  have ht : decide ((16 : Int) ≤ ((roOf l o).length : Int)) = r := by rw [← h.out]; congr 1; apply propext; omega
  rcases ho with ⟨_, ⟨rfl, h0⟩ | ⟨g, cp, cur, rfl, -, -, -, -, -, -⟩⟩
  · rw [h0] at ht
    clear b1
    go_wp2_with fail
    go_ret
    exact ⟨by first | (rw [← ht]; rfl) | rfl | simp_all, B1.out⟩
  · clear b1
    go_wp2_with fail
    go_ret
    exact ⟨by first | rfl | (rw [← ht]), B1.out⟩

/-- find, of a pair: what stands there, or nothing in it. -/
theorem rfind_eq {w : World} {v : Value} {l : List Ent} (hv : Ents w v l) (hr : Rise l) (xo xc : List UInt8) {i1 i2 i3 i4 i5 q : Bool} (hi : Hid (roIt l xo xc = ⟨i1, i2, i3, i4, i5⟩)) (hq : Hid ((l.any fun x => entIs x ⟨xo, xc, It.zero⟩) = q)) :
    Calls Try.prog 36 #[v, .agg #[.string ⟨xo.toArray⟩, .string ⟨xc.toArray⟩, .bool false, .bool false, .bool false, .bool false, .bool false]] w fun e w' => e = .returned (.tuple #[.agg #[.string ⟨xo.toArray⟩, .string ⟨xc.toArray⟩, .bool i1, .bool i2, .bool i3, .bool i4, .bool i5], .bool q]) ∧ Below w.heap.size w w' := by
  have hq0 := hq.out
  cases q with
  | false =>
    have h0 : roIt l xo xc = It.zero := roIt_none fun e he h' => by
      rw [List.any_eq_false] at hq0
      exact hq0 e he (entIs_iff.2 h')
    have h1 := hi.out
    rw [h0] at h1
    injection h1 with e1 e2 e3 e4 e5
    subst e1 e2 e3 e4 e5
    exact find_no hv hr xo xc false false false false false hq0
  | true =>
    have ht := (entPlace_there hr ⟨xo, xc, ⟨false, false, false, false, false⟩⟩).trans hq0
    rw [Bool.and_eq_true, decide_eq_true_eq] at ht
    obtain ⟨hlt, hs⟩ := ht
    obtain ⟨⟨fo, fc, ⟨j1, j2, j3, j4, j5⟩⟩, he⟩ : ∃ r, l.getD (entPlace l ⟨xo, xc, ⟨false, false, false, false, false⟩⟩) Ent.zero = r := ⟨_, rfl⟩
    rw [he] at hs
    obtain ⟨ho, hc⟩ := entIs_iff.1 hs
    simp only at ho hc
    subst ho hc
    have hm : (⟨fo, fc, ⟨j1, j2, j3, j4, j5⟩⟩ : Ent) ∈ l := by rw [← he, getD_at hlt]; exact List.getElem_mem hlt
    have h1 := roIt_mem hr hm
    simp only at h1
    rw [h1] at hi
    have h2 := hi.out
    injection h2 with e1 e2 e3 e4 e5
    subst e1 e2 e3 e4 e5
    exact find_yes hv hr fo fc false false false false false hlt he hs

set_option maxHeartbeats 3200000 in
set_option maxRecDepth 100000 in
theorem rdoA {w : World} {v : Value} {l : List Ent} (hv : Ents w v l) (hs : ShortE l) (hl : l.length ≤ 1000) (u o : List UInt8) (hu : u.length ≤ 4294967296) (ho : o.length ≤ 4294967296) (k : Int) (hm : roMayC l = false) :
    Calls Try.prog 26 #[v, .int .i64 k, .string ⟨u.toArray⟩, .string ⟨o.toArray⟩] w fun e w' => ∃ v', e = .returned (.tuple #[v', .int .i64 1]) ∧ Ents w' v' l ∧ Below w.heap.size w w' := by
  have HV := Lib.hid hv
  have HM := Lib.hid (romay_any hv hs (Lib.hid hm))
  obtain ⟨a, cap, rfl, hmx⟩ := hv.open'
  clear hv hs hm
  go_enter Try.func26, Try.ntmps26
  go_wp2_with fail
  refine HM.out.mono ?_
  rintro e w1 ⟨rfl, b1⟩
  have HB := Lib.hid b1
  clear b1
  go_wp2_with fail
  go_ret2
  exact ⟨_, rfl, HV.out.later HB.out, HB.out⟩

set_option maxHeartbeats 3200000 in
set_option maxRecDepth 100000 in
theorem rdoB {w : World} {v : Value} {l : List Ent} (hv : Ents w v l) (hs : ShortE l) (hl : l.length ≤ 1000) (u o : List UInt8) (hu : u.length ≤ 4294967296) (ho : o.length ≤ 4294967296) (k : Int) (hm : roMayC l = true) (h1 : idIs u = false) :
    Calls Try.prog 26 #[v, .int .i64 k, .string ⟨u.toArray⟩, .string ⟨o.toArray⟩] w fun e w' => ∃ v', e = .returned (.tuple #[v', .int .i64 1]) ∧ Ents w' v' l ∧ Below w.heap.size w w' := by
  have HV := Lib.hid hv
  have HM := Lib.hid (romay_any hv hs (Lib.hid hm))
  have I1 := Lib.hid (is_eq u hu (Lib.hid h1))
  clear h1
  obtain ⟨a, cap, rfl, hmx⟩ := hv.open'
  clear hv hs hm
  go_enter Try.func26, Try.ntmps26
  go_wp2_with fail
  refine HM.out.mono ?_
  rintro e w1 ⟨rfl, b1⟩
  have HB := Lib.hid b1
  clear b1
  go_wp2_with fail
  refine (I1.out _).mono ?_
  rintro e w2 ⟨rfl, b⟩
  replace HB := Lib.hid (below2S HB.out b)
  clear b
  go_wp2_with fail
  go_ret2
  exact ⟨_, rfl, HV.out.later HB.out, HB.out⟩

set_option maxHeartbeats 3200000 in
set_option maxRecDepth 100000 in
theorem rdoC {w : World} {v : Value} {l : List Ent} (hv : Ents w v l) (hs : ShortE l) (hl : l.length ≤ 1000) (u o : List UInt8) (hu : u.length ≤ 4294967296) (ho : o.length ≤ 4294967296) (k : Int) (hm : roMayC l = true) (h1 : idIs u = true) (h2 : idIs o = false) :
    Calls Try.prog 26 #[v, .int .i64 k, .string ⟨u.toArray⟩, .string ⟨o.toArray⟩] w fun e w' => ∃ v', e = .returned (.tuple #[v', .int .i64 1]) ∧ Ents w' v' l ∧ Below w.heap.size w w' := by
  have HV := Lib.hid hv
  have HM := Lib.hid (romay_any hv hs (Lib.hid hm))
  have I1 := Lib.hid (is_eq u hu (Lib.hid h1))
  have I2 := Lib.hid (is_eq o ho (Lib.hid h2))
  clear h1 h2
  obtain ⟨a, cap, rfl, hmx⟩ := hv.open'
  clear hv hs hm
  go_enter Try.func26, Try.ntmps26
  go_wp2_with fail
  refine HM.out.mono ?_
  rintro e w1 ⟨rfl, b1⟩
  have HB := Lib.hid b1
  clear b1
  go_wp2_with fail
  refine (I1.out _).mono ?_
  rintro e w2 ⟨rfl, b⟩
  replace HB := Lib.hid (below2S HB.out b)
  clear b
  go_wp2_with fail
  refine (I2.out _).mono ?_
  rintro e w3 ⟨rfl, b⟩
  replace HB := Lib.hid (below2S HB.out b)
  clear b
  go_wp2_with fail
  go_ret2
  exact ⟨_, rfl, HV.out.later HB.out, HB.out⟩

set_option maxHeartbeats 3200000 in
set_option maxRecDepth 100000 in
theorem rdoD {w : World} {v : Value} {l : List Ent} (hv : Ents w v l) (hs : ShortE l) (hl : l.length ≤ 1000) (u o : List UInt8) (hu : u.length ≤ 4294967296) (ho : o.length ≤ 4294967296) (k : Int) (hm : roMayC l = true) (h1 : idIs u = true) (h2 : idIs o = true) (h3 : (u == o) = true) :
    Calls Try.prog 26 #[v, .int .i64 k, .string ⟨u.toArray⟩, .string ⟨o.toArray⟩] w fun e w' => ∃ v', e = .returned (.tuple #[v', .int .i64 1]) ∧ Ents w' v' l ∧ Below w.heap.size w w' := by
  have HV := Lib.hid hv
  have HM := Lib.hid (romay_any hv hs (Lib.hid hm))
  have I1 := Lib.hid (is_eq u hu (Lib.hid h1))
  have I2 := Lib.hid (is_eq o ho (Lib.hid h2))
  clear h1 h2
  obtain ⟨a, cap, rfl, hmx⟩ := hv.open'
  clear hv hs hm
  go_enter Try.func26, Try.ntmps26
  go_wp2_with fail
  refine HM.out.mono ?_
  rintro e w1 ⟨rfl, b1⟩
  have HB := Lib.hid b1
  clear b1
  go_wp2_with fail
  refine (I1.out _).mono ?_
  rintro e w2 ⟨rfl, b⟩
  replace HB := Lib.hid (below2S HB.out b)
  clear b
  go_wp2_with fail
  refine (I2.out _).mono ?_
  rintro e w3 ⟨rfl, b⟩
  replace HB := Lib.hid (below2S HB.out b)
  clear b
  go_wp2_with fail
  go_ret2
  exact ⟨_, rfl, HV.out.later HB.out, HB.out⟩

set_option maxHeartbeats 3200000 in
set_option maxRecDepth 100000 in
theorem rdoE {w : World} {v : Value} {l : List Ent} (hv : Ents w v l) (hs : ShortE l) (hl : l.length ≤ 1000) (u o : List UInt8) (hu : u.length ≤ 4294967296) (ho : o.length ≤ 4294967296) (k : Int) (hm : roMayC l = true) (h1 : idIs u = true) (h2 : idIs o = true) (h3 : (u == o) = false) {i1 i2 i3 i4 i5 j1 j2 j3 j4 j5 q q' a1 a2 a3 a4 a5 b1 b2 b3 b4 b5 : Bool} {er : Nat} (hi : roIt l u o = ⟨i1, i2, i3, i4, i5⟩) (hj : roIt l o u = ⟨j1, j2, j3, j4, j5⟩) (hq : (l.any fun x => entIs x ⟨u, o, It.zero⟩) = q) (hq' : (l.any fun x => entIs x ⟨o, u, It.zero⟩) = q') (hk : (Lit.int .i64 k).wf = true) (hact : suAct ⟨i1, i2, i3, i4, i5⟩ ⟨j1, j2, j3, j4, j5⟩ k = (⟨a1, a2, a3, a4, a5⟩, ⟨b1, b2, b3, b4, b5⟩, er)) (her : er ≠ 0) :
    Calls Try.prog 26 #[v, .int .i64 k, .string ⟨u.toArray⟩, .string ⟨o.toArray⟩] w fun e w' => ∃ v', e = .returned (.tuple #[v', .int .i64 (er : Int)]) ∧ Ents w' v' l ∧ Below w.heap.size w w' := by
  have t9 : ((er : Int) != 0) = true := by rw [bne_iff_ne]; omega
  clear her
  have HV := Lib.hid hv
  have HM := Lib.hid (romay_any hv hs (Lib.hid hm))
  have HR := Lib.hid (roMay_rise hm)
  have I1 := Lib.hid (is_eq u hu (Lib.hid h1))
  have I2 := Lib.hid (is_eq o ho (Lib.hid h2))
  have E1 := Lib.hid (entry_any u o)
  have E2 := Lib.hid (entry_any o u)
  have FI := Lib.hid hi
  have FJ := Lib.hid hj
  have FQ := Lib.hid hq
  have FQ' := Lib.hid hq'
  have HA := Lib.hid (sact_any i1 i2 i3 i4 i5 j1 j2 j3 j4 j5 k hk)
  rw [hact] at HA
  obtain ⟨a, cap, rfl, hmx⟩ := hv.open'
  clear hv hs hm h1 h2 hi hj hq hq' hk hact
  go_enter Try.func26, Try.ntmps26
  go_wp2_with fail
  refine HM.out.mono ?_
  rintro e w1 ⟨rfl, b1⟩
  have HB := Lib.hid b1
  clear b1
  go_wp2_with fail
  refine (I1.out _).mono ?_
  rintro e w2 ⟨rfl, b⟩
  replace HB := Lib.hid (below2S HB.out b)
  clear b
  go_wp2_with fail
  refine (I2.out _).mono ?_
  rintro e w3 ⟨rfl, b⟩
  replace HB := Lib.hid (below2S HB.out b)
  clear b
  go_wp2_with fail
  refine (E1.out _).mono ?_
  rintro e w4 ⟨rfl, b⟩
  replace HB := Lib.hid (below2S HB.out b)
  clear b
  go_wp2_with fail
  refine (rfind_eq (HV.out.later HB.out) HR.out u o FI FQ).mono ?_
  rintro e w5 ⟨rfl, b⟩
  have bb := bl_newZ w5 (.cells #[.string ⟨u.toArray⟩, .string ⟨o.toArray⟩, .bool i1, .bool i2, .bool i3, .bool i4, .bool i5] 70)
  have X10 := Lib.hid (heap_newR w5 (.cells #[.string ⟨u.toArray⟩, .string ⟨o.toArray⟩, .bool i1, .bool i2, .bool i3, .bool i4, .bool i5] 70) rfl)
  have HS5 := Lib.hid (below2S HB.out b).size
  replace HB := Lib.hid (below2S (below2S HB.out b) bb)
  clear b bb
  go_wp2_with fail
  generalize hW : w5.alloc (.cells #[.string ⟨u.toArray⟩, .string ⟨o.toArray⟩, .bool i1, .bool i2, .bool i3, .bool i4, .bool i5] 70) = w6 at HB X10 ⊢
  generalize hN : w5.heap.size = n5 at X10 HS5 ⊢
  clear hW hN
  refine (E2.out _).mono ?_
  rintro e w7 ⟨rfl, b⟩
  replace X10 := Lib.hid (heap_laterR X10.out b)
  replace HB := Lib.hid (below2S HB.out b)
  clear b
  go_wp2_with fail
  refine (rfind_eq (HV.out.later HB.out) HR.out o u FJ FQ').mono ?_
  rintro e w8 ⟨rfl, b⟩
  have bb := bl_newZ w8 (.cells #[.string ⟨o.toArray⟩, .string ⟨u.toArray⟩, .bool j1, .bool j2, .bool j3, .bool j4, .bool j5] 70)
  have X12 := Lib.hid (heap_newR w8 (.cells #[.string ⟨o.toArray⟩, .string ⟨u.toArray⟩, .bool j1, .bool j2, .bool j3, .bool j4, .bool j5] 70) rfl)
  have HS8 := Lib.hid (below2S HB.out b).size
  replace X10 := Lib.hid (heap_laterR X10.out b)
  have hne := Lib.hid (heap_ltR X10.out)
  replace X10 := Lib.hid (heap_laterR X10.out bb)
  replace HB := Lib.hid (below2S (below2S HB.out b) bb)
  clear b bb
  obtain ⟨c0, c1, c2, c3, c4, c5, c6⟩ := e7_cells X10.out
  obtain ⟨d0, d1, d2, d3, d4, d5, d6⟩ := e7_cells X12.out
  simp only [Nat.zero_add] at c0 c1 c2 c3 c4 c5 c6 d0 d1 d2 d3 d4 d5 d6
  go_wp2_with fail
  generalize hW : w8.alloc (.cells #[.string ⟨o.toArray⟩, .string ⟨u.toArray⟩, .bool j1, .bool j2, .bool j3, .bool j4, .bool j5] 70) = w9 at HB X10 X12 c0 c1 c2 c3 c4 c5 c6 d0 d1 d2 d3 d4 d5 d6 ⊢
  generalize hN : w8.heap.size = n8 at X12 HS8 hne d0 d1 d2 d3 d4 d5 d6 ⊢
  clear hW hN c0 c1 c2 c3 c4 c5 c6 d0 d1 d2 d3 d4 d5 d6
  refine (HA.out _).mono ?_
  rintro e w10 ⟨rfl, b⟩
  replace X10 := Lib.hid (heap_laterR X10.out b)
  replace X12 := Lib.hid (heap_laterR X12.out b)
  replace HB := Lib.hid (below2S HB.out b)
  clear b
  have hne1 : n5 ≠ n8 := by have := hne.out; omega
  have Y12 := e7_other X12.out hne1 a1 a2 a3 a4 a5
  have Y10 := e7_set X10.out a1 a2 a3 a4 a5
  have Z12 := Lib.hid (e7_set Y12 b1 b2 b3 b4 b5)
  have Z10 := Lib.hid (e7_other Y10 hne1.symm b1 b2 b3 b4 b5)
  have ZB := Lib.hid (setI_below (setI_below HB.out HS5.out a1 a2 a3 a4 a5) HS8.out b1 b2 b3 b4 b5)
  obtain ⟨c0, c1, c2, c3, c4, c5, c6⟩ := e7_cells X10.out
  obtain ⟨d0, d1, d2, d3, d4, d5, d6⟩ := e7_cells Y12
  simp only [Nat.zero_add] at c0 c1 c2 c3 c4 c5 c6 d0 d1 d2 d3 d4 d5 d6
  have f2 := e7_frozen X10.out 2
  have f3 := e7_frozen X10.out 3
  have f4 := e7_frozen X10.out 4
  have f5 := e7_frozen X10.out 5
  have f6 := e7_frozen X10.out 6
  have g2 := e7_frozen Y12 2
  have g3 := e7_frozen Y12 3
  have g4 := e7_frozen Y12 4
  have g5 := e7_frozen Y12 5
  have g6 := e7_frozen Y12 6
  unfold setI at d0 d1 d2 d3 d4 d5 d6 g2 g3 g4 g5 g6
  clear Y10 Y12
  unfold actE
  obtain ⟨e0, e1, e2, e3, e4, e5, e6⟩ := e7_cells Z10.out
  obtain ⟨p0, p1, p2, p3, p4, p5, p6⟩ := e7_cells Z12.out
  simp only [Nat.zero_add] at e0 e1 e2 e3 e4 e5 e6 p0 p1 p2 p3 p4 p5 p6
  unfold setI at e0 e1 e2 e3 e4 e5 e6 p0 p1 p2 p3 p4 p5 p6
  go_wp2_with fail
  go_ret2
  exact ⟨_, rfl, HV.out.later ZB.out, ZB.out⟩

end Go.Proofs.Ytlckphdmflofgaa
end
