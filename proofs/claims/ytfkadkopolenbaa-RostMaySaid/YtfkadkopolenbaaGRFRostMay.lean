/-
  THE PROOF OF RostMay: for every input the law returns true, and each argument reads behind the call as it read before. No condition.
-/
import Derived.Test.YtfkadkopolenbaaGR25
import Derived.Test.YtfkadkopolenbaaGR13
import Derived.Test.YtfkadkopolenbaaGR18
import Derived.Test.YtfkadkopolenbaaGR22
import Derived.Deep.CutBlock
import Derived.Deep.DeepCutAuto
import Derived.Test.YtfkadkopolenbaaRows
import Derived.ProofKit
import Derived.OpenShut
import Derived.ShutString
import Derived.ChangeOld
import Derived.SliceStrings
import Derived.Lib.SmallJoins

section

/-
  THE WALK OF RostMay.
-/
namespace Go.Proofs.Ytfkadkopolenbaa
open Go.RowKit

theorem fiveR {w : World} {b : Nat} {x0 x1 x2 x3 x4 : Value} {T : TypeId} (h : w.heap[b]? = some (.cells #[x0, x1, x2, x3, x4] T (0, 0))) :
    w.cell? ⟨b, 0, none⟩ = some x0 ∧ w.cell? ⟨b, 1, none⟩ = some x1 ∧ w.cell? ⟨b, 2, none⟩ = some x2 ∧ w.cell? ⟨b, 3, none⟩ = some x3 ∧ w.cell? ⟨b, 4, none⟩ = some x4 :=
  ⟨cell_of_row w b 0 _ _ (0, 0) h, cell_of_row w b 1 _ _ (0, 0) h, cell_of_row w b 2 _ _ (0, 0) h, cell_of_row w b 3 _ _ (0, 0) h, cell_of_row w b 4 _ _ (0, 0) h⟩

theorem freeR {w : World} {b : Nat} {cs : Array Value} {T : TypeId} (h : w.heap[b]? = some (.cells cs T (0, 0))) :
    w.frozen? ⟨b, 0, none⟩ = false ∧ w.frozen? ⟨b, 1, none⟩ = false ∧ w.frozen? ⟨b, 2, none⟩ = false ∧ w.frozen? ⟨b, 3, none⟩ = false ∧ w.frozen? ⟨b, 4, none⟩ = false :=
  ⟨frozen_of_row w b 0 _ _ h, frozen_of_row w b 1 _ _ h, frozen_of_row w b 2 _ _ h, frozen_of_row w b 3 _ _ h, frozen_of_row w b 4 _ _ h⟩

theorem setR {w : World} {b : Nat} {y0 y1 y2 y3 y4 x0 x1 x2 x3 x4 : Value} {T : TypeId} (h : w.heap[b]? = some (.cells #[y0, y1, y2, y3, y4] T (0, 0))) :
    (((((w.setCell ⟨b, 0, none⟩ x0).setCell ⟨b, 1, none⟩ x1).setCell ⟨b, 2, none⟩ x2).setCell ⟨b, 3, none⟩ x3).setCell ⟨b, 4, none⟩ x4).heap[b]? = some (.cells #[x0, x1, x2, x3, x4] T (0, 0)) := by
  have r0 := heap_setCell_same w b 0 _ _ x0 h
  have r1 := heap_setCell_same _ b 1 _ _ x1 r0
  have r2 := heap_setCell_same _ b 2 _ _ x2 r1
  have r3 := heap_setCell_same _ b 3 _ _ x3 r2
  have r4 := heap_setCell_same _ b 4 _ _ x4 r3
  exact r4

theorem asideR {w : World} {b c : Nat} {o : Obj} (h : w.heap[b]? = some o) (hne : c ≠ b) (x0 x1 x2 x3 x4 : Value) :
    (((((w.setCell ⟨c, 0, none⟩ x0).setCell ⟨c, 1, none⟩ x1).setCell ⟨c, 2, none⟩ x2).setCell ⟨c, 3, none⟩ x3).setCell ⟨c, 4, none⟩ x4).heap[b]? = some o := by
  rw [heap_setCell_other _ ⟨c, 4, none⟩ b x4 (fun e => hne e.symm), heap_setCell_other _ ⟨c, 3, none⟩ b x3 (fun e => hne e.symm), heap_setCell_other _ ⟨c, 2, none⟩ b x2 (fun e => hne e.symm), heap_setCell_other _ ⟨c, 1, none⟩ b x1 (fun e => hne e.symm), heap_setCell_other _ ⟨c, 0, none⟩ b x0 (fun e => hne e.symm)]
  exact h

theorem belowR {W X : World} (h : Below W.heap.size W X) {b : Nat} (hb : W.heap.size ≤ b) (x0 x1 x2 x3 x4 : Value) :
    Below W.heap.size W (((((X.setCell ⟨b, 0, none⟩ x0).setCell ⟨b, 1, none⟩ x1).setCell ⟨b, 2, none⟩ x2).setCell ⟨b, 3, none⟩ x3).setCell ⟨b, 4, none⟩ x4) :=
  ((((h.setCell hb _).setCell hb _).setCell hb _).setCell hb _).setCell hb _

theorem upR {w w' : World} {b : Nat} {o : Obj} (h : w.heap[b]? = some o) (hb : Below w.heap.size w w') : w'.heap[b]? = some o :=
  (hb.block b (Array.getElem?_eq_some_iff.1 h).1).trans h

theorem heap_newM (w : World) (o : Obj) : (w.alloc o).heap[w.heap.size]? = some o := (MapKept.heap_alloc w o).1

theorem threeM {X : World} {b off : Nat} {k : Int} {u o : List UInt8} (h : CellsAt X b off (rmovVals ⟨k, u, o⟩)) : X.cell? ⟨b, off, none⟩ = some (.int .i64 k) ∧ X.cell? ⟨b, off + 1, none⟩ = some (.string ⟨u.toArray⟩) ∧ X.cell? ⟨b, off + 2, none⟩ = some (.string ⟨o.toArray⟩) :=
  ⟨h 0 _ rfl, h 1 _ rfl, h 2 _ rfl⟩

def looksR (X : World) (B : Nat) (k : Int) (u o : List UInt8) (M : Nat) (i1 i2 i3 i4 i5 j1 j2 j3 j4 j5 : Bool) : Prop :=
  X.cell? ⟨M, 0, none⟩ = some (.int .i64 k) ∧ X.cell? ⟨M, 1, none⟩ = some (.string ⟨u.toArray⟩) ∧ X.cell? ⟨M, 2, none⟩ = some (.string ⟨o.toArray⟩) ∧
  (Instr.lookup 40 (.map (some B)) (.agg #[.string ⟨u.toArray⟩, .string ⟨o.toArray⟩]) false).run Try.prog X = .ok (.agg #[.bool i1, .bool i2, .bool i3, .bool i4, .bool i5]) X ∧
  (Instr.lookup 40 (.map (some B)) (.agg #[.string ⟨o.toArray⟩, .string ⟨u.toArray⟩]) false).run Try.prog X = .ok (.agg #[.bool j1, .bool j2, .bool j3, .bool j4, .bool j5]) X

theorem looks_of {X : World} {B n M : Nat} {g : List UInt8 → List UInt8 → It} {k : Int} {u o : List UInt8} {i1 i2 i3 i4 i5 j1 j2 j3 j4 j5 : Bool} (hc : CellsAt X M 0 (rmovVals ⟨k, u, o⟩)) (hi : ItemsAt X B n g) (hu : u.length ≤ 40) (ho : o.length ≤ 40) (h1 : g u o = ⟨i1, i2, i3, i4, i5⟩) (h2 : g o u = ⟨j1, j2, j3, j4, j5⟩) :
    looksR X B k u o M i1 i2 i3 i4 i5 j1 j2 j3 j4 j5 := by
  obtain ⟨c0, c1, c2⟩ := threeM hc
  simp only [Nat.zero_add] at c1 c2
  exact ⟨c0, c1, c2, hi.look u o hu ho h1, hi.look o u ho hu h2⟩

set_option maxHeartbeats 3200000 in
set_option maxRecDepth 100000 in
theorem rmayw_1 {w : World} {v : Value} {ms : List RMov} (hv : RMovsAt w v ms) (h40 : ¬ ms.length ≤ 40) :
    Calls Try.prog 5 #[v] w fun e w' => e = .returned (.bool true) ∧ Below w.heap.size w w' := by
  obtain ⟨ao, cap, rfl, hm⟩ := hv.1.open'
  have t1 : decide ((40 : Int) < (ms.length : Int)) = true := by rw [decide_eq_true_eq]; omega
  go_enter Try.func5, Try.ntmps5
  go_wp2_with fail
  refine (live8 _).mono ?_
  rintro e w1 ⟨rfl, b1⟩
  have HB := Lib.hid b1
  clear b1
  go_wp2_with fail
  go_ret
  exact ⟨rfl, HB.out⟩

theorem mgetR {l : List RMov} {i : Nat} (h : i < l.length) : l.getD i RMov.zero = l[i] := by
  rw [List.getD_eq_getElem?_getD, List.getElem?_eq_getElem h]; rfl

def shortR (ms : List RMov) (k : Nat) : Prop := ∀ i, i < k → (ms.getD i RMov.zero).u.length ≤ 40 ∧ (ms.getD i RMov.zero).o.length ≤ 40

theorem shortR_next {ms : List RMov} {k : Nat} (h : shortR ms k) {m : RMov} (hm : ms.getD k RMov.zero = m) (hu : m.u.length ≤ 40) (ho : m.o.length ≤ 40) : shortR ms (k + 1) := by
  intro i hi
  by_cases e : i = k
  · rw [e, hm]; exact ⟨hu, ho⟩
  · exact h i (by omega)

theorem set2R {w : World} {b : Nat} {y0 y1 x0 x1 : Value} {T : TypeId} (h : w.heap[b]? = some (.cells #[y0, y1] T (0, 0))) :
    ((w.setCell ⟨b, 0, none⟩ x0).setCell ⟨b, 1, none⟩ x1).heap[b]? = some (.cells #[x0, x1] T (0, 0)) := by
  have r0 := heap_setCell_same w b 0 _ _ x0 h
  have r1 := heap_setCell_same _ b 1 _ _ x1 r0
  exact r1

theorem twoM {w : World} {b : Nat} {x0 x1 : Value} {T : TypeId} (h : w.heap[b]? = some (.cells #[x0, x1] T (0, 0))) : w.cell? ⟨b, 0, none⟩ = some x0 ∧ w.cell? ⟨b, 1, none⟩ = some x1 ∧ w.frozen? ⟨b, 0, none⟩ = false ∧ w.frozen? ⟨b, 1, none⟩ = false :=
  ⟨cell_of_row w b 0 _ _ (0, 0) h, cell_of_row w b 1 _ _ (0, 0) h, frozen_of_row w b 0 _ _ h, frozen_of_row w b 1 _ _ h⟩

theorem itemsAt_mono {w : World} {B n n' : Nat} {g : List UInt8 → List UInt8 → It} (h : ItemsAt w B n g) (hn : n ≤ n') : Hid (ItemsAt w B n' g) := by
  obtain ⟨m, D, h1, h2⟩ := h
  exact ⟨m, D, by omega, h2⟩

theorem block_grown {w w' : World} {b : Nat} {cs : Array Value} {T : TypeId} (h : w.heap[b]? = some (.cells cs T (0, 0))) {B : Nat} (hm : ∃ es clock, w.heap[B]? = some (.map es clock)) (hg : w.grownBy w' (some B)) : w'.heap[b]? = some (.cells cs T (0, 0)) := by
  obtain ⟨es, clock, hm⟩ := hm
  have hbB : b ≠ B := by
    rintro rfl
    rw [hm] at h
    cases h
  rw [hg.block b (Array.getElem?_eq_some_iff.1 h).1 (fun e => hbB (by injection e))]
  exact h

theorem cells_grown {w w' : World} {b : Nat} {m : RMov} (h : CellsAt w b 0 (rmovVals m)) {B : Nat} (hm : ∃ es clock, w.heap[B]? = some (.map es clock)) (hg : w.grownBy w' (some B)) : CellsAt w' b 0 (rmovVals m) := by
  obtain ⟨es, clock, hm⟩ := hm
  have h0 := h 0 _ rfl
  have hlt := World.block_lt_of_cell? w _ h0
  have hbB : b ≠ B := by
    rintro rfl
    simp [World.cell?, hm] at h0
  have hb := hg.block b hlt (fun e => hbB (by injection e))
  intro j u hu
  have := h j u hu
  simp only [World.cell?, hb] at this ⊢
  exact this

set_option maxHeartbeats 12800000 in
set_option maxRecDepth 100000 in
theorem rmayw_2 {w : World} {v : Value} {ms : List RMov} (hv : RMovsAt w v ms) (h40 : ms.length ≤ 40) :
    Calls Try.prog 5 #[v] w fun e w' => e = .returned (.bool true) ∧ Below w.heap.size w w' := by
  obtain ⟨ao, cap, rfl, hm⟩ := hv.1.open'
  have HV := Lib.hid hv.1
  have HK := Lib.hid hv.2
  have t1 : decide ((40 : Int) < (ms.length : Int)) = false := by rw [decide_eq_false_iff_not]; omega
  have hmk := fun w => run_makeMap (P := Try.prog) 40 w
  clear hv
  go_enter Try.func5, Try.ntmps5
  go_wp2_with fail
  go_loopw [3, 5] (fun s i wr => ∃ (k : Nat) (t : List Ent), k ≤ ms.length ∧ i = .int .i64 k ∧ t.length ≤ 2 * k ∧ Hid (Ents wr s t) ∧ Hid (RoM t) ∧ Hid (ItemsAt wr w.heap.size (2 * k) (roIt t)) ∧ Hid (shortR ms k) ∧ Hid (Below w.heap.size w wr)) (fun _ i _ => ms.length - (intOf i).toNat)
  case atStart => exact ⟨0, [], by omega, rfl, by simp, ents_nil _, roM_nil, itemsAt_made w, (fun i hi => by omega), bl_newZ w _⟩
  case round =>
    obtain ⟨k, t, hk, rfl, htl, FT, FM, FI, FSH, FB⟩ := hrel
    clear hmk
    have hw0 : w.heap.size < wr.heap.size := FI.out.lt
    obtain ⟨ta, tcap, rfl, -⟩ := FT.out.open'
    by_cases hlt : k < ms.length
    · obtain ⟨bm, om, rfl, hc⟩ := HV.out.row FB.out k hlt
      have hkw := HK.out _ (by rw [mgetR hlt]; exact List.getElem_mem hlt : ms.getD k RMov.zero ∈ ms)
      obtain ⟨⟨kd, u, o⟩, hr⟩ : ∃ m, ms.getD k RMov.zero = m := ⟨_, rfl⟩
      have hsh := shortR_next FSH.out (m := ⟨kd, u, o⟩) hr
      rw [hr] at hc hkw
      obtain ⟨m0, m1, m2⟩ := threeM hc
      have hkw2 : (Lit.int .i64 kd).wf = true := hkw
      clear hr hc hkw
      have hnn : (0 : Int) ≤ (k : Int) := by omega
      have hli : (k : Int) < (ms.length : Int) := by omega
      have bn := bl_newZ wr (.cells #[.int .i64 kd, .string ⟨u.toArray⟩, .string ⟨o.toArray⟩] 33)
      have FB1 := Lib.hid (below2Z FB.out bn)
      have FT1 := Lib.hid (FT.out.later bn)
      have FI1 := Lib.hid (FI.out.later bn)
      have FC1 := Lib.hid (cellsAt_made (w := wr) (cs := #[.int .i64 kd, .string ⟨u.toArray⟩, .string ⟨o.toArray⟩]) (vs := rmovVals ⟨kd, u, o⟩) rfl 33 rfl)
      clear bn
      by_cases hu : u.length ≤ 40
      rotate_left
      · have t2 : decide ((40 : Int) < (u.length : Int)) = true := by rw [decide_eq_true_eq]; omega
        go_wp2_with fail
        refine (live8 _).mono ?_
        rintro e w2 ⟨rfl, b2⟩
        have B2 := Lib.hid (below2Z FB1.out b2)
        clear b2
        go_wp2_with fail
        go_ret
        exact ⟨rfl, B2.out⟩
      have t2 : decide ((40 : Int) < (u.length : Int)) = false := by rw [decide_eq_false_iff_not]; omega
      by_cases ho : o.length ≤ 40
      rotate_left
      · have t3 : decide ((40 : Int) < (o.length : Int)) = true := by rw [decide_eq_true_eq]; omega
        go_wp2_with fail
        refine (live8 _).mono ?_
        rintro e w2 ⟨rfl, b2⟩
        have B2 := Lib.hid (below2Z FB1.out b2)
        clear b2
        go_wp2_with fail
        go_ret
        exact ⟨rfl, B2.out⟩
      have t3 : decide ((40 : Int) < (o.length : Int)) = false := by rw [decide_eq_false_iff_not]; omega
      obtain ⟨R, n, hd⟩ : ∃ R n, roDo t kd u o = (R, n) := ⟨_, _, rfl⟩
      have HD := Lib.hid hd
      clear hd
      generalize hM : wr.heap.size = M at FC1
      go_wp2_with fail
      refine (rdo_any FT1.out (roM_short FM.out) (by omega) u o (by omega) (by omega) kd hkw2 HD.out).mono ?_
      rintro e w2 ⟨x2, rfl, h2, b2⟩
      have FR2 := Lib.hid h2
      obtain ⟨ra, rcap, rfl, -⟩ := h2.open'
      have FB2 := Lib.hid (below2Z FB1.out b2)
      have FT2 := Lib.hid (FT1.out.later b2)
      have FI2 := Lib.hid (FI1.out.later b2)
      have FC2 := Lib.hid (FC1.out.later b2)
      clear h2 b2 FT1 FI1 FC1 FB1 FT FI FB m0 m1 m2
      by_cases hn : n = 0
      rotate_left
      · have hRt := roDo_err HD.out hn
        subst hRt
        have t4 : ((n : Int) != 0) = true := by rw [bne_iff_ne]; omega
        go_wp2_with fail
        refine (rsame8_yes FR2.out FT2.out).mono ?_
        rintro e w3 ⟨rfl, b3⟩
        have FB3 := Lib.hid (below2Z FB2.out b3)
        have FT3 := Lib.hid (FT2.out.later b3)
        have FI3 := Lib.hid (FI2.out.later b3)
        clear b3 FB2 FT2 FI2 FR2 FC2
        go_wp2_with fail
        go_roundw
        case rel => exact ⟨k + 1, R, by omega, by go_num, by omega, FT3, FM, itemsAt_mono FI3.out (by omega), Lib.hid (hsh hu ho), FB3⟩
        case measure => simp [intOf]; omega
      subst hn
      have huo : ¬ u = o := (roDo_ok HD.out).2.2.2.1
      have t4 : (u == o) = false := by rw [beq_eq_false_iff_ne]; exact huo
      obtain ⟨⟨x0, x1, x2, x3, x4⟩, ⟨y0, y1, y2, y3, y4⟩, hx, hx1, hx2⟩ := roDo_two HD.out
      obtain ⟨⟨i1, i2, i3, i4, i5⟩, hi⟩ : ∃ r, roIt t u o = r := ⟨_, rfl⟩
      obtain ⟨⟨j1, j2, j3, j4, j5⟩, hj⟩ : ∃ r, roIt t o u = r := ⟨_, rfl⟩
      rw [hi, hj] at hx
      have HA := Lib.hid (sact_eq hkw2 (Lib.hid hx))
      try simp only at HA
      have HI := Lib.hid hi
      have HJ := Lib.hid hj
      have HX1 := Lib.hid hx1
      have HX2 := Lib.hid hx2
      clear hi hj hx hx1 hx2 huo
      obtain ⟨c0, c1, c2⟩ := threeM FC2.out
      simp only [Nat.zero_add] at c1 c2
      go_upto_region 17 with fail
      go_cut [9, 10, 11] (fun p q e wx => ∃ P Q, p = .pointer (some ⟨P, 0, none⟩) ∧ q = .pointer (some ⟨Q, 0, none⟩) ∧ e = .int .i64 0 ∧ Hid (wx.heap[P]? = some (.cells #[.bool x0, .bool x1, .bool x2, .bool x3, .bool x4] 26 (0, 0))) ∧ Hid (wx.heap[Q]? = some (.cells #[.bool y0, .bool y1, .bool y2, .bool y3, .bool y4] 26 (0, 0))) ∧ Hid (Below w2.heap.size w2 wx))
      case first =>
        have FX : Hid (Below w2.heap.size w2 w2.drew) := Lib.hid (Below.refl _ _).drew
        clear c0 c1 c2 FB2 FT2 FR2
        refine wp_region_held_drew (S := (fun X => looksR X w.heap.size kd u o M i1 i2 i3 i4 i5 j1 j2 j3 j4 j5)) (by kernel_rfl) ?_ (fun hHeld => ?_)
        · exact looks_of (FC2.out.later FX.out) (FI2.out.later FX.out) hu ho HI.out HJ.out
        generalize w2.drew = X0 at FX hHeld ⊢
        refine wpAnyH_take (i := 0) (oi := { dst := some 63, op := Op.move (Operand.tmp 4), type := 40, pos := "law.go:69", after := #[], guard := none }) (v := ?_) rfl (by as_aux_lemma => kernel_rfl) (by as_aux_lemma => kernel_rfl) (by as_aux_lemma => kernel_rfl) (fun _ _ _ h => h) (Or.inl ⟨by rfl, ?_⟩) (by assumption) ?_
        rotate_left
        · intro w' hSw
          try dsimp only [looksR] at hSw
          go_simp
          try with_reducible rfl
        try simp only [Act.put, List.setIfInBounds_toArray, List.set_cons_zero, List.set_cons_succ]
        refine wpAnyH_take (i := 1) (oi := { dst := some 64, op := Op.fieldAddr 33 (Operand.tmp 6) 1, type := 0, pos := "law.go:69", after := #[], guard := none }) (v := ?_) rfl (by as_aux_lemma => kernel_rfl) (by as_aux_lemma => kernel_rfl) (by as_aux_lemma => kernel_rfl) (fun _ _ _ h => h) (Or.inl ⟨by rfl, ?_⟩) (by assumption) ?_
        rotate_left
        · intro w' hSw
          try dsimp only [looksR] at hSw
          go_simp
          try with_reducible rfl
        try simp only [Act.put, List.setIfInBounds_toArray, List.set_cons_zero, List.set_cons_succ]
        refine wpAnyH_take (i := 2) (oi := { dst := some 65, op := Op.load 9 (Operand.tmp 64), type := 9, pos := "law.go:69", after := #[{ on := 1, ground := Ground.data }], guard := none }) (v := ?_) rfl (by as_aux_lemma => kernel_rfl) (by as_aux_lemma => kernel_rfl) (by as_aux_lemma => kernel_rfl) (fun _ _ _ h => h) (Or.inl ⟨by rfl, ?_⟩) (by assumption) ?_
        rotate_left
        · intro w' hSw
          try dsimp only [looksR] at hSw
          go_simp
          try with_reducible rfl
        try simp only [Act.put, List.setIfInBounds_toArray, List.set_cons_zero, List.set_cons_succ]
        refine wpAnyH_take (i := 3) (oi := { dst := some 66, op := Op.fieldAddr 33 (Operand.tmp 6) 2, type := 0, pos := "law.go:69", after := #[], guard := none }) (v := ?_) rfl (by as_aux_lemma => kernel_rfl) (by as_aux_lemma => kernel_rfl) (by as_aux_lemma => kernel_rfl) (fun _ _ _ h => h) (Or.inl ⟨by rfl, ?_⟩) (by assumption) ?_
        rotate_left
        · intro w' hSw
          try dsimp only [looksR] at hSw
          go_simp
          try with_reducible rfl
        try simp only [Act.put, List.setIfInBounds_toArray, List.set_cons_zero, List.set_cons_succ]
        refine wpAnyH_take (i := 4) (oi := { dst := some 67, op := Op.load 9 (Operand.tmp 66), type := 9, pos := "law.go:69", after := #[{ on := 3, ground := Ground.data }], guard := none }) (v := ?_) rfl (by as_aux_lemma => kernel_rfl) (by as_aux_lemma => kernel_rfl) (by as_aux_lemma => kernel_rfl) (fun _ _ _ h => h) (Or.inl ⟨by rfl, ?_⟩) (by assumption) ?_
        rotate_left
        · intro w' hSw
          try dsimp only [looksR] at hSw
          go_simp
          try with_reducible rfl
        try simp only [Act.put, List.setIfInBounds_toArray, List.set_cons_zero, List.set_cons_succ]
        refine wpAnyH_take (i := 5) (oi := { dst := some 68, op := Op.build 43 #[(0, Operand.tmp 65), (1, Operand.tmp 67)], type := 43, pos := "law.go:69", after := #[{ on := 2, ground := Ground.data }, { on := 4, ground := Ground.data }], guard := none }) (v := ?_) rfl (by as_aux_lemma => kernel_rfl) (by as_aux_lemma => kernel_rfl) (by as_aux_lemma => kernel_rfl) (fun _ _ _ h => h) (Or.inl ⟨by rfl, ?_⟩) (by assumption) ?_
        rotate_left
        · intro w' hSw
          try dsimp only [looksR] at hSw
          go_simp
          try with_reducible rfl
        try simp only [Act.put, List.setIfInBounds_toArray, List.set_cons_zero, List.set_cons_succ]
        refine wpAnyH_take (i := 6) (oi := { dst := some 69, op := Op.lookup 40 (Operand.tmp 63) (Operand.tmp 68) false, type := 26, pos := "law.go:69", after := #[{ on := 0, ground := Ground.data }, { on := 5, ground := Ground.data }], guard := none }) (v := ?_) rfl (by as_aux_lemma => kernel_rfl) (by as_aux_lemma => kernel_rfl) (by as_aux_lemma => kernel_rfl) (fun _ _ _ h => h) (Or.inl ⟨by rfl, ?_⟩) (by assumption) ?_
        rotate_left
        · intro w' hSw
          try dsimp only [looksR] at hSw
          go_simp
          try with_reducible rfl
        try simp only [Act.put, List.setIfInBounds_toArray, List.set_cons_zero, List.set_cons_succ]
        refine wpAnyH_take (i := 7) (oi := { dst := some 70, op := Op.move (Operand.tmp 4), type := 40, pos := "law.go:69", after := #[], guard := none }) (v := ?_) rfl (by as_aux_lemma => kernel_rfl) (by as_aux_lemma => kernel_rfl) (by as_aux_lemma => kernel_rfl) (fun _ _ _ h => h) (Or.inl ⟨by rfl, ?_⟩) (by assumption) ?_
        rotate_left
        · intro w' hSw
          try dsimp only [looksR] at hSw
          go_simp
          try with_reducible rfl
        try simp only [Act.put, List.setIfInBounds_toArray, List.set_cons_zero, List.set_cons_succ]
        refine wpAnyH_take (i := 8) (oi := { dst := some 71, op := Op.fieldAddr 33 (Operand.tmp 6) 2, type := 0, pos := "law.go:69", after := #[], guard := none }) (v := ?_) rfl (by as_aux_lemma => kernel_rfl) (by as_aux_lemma => kernel_rfl) (by as_aux_lemma => kernel_rfl) (fun _ _ _ h => h) (Or.inl ⟨by rfl, ?_⟩) (by assumption) ?_
        rotate_left
        · intro w' hSw
          try dsimp only [looksR] at hSw
          go_simp
          try with_reducible rfl
        try simp only [Act.put, List.setIfInBounds_toArray, List.set_cons_zero, List.set_cons_succ]
        refine wpAnyH_take (i := 9) (oi := { dst := some 72, op := Op.load 9 (Operand.tmp 71), type := 9, pos := "law.go:69", after := #[{ on := 8, ground := Ground.data }], guard := none }) (v := ?_) rfl (by as_aux_lemma => kernel_rfl) (by as_aux_lemma => kernel_rfl) (by as_aux_lemma => kernel_rfl) (fun _ _ _ h => h) (Or.inl ⟨by rfl, ?_⟩) (by assumption) ?_
        rotate_left
        · intro w' hSw
          try dsimp only [looksR] at hSw
          go_simp
          try with_reducible rfl
        try simp only [Act.put, List.setIfInBounds_toArray, List.set_cons_zero, List.set_cons_succ]
        refine wpAnyH_take (i := 10) (oi := { dst := some 73, op := Op.fieldAddr 33 (Operand.tmp 6) 1, type := 0, pos := "law.go:69", after := #[], guard := none }) (v := ?_) rfl (by as_aux_lemma => kernel_rfl) (by as_aux_lemma => kernel_rfl) (by as_aux_lemma => kernel_rfl) (fun _ _ _ h => h) (Or.inl ⟨by rfl, ?_⟩) (by assumption) ?_
        rotate_left
        · intro w' hSw
          try dsimp only [looksR] at hSw
          go_simp
          try with_reducible rfl
        try simp only [Act.put, List.setIfInBounds_toArray, List.set_cons_zero, List.set_cons_succ]
        refine wpAnyH_take (i := 11) (oi := { dst := some 74, op := Op.load 9 (Operand.tmp 73), type := 9, pos := "law.go:69", after := #[{ on := 10, ground := Ground.data }], guard := none }) (v := ?_) rfl (by as_aux_lemma => kernel_rfl) (by as_aux_lemma => kernel_rfl) (by as_aux_lemma => kernel_rfl) (fun _ _ _ h => h) (Or.inl ⟨by rfl, ?_⟩) (by assumption) ?_
        rotate_left
        · intro w' hSw
          try dsimp only [looksR] at hSw
          go_simp
          try with_reducible rfl
        try simp only [Act.put, List.setIfInBounds_toArray, List.set_cons_zero, List.set_cons_succ]
        refine wpAnyH_take (i := 12) (oi := { dst := some 75, op := Op.build 43 #[(0, Operand.tmp 72), (1, Operand.tmp 74)], type := 43, pos := "law.go:69", after := #[{ on := 9, ground := Ground.data }, { on := 11, ground := Ground.data }], guard := none }) (v := ?_) rfl (by as_aux_lemma => kernel_rfl) (by as_aux_lemma => kernel_rfl) (by as_aux_lemma => kernel_rfl) (fun _ _ _ h => h) (Or.inl ⟨by rfl, ?_⟩) (by assumption) ?_
        rotate_left
        · intro w' hSw
          try dsimp only [looksR] at hSw
          go_simp
          try with_reducible rfl
        try simp only [Act.put, List.setIfInBounds_toArray, List.set_cons_zero, List.set_cons_succ]
        refine wpAnyH_take (i := 13) (oi := { dst := some 76, op := Op.lookup 40 (Operand.tmp 70) (Operand.tmp 75) false, type := 26, pos := "law.go:69", after := #[{ on := 7, ground := Ground.data }, { on := 12, ground := Ground.data }], guard := none }) (v := ?_) rfl (by as_aux_lemma => kernel_rfl) (by as_aux_lemma => kernel_rfl) (by as_aux_lemma => kernel_rfl) (fun _ _ _ h => h) (Or.inl ⟨by rfl, ?_⟩) (by assumption) ?_
        rotate_left
        · intro w' hSw
          try dsimp only [looksR] at hSw
          go_simp
          try with_reducible rfl
        try simp only [Act.put, List.setIfInBounds_toArray, List.set_cons_zero, List.set_cons_succ]
        refine wpAnyH_take (i := 14) (oi := { dst := some 77, op := Op.fieldAddr 33 (Operand.tmp 6) 0, type := 0, pos := "law.go:69", after := #[], guard := none }) (v := ?_) rfl (by as_aux_lemma => kernel_rfl) (by as_aux_lemma => kernel_rfl) (by as_aux_lemma => kernel_rfl) (fun _ _ _ h => h) (Or.inl ⟨by rfl, ?_⟩) (by assumption) ?_
        rotate_left
        · intro w' hSw
          try dsimp only [looksR] at hSw
          go_simp
          try with_reducible rfl
        try simp only [Act.put, List.setIfInBounds_toArray, List.set_cons_zero, List.set_cons_succ]
        refine wpAnyH_take (i := 15) (oi := { dst := some 78, op := Op.load 3 (Operand.tmp 77), type := 3, pos := "law.go:69", after := #[{ on := 14, ground := Ground.data }], guard := none }) (v := ?_) rfl (by as_aux_lemma => kernel_rfl) (by as_aux_lemma => kernel_rfl) (by as_aux_lemma => kernel_rfl) (fun _ _ _ h => h) (Or.inl ⟨by rfl, ?_⟩) (by assumption) ?_
        rotate_left
        · intro w' hSw
          try dsimp only [looksR] at hSw
          go_simp
          try with_reducible rfl
        try simp only [Act.put, List.setIfInBounds_toArray, List.set_cons_zero, List.set_cons_succ]
        refine wpAnyH_ready (rs := [16, 21, 22]) (by as_aux_lemma => kernel_rfl) (by simp) ?_
        refine AllReadyH.cons (o := { dst := some 79, op := Op.call { callee := Callee.value (Operand.func 31), args := #[Operand.tmp 69, Operand.tmp 76, Operand.tmp 78], argTypes := #[26, 26, 3] }, type := 41, pos := "law.go:69", after := #[{ on := 6, ground := Ground.data }, { on := 13, ground := Ground.data }, { on := 15, ground := Ground.data }], guard := none }) rfl (fun Kx hK => ?_) (AllReadyH.cons (o := { dst := some 9, op := Op.alloc 26, type := 0, pos := "law.go:69", after := #[], guard := none }) rfl (fun Kx hK => ?_) (AllReadyH.cons (o := { dst := some 10, op := Op.alloc 26, type := 0, pos := "law.go:69", after := #[], guard := none }) rfl (fun Kx hK => ?_) AllReadyH.nil))
        · skip
          go_simp
          refine (HA.out _).mono ?_
          rintro e X1 ⟨rfl, b9⟩
          have FY := Lib.hid (FX.out.trans (b9.mono FX.out.size))
          go_wp2_with fail
          refine hK.out _ _ ?_ (fun hHeld2 => ?_)
          · exact looks_of (FC2.out.later FY.out) (FI2.out.later FY.out) hu ho HI.out HJ.out
          clear hK Kx hHeld
          have hHeld := hHeld2
          clear hHeld2
          try simp only [Act.put, List.setIfInBounds_toArray, List.set_cons_zero, List.set_cons_succ]
          clear FX b9 
          have FX := FY
          clear FY
          refine wpAnyH_take (i := 17) (oi := { dst := some 62, op := Op.move (Operand.tmp 79), type := 41, pos := "law.go:69", after := #[{ on := 16, ground := Ground.data }], guard := none }) (v := ?_) rfl (by as_aux_lemma => kernel_rfl) (by as_aux_lemma => kernel_rfl) (by as_aux_lemma => kernel_rfl) (fun _ _ _ h => h) (Or.inl ⟨by rfl, ?_⟩) (by assumption) ?_
          rotate_left
          · intro w' hSw
            try dsimp only [looksR] at hSw
            go_simp
            try with_reducible rfl
          try simp only [Act.put, List.setIfInBounds_toArray, List.set_cons_zero, List.set_cons_succ]
          refine wpAnyH_take (i := 18) (oi := { dst := some 80, op := Op.extract (Operand.tmp 62) 0, type := 26, pos := "law.go:69", after := #[{ on := 17, ground := Ground.data }], guard := none }) (v := ?_) rfl (by as_aux_lemma => kernel_rfl) (by as_aux_lemma => kernel_rfl) (by as_aux_lemma => kernel_rfl) (fun _ _ _ h => h) (Or.inl ⟨by rfl, ?_⟩) (by assumption) ?_
          rotate_left
          · intro w' hSw
            try dsimp only [looksR] at hSw
            go_simp
            try with_reducible rfl
          try simp only [Act.put, List.setIfInBounds_toArray, List.set_cons_zero, List.set_cons_succ]
          refine wpAnyH_take (i := 19) (oi := { dst := some 81, op := Op.extract (Operand.tmp 62) 1, type := 26, pos := "law.go:69", after := #[{ on := 17, ground := Ground.data }, { on := 23, ground := Ground.gcOnly Departure.lateStores }], guard := none }) (v := ?_) rfl (by as_aux_lemma => kernel_rfl) (by as_aux_lemma => kernel_rfl) (by as_aux_lemma => kernel_rfl) (fun _ _ _ h => h) (Or.inl ⟨by rfl, ?_⟩) (by assumption) ?_
          rotate_left
          · intro w' hSw
            try dsimp only [looksR] at hSw
            go_simp
            try with_reducible rfl
          try simp only [Act.put, List.setIfInBounds_toArray, List.set_cons_zero, List.set_cons_succ]
          refine wpAnyH_take (i := 20) (oi := { dst := some 82, op := Op.extract (Operand.tmp 62) 2, type := 34, pos := "law.go:69", after := #[{ on := 17, ground := Ground.data }, { on := 24, ground := Ground.gcOnly Departure.lateStores }], guard := none }) (v := ?_) rfl (by as_aux_lemma => kernel_rfl) (by as_aux_lemma => kernel_rfl) (by as_aux_lemma => kernel_rfl) (fun _ _ _ h => h) (Or.inl ⟨by rfl, ?_⟩) (by assumption) ?_
          rotate_left
          · intro w' hSw
            try dsimp only [looksR] at hSw
            go_simp
            try with_reducible rfl
          try simp only [Act.put, List.setIfInBounds_toArray, List.set_cons_zero, List.set_cons_succ]
          refine wpAnyH_ready (rs := [21, 22]) (by as_aux_lemma => kernel_rfl) (by simp) ?_
          refine AllReadyH.cons (o := { dst := some 9, op := Op.alloc 26, type := 0, pos := "law.go:69", after := #[], guard := none }) rfl (fun Kx hK => ?_) (AllReadyH.cons (o := { dst := some 10, op := Op.alloc 26, type := 0, pos := "law.go:69", after := #[], guard := none }) rfl (fun Kx hK => ?_) AllReadyH.nil)
          · skip
            go_simp
            have bb := bl_newZ X1 (.cells #[.bool false, .bool false, .bool false, .bool false, .bool false] 26)
            have FY := Lib.hid (FX.out.trans (bb.mono FX.out.size))
            have FP2 : Hid ((X1.alloc (.cells #[.bool false, .bool false, .bool false, .bool false, .bool false] 26)).heap[X1.heap.size]? = some (.cells #[.bool false, .bool false, .bool false, .bool false, .bool false] 26 (0, 0))) := Lib.hid (heap_newM X1 _)
            have hP : w2.heap.size ≤ X1.heap.size := FX.out.size
            refine hK.out _ _ ?_ (fun hHeld2 => ?_)
            · exact looks_of (FC2.out.later FY.out) (FI2.out.later FY.out) hu ho HI.out HJ.out
            clear hK Kx hHeld
            have hHeld := hHeld2
            clear hHeld2
            try simp only [Act.put, List.setIfInBounds_toArray, List.set_cons_zero, List.set_cons_succ]
            clear FX bb 
            generalize X1.alloc (.cells #[.bool false, .bool false, .bool false, .bool false, .bool false] 26) = X2 at FY FP2 hHeld ⊢
            generalize X1.heap.size = bP at FP2 hP ⊢
            have FX := FY
            clear FY
            have FP := FP2
            clear FP2
            refine wpAnyH_ready (rs := [22]) (by as_aux_lemma => kernel_rfl) (by simp) ?_
            refine AllReadyH.cons (o := { dst := some 10, op := Op.alloc 26, type := 0, pos := "law.go:69", after := #[], guard := none }) rfl (fun Kx hK => ?_) AllReadyH.nil
            · skip
              go_simp
              have bb := bl_newZ X2 (.cells #[.bool false, .bool false, .bool false, .bool false, .bool false] 26)
              have FY := Lib.hid (FX.out.trans (bb.mono FX.out.size))
              have FP2 := Lib.hid (upR FP.out bb)
              have FQ2 : Hid ((X2.alloc (.cells #[.bool false, .bool false, .bool false, .bool false, .bool false] 26)).heap[X2.heap.size]? = some (.cells #[.bool false, .bool false, .bool false, .bool false, .bool false] 26 (0, 0))) := Lib.hid (heap_newM X2 _)
              have hQ : w2.heap.size ≤ X2.heap.size := FX.out.size
              have hPQ : bP < X2.heap.size := (Array.getElem?_eq_some_iff.1 FP.out).1
              refine hK.out _ _ ?_ (fun hHeld2 => ?_)
              · exact looks_of (FC2.out.later FY.out) (FI2.out.later FY.out) hu ho HI.out HJ.out
              clear hK Kx hHeld
              have hHeld := hHeld2
              clear hHeld2
              try simp only [Act.put, List.setIfInBounds_toArray, List.set_cons_zero, List.set_cons_succ]
              clear FX bb FP
              generalize X2.alloc (.cells #[.bool false, .bool false, .bool false, .bool false, .bool false] 26) = X3 at FY FP2 FQ2 hHeld ⊢
              generalize X2.heap.size = bQ at FQ2 hQ hPQ ⊢
              have FX := FY
              clear FY
              have FP := FP2
              clear FP2
              have FQ := FQ2
              clear FQ2
              obtain ⟨g0, g1, g2, g3, g4⟩ := fiveR FP.out
              obtain ⟨f0, f1, f2, f3, f4⟩ := freeR FP.out
              have FP2 := Lib.hid (setR (x0 := .bool x0) (x1 := .bool x1) (x2 := .bool x2) (x3 := .bool x3) (x4 := .bool x4) FP.out)
              have FQ2 := Lib.hid (asideR FQ.out (by omega : bP ≠ bQ) (.bool x0) (.bool x1) (.bool x2) (.bool x3) (.bool x4))
              have FY := Lib.hid (belowR FX.out hP (.bool x0) (.bool x1) (.bool x2) (.bool x3) (.bool x4))
              refine wpAnyH_ready (rs := [23]) (by as_aux_lemma => kernel_rfl) (by simp) ?_
              refine AllReadyH.cons (o := { dst := none, op := Op.store 26 (Operand.tmp 9) (Operand.tmp 80), type := 0, pos := "law.go:69", after := #[{ on := 21, ground := Ground.data }, { on := 18, ground := Ground.data }, { on := 16, ground := Ground.chain }, { on := 0, ground := Ground.phase }, { on := 1, ground := Ground.phase }, { on := 2, ground := Ground.phase }, { on := 3, ground := Ground.phase }, { on := 4, ground := Ground.phase }, { on := 5, ground := Ground.phase }, { on := 6, ground := Ground.phase }, { on := 7, ground := Ground.phase }, { on := 8, ground := Ground.phase }, { on := 9, ground := Ground.phase }, { on := 10, ground := Ground.phase }, { on := 11, ground := Ground.phase }, { on := 12, ground := Ground.phase }, { on := 13, ground := Ground.phase }, { on := 14, ground := Ground.phase }, { on := 15, ground := Ground.phase }, { on := 16, ground := Ground.phase }, { on := 17, ground := Ground.phase }, { on := 18, ground := Ground.phase }, { on := 19, ground := Ground.textOnly Departure.lateStores }, { on := 20, ground := Ground.textOnly Departure.lateStores }, { on := 21, ground := Ground.phase }, { on := 22, ground := Ground.phase }], guard := none }) rfl (fun Kx hK => ?_) AllReadyH.nil
              go_simp
              refine hK.out _ _ ?_ (fun hHeld2 => ?_)
              · exact looks_of (FC2.out.later FY.out) (FI2.out.later FY.out) hu ho HI.out HJ.out
              clear hK Kx hHeld
              have hHeld := hHeld2
              clear hHeld2
              try simp only [Act.put, List.setIfInBounds_toArray, List.set_cons_zero, List.set_cons_succ]
              clear FX FP FQ g0 g1 g2 g3 g4 f0 f1 f2 f3 f4
              have FX := FY
              clear FY
              have FP := FP2
              clear FP2
              have FQ := FQ2
              clear FQ2
              obtain ⟨g0, g1, g2, g3, g4⟩ := fiveR FQ.out
              obtain ⟨f0, f1, f2, f3, f4⟩ := freeR FQ.out
              have FQ2 := Lib.hid (setR (x0 := .bool y0) (x1 := .bool y1) (x2 := .bool y2) (x3 := .bool y3) (x4 := .bool y4) FQ.out)
              have FP2 := Lib.hid (asideR FP.out (by omega : bQ ≠ bP) (.bool y0) (.bool y1) (.bool y2) (.bool y3) (.bool y4))
              have FY := Lib.hid (belowR FX.out hQ (.bool y0) (.bool y1) (.bool y2) (.bool y3) (.bool y4))
              refine wpAnyH_ready (rs := [24]) (by as_aux_lemma => kernel_rfl) (by simp) ?_
              refine AllReadyH.cons (o := { dst := none, op := Op.store 26 (Operand.tmp 10) (Operand.tmp 81), type := 0, pos := "law.go:69", after := #[{ on := 22, ground := Ground.data }, { on := 19, ground := Ground.data }, { on := 23, ground := Ground.chain }, { on := 0, ground := Ground.phase }, { on := 1, ground := Ground.phase }, { on := 2, ground := Ground.phase }, { on := 3, ground := Ground.phase }, { on := 4, ground := Ground.phase }, { on := 5, ground := Ground.phase }, { on := 6, ground := Ground.phase }, { on := 7, ground := Ground.phase }, { on := 8, ground := Ground.phase }, { on := 9, ground := Ground.phase }, { on := 10, ground := Ground.phase }, { on := 11, ground := Ground.phase }, { on := 12, ground := Ground.phase }, { on := 13, ground := Ground.phase }, { on := 14, ground := Ground.phase }, { on := 15, ground := Ground.phase }, { on := 16, ground := Ground.phase }, { on := 17, ground := Ground.phase }, { on := 18, ground := Ground.phase }, { on := 19, ground := Ground.phase }, { on := 20, ground := Ground.textOnly Departure.lateStores }, { on := 21, ground := Ground.phase }, { on := 22, ground := Ground.phase }, { on := 23, ground := Ground.phase }], guard := none }) rfl (fun Kx hK => ?_) AllReadyH.nil
              go_simp
              refine hK.out _ _ ?_ (fun hHeld2 => ?_)
              · exact looks_of (FC2.out.later FY.out) (FI2.out.later FY.out) hu ho HI.out HJ.out
              clear hK Kx hHeld
              have hHeld := hHeld2
              clear hHeld2
              try simp only [Act.put, List.setIfInBounds_toArray, List.set_cons_zero, List.set_cons_succ]
              clear FX FP FQ g0 g1 g2 g3 g4 f0 f1 f2 f3 f4
              have FX := FY
              clear FY
              have FP := FP2
              clear FP2
              have FQ := FQ2
              clear FQ2
              refine wpAnyH_take (i := 25) (oi := { dst := some 11, op := Op.assign (Operand.tmp 82), type := 34, pos := "law.go:69", after := #[{ on := 20, ground := Ground.data }, { on := 24, ground := Ground.chain }, { on := 0, ground := Ground.phase }, { on := 1, ground := Ground.phase }, { on := 2, ground := Ground.phase }, { on := 3, ground := Ground.phase }, { on := 4, ground := Ground.phase }, { on := 5, ground := Ground.phase }, { on := 6, ground := Ground.phase }, { on := 7, ground := Ground.phase }, { on := 8, ground := Ground.phase }, { on := 9, ground := Ground.phase }, { on := 10, ground := Ground.phase }, { on := 11, ground := Ground.phase }, { on := 12, ground := Ground.phase }, { on := 13, ground := Ground.phase }, { on := 14, ground := Ground.phase }, { on := 15, ground := Ground.phase }, { on := 16, ground := Ground.phase }, { on := 17, ground := Ground.phase }, { on := 18, ground := Ground.phase }, { on := 19, ground := Ground.phase }, { on := 20, ground := Ground.phase }, { on := 21, ground := Ground.phase }, { on := 22, ground := Ground.phase }, { on := 23, ground := Ground.phase }, { on := 24, ground := Ground.phase }], guard := none }) (v := ?_) rfl (by as_aux_lemma => kernel_rfl) (by as_aux_lemma => kernel_rfl) (by as_aux_lemma => kernel_rfl) (fun _ _ _ h => h) (Or.inl ⟨by rfl, ?_⟩) (by assumption) ?_
              rotate_left
              · intro w' hSw
                try dsimp only [looksR] at hSw
                go_simp
                try with_reducible rfl
              try simp only [Act.put, List.setIfInBounds_toArray, List.set_cons_zero, List.set_cons_succ]
              refine wpAnyH_done (by kernel_rfl) ?_ _
              go_wp2_with fail
              go_meet
              exact ⟨bP, bQ, rfl, rfl, rfl, FP, FQ, FX⟩
          · skip
            go_simp
            have bb := bl_newZ X1 (.cells #[.bool false, .bool false, .bool false, .bool false, .bool false] 26)
            have FY := Lib.hid (FX.out.trans (bb.mono FX.out.size))
            have FQ2 : Hid ((X1.alloc (.cells #[.bool false, .bool false, .bool false, .bool false, .bool false] 26)).heap[X1.heap.size]? = some (.cells #[.bool false, .bool false, .bool false, .bool false, .bool false] 26 (0, 0))) := Lib.hid (heap_newM X1 _)
            have hQ : w2.heap.size ≤ X1.heap.size := FX.out.size
            refine hK.out _ _ ?_ (fun hHeld2 => ?_)
            · exact looks_of (FC2.out.later FY.out) (FI2.out.later FY.out) hu ho HI.out HJ.out
            clear hK Kx hHeld
            have hHeld := hHeld2
            clear hHeld2
            try simp only [Act.put, List.setIfInBounds_toArray, List.set_cons_zero, List.set_cons_succ]
            clear FX bb 
            generalize X1.alloc (.cells #[.bool false, .bool false, .bool false, .bool false, .bool false] 26) = X2 at FY FQ2 hHeld ⊢
            generalize X1.heap.size = bQ at FQ2 hQ ⊢
            have FX := FY
            clear FY
            have FQ := FQ2
            clear FQ2
            refine wpAnyH_ready (rs := [21]) (by as_aux_lemma => kernel_rfl) (by simp) ?_
            refine AllReadyH.cons (o := { dst := some 9, op := Op.alloc 26, type := 0, pos := "law.go:69", after := #[], guard := none }) rfl (fun Kx hK => ?_) AllReadyH.nil
            · skip
              go_simp
              have bb := bl_newZ X2 (.cells #[.bool false, .bool false, .bool false, .bool false, .bool false] 26)
              have FY := Lib.hid (FX.out.trans (bb.mono FX.out.size))
              have FQ2 := Lib.hid (upR FQ.out bb)
              have FP2 : Hid ((X2.alloc (.cells #[.bool false, .bool false, .bool false, .bool false, .bool false] 26)).heap[X2.heap.size]? = some (.cells #[.bool false, .bool false, .bool false, .bool false, .bool false] 26 (0, 0))) := Lib.hid (heap_newM X2 _)
              have hP : w2.heap.size ≤ X2.heap.size := FX.out.size
              have hPQ : bQ < X2.heap.size := (Array.getElem?_eq_some_iff.1 FQ.out).1
              refine hK.out _ _ ?_ (fun hHeld2 => ?_)
              · exact looks_of (FC2.out.later FY.out) (FI2.out.later FY.out) hu ho HI.out HJ.out
              clear hK Kx hHeld
              have hHeld := hHeld2
              clear hHeld2
              try simp only [Act.put, List.setIfInBounds_toArray, List.set_cons_zero, List.set_cons_succ]
              clear FX bb FQ
              generalize X2.alloc (.cells #[.bool false, .bool false, .bool false, .bool false, .bool false] 26) = X3 at FY FP2 FQ2 hHeld ⊢
              generalize X2.heap.size = bP at FP2 hP hPQ ⊢
              have FX := FY
              clear FY
              have FP := FP2
              clear FP2
              have FQ := FQ2
              clear FQ2
              obtain ⟨g0, g1, g2, g3, g4⟩ := fiveR FP.out
              obtain ⟨f0, f1, f2, f3, f4⟩ := freeR FP.out
              have FP2 := Lib.hid (setR (x0 := .bool x0) (x1 := .bool x1) (x2 := .bool x2) (x3 := .bool x3) (x4 := .bool x4) FP.out)
              have FQ2 := Lib.hid (asideR FQ.out (by omega : bP ≠ bQ) (.bool x0) (.bool x1) (.bool x2) (.bool x3) (.bool x4))
              have FY := Lib.hid (belowR FX.out hP (.bool x0) (.bool x1) (.bool x2) (.bool x3) (.bool x4))
              refine wpAnyH_ready (rs := [23]) (by as_aux_lemma => kernel_rfl) (by simp) ?_
              refine AllReadyH.cons (o := { dst := none, op := Op.store 26 (Operand.tmp 9) (Operand.tmp 80), type := 0, pos := "law.go:69", after := #[{ on := 21, ground := Ground.data }, { on := 18, ground := Ground.data }, { on := 16, ground := Ground.chain }, { on := 0, ground := Ground.phase }, { on := 1, ground := Ground.phase }, { on := 2, ground := Ground.phase }, { on := 3, ground := Ground.phase }, { on := 4, ground := Ground.phase }, { on := 5, ground := Ground.phase }, { on := 6, ground := Ground.phase }, { on := 7, ground := Ground.phase }, { on := 8, ground := Ground.phase }, { on := 9, ground := Ground.phase }, { on := 10, ground := Ground.phase }, { on := 11, ground := Ground.phase }, { on := 12, ground := Ground.phase }, { on := 13, ground := Ground.phase }, { on := 14, ground := Ground.phase }, { on := 15, ground := Ground.phase }, { on := 16, ground := Ground.phase }, { on := 17, ground := Ground.phase }, { on := 18, ground := Ground.phase }, { on := 19, ground := Ground.textOnly Departure.lateStores }, { on := 20, ground := Ground.textOnly Departure.lateStores }, { on := 21, ground := Ground.phase }, { on := 22, ground := Ground.phase }], guard := none }) rfl (fun Kx hK => ?_) AllReadyH.nil
              go_simp
              refine hK.out _ _ ?_ (fun hHeld2 => ?_)
              · exact looks_of (FC2.out.later FY.out) (FI2.out.later FY.out) hu ho HI.out HJ.out
              clear hK Kx hHeld
              have hHeld := hHeld2
              clear hHeld2
              try simp only [Act.put, List.setIfInBounds_toArray, List.set_cons_zero, List.set_cons_succ]
              clear FX FP FQ g0 g1 g2 g3 g4 f0 f1 f2 f3 f4
              have FX := FY
              clear FY
              have FP := FP2
              clear FP2
              have FQ := FQ2
              clear FQ2
              obtain ⟨g0, g1, g2, g3, g4⟩ := fiveR FQ.out
              obtain ⟨f0, f1, f2, f3, f4⟩ := freeR FQ.out
              have FQ2 := Lib.hid (setR (x0 := .bool y0) (x1 := .bool y1) (x2 := .bool y2) (x3 := .bool y3) (x4 := .bool y4) FQ.out)
              have FP2 := Lib.hid (asideR FP.out (by omega : bQ ≠ bP) (.bool y0) (.bool y1) (.bool y2) (.bool y3) (.bool y4))
              have FY := Lib.hid (belowR FX.out hQ (.bool y0) (.bool y1) (.bool y2) (.bool y3) (.bool y4))
              refine wpAnyH_ready (rs := [24]) (by as_aux_lemma => kernel_rfl) (by simp) ?_
              refine AllReadyH.cons (o := { dst := none, op := Op.store 26 (Operand.tmp 10) (Operand.tmp 81), type := 0, pos := "law.go:69", after := #[{ on := 22, ground := Ground.data }, { on := 19, ground := Ground.data }, { on := 23, ground := Ground.chain }, { on := 0, ground := Ground.phase }, { on := 1, ground := Ground.phase }, { on := 2, ground := Ground.phase }, { on := 3, ground := Ground.phase }, { on := 4, ground := Ground.phase }, { on := 5, ground := Ground.phase }, { on := 6, ground := Ground.phase }, { on := 7, ground := Ground.phase }, { on := 8, ground := Ground.phase }, { on := 9, ground := Ground.phase }, { on := 10, ground := Ground.phase }, { on := 11, ground := Ground.phase }, { on := 12, ground := Ground.phase }, { on := 13, ground := Ground.phase }, { on := 14, ground := Ground.phase }, { on := 15, ground := Ground.phase }, { on := 16, ground := Ground.phase }, { on := 17, ground := Ground.phase }, { on := 18, ground := Ground.phase }, { on := 19, ground := Ground.phase }, { on := 20, ground := Ground.textOnly Departure.lateStores }, { on := 21, ground := Ground.phase }, { on := 22, ground := Ground.phase }, { on := 23, ground := Ground.phase }], guard := none }) rfl (fun Kx hK => ?_) AllReadyH.nil
              go_simp
              refine hK.out _ _ ?_ (fun hHeld2 => ?_)
              · exact looks_of (FC2.out.later FY.out) (FI2.out.later FY.out) hu ho HI.out HJ.out
              clear hK Kx hHeld
              have hHeld := hHeld2
              clear hHeld2
              try simp only [Act.put, List.setIfInBounds_toArray, List.set_cons_zero, List.set_cons_succ]
              clear FX FP FQ g0 g1 g2 g3 g4 f0 f1 f2 f3 f4
              have FX := FY
              clear FY
              have FP := FP2
              clear FP2
              have FQ := FQ2
              clear FQ2
              refine wpAnyH_take (i := 25) (oi := { dst := some 11, op := Op.assign (Operand.tmp 82), type := 34, pos := "law.go:69", after := #[{ on := 20, ground := Ground.data }, { on := 24, ground := Ground.chain }, { on := 0, ground := Ground.phase }, { on := 1, ground := Ground.phase }, { on := 2, ground := Ground.phase }, { on := 3, ground := Ground.phase }, { on := 4, ground := Ground.phase }, { on := 5, ground := Ground.phase }, { on := 6, ground := Ground.phase }, { on := 7, ground := Ground.phase }, { on := 8, ground := Ground.phase }, { on := 9, ground := Ground.phase }, { on := 10, ground := Ground.phase }, { on := 11, ground := Ground.phase }, { on := 12, ground := Ground.phase }, { on := 13, ground := Ground.phase }, { on := 14, ground := Ground.phase }, { on := 15, ground := Ground.phase }, { on := 16, ground := Ground.phase }, { on := 17, ground := Ground.phase }, { on := 18, ground := Ground.phase }, { on := 19, ground := Ground.phase }, { on := 20, ground := Ground.phase }, { on := 21, ground := Ground.phase }, { on := 22, ground := Ground.phase }, { on := 23, ground := Ground.phase }, { on := 24, ground := Ground.phase }], guard := none }) (v := ?_) rfl (by as_aux_lemma => kernel_rfl) (by as_aux_lemma => kernel_rfl) (by as_aux_lemma => kernel_rfl) (fun _ _ _ h => h) (Or.inl ⟨by rfl, ?_⟩) (by assumption) ?_
              rotate_left
              · intro w' hSw
                try dsimp only [looksR] at hSw
                go_simp
                try with_reducible rfl
              try simp only [Act.put, List.setIfInBounds_toArray, List.set_cons_zero, List.set_cons_succ]
              refine wpAnyH_done (by kernel_rfl) ?_ _
              go_wp2_with fail
              go_meet
              exact ⟨bP, bQ, rfl, rfl, rfl, FP, FQ, FX⟩
        · skip
          go_simp
          have bb := bl_newZ X0 (.cells #[.bool false, .bool false, .bool false, .bool false, .bool false] 26)
          have FY := Lib.hid (FX.out.trans (bb.mono FX.out.size))
          have FP2 : Hid ((X0.alloc (.cells #[.bool false, .bool false, .bool false, .bool false, .bool false] 26)).heap[X0.heap.size]? = some (.cells #[.bool false, .bool false, .bool false, .bool false, .bool false] 26 (0, 0))) := Lib.hid (heap_newM X0 _)
          have hP : w2.heap.size ≤ X0.heap.size := FX.out.size
          refine hK.out _ _ ?_ (fun hHeld2 => ?_)
          · exact looks_of (FC2.out.later FY.out) (FI2.out.later FY.out) hu ho HI.out HJ.out
          clear hK Kx hHeld
          have hHeld := hHeld2
          clear hHeld2
          try simp only [Act.put, List.setIfInBounds_toArray, List.set_cons_zero, List.set_cons_succ]
          clear FX bb 
          generalize X0.alloc (.cells #[.bool false, .bool false, .bool false, .bool false, .bool false] 26) = X1 at FY FP2 hHeld ⊢
          generalize X0.heap.size = bP at FP2 hP ⊢
          have FX := FY
          clear FY
          have FP := FP2
          clear FP2
          refine wpAnyH_ready (rs := [16, 22]) (by as_aux_lemma => kernel_rfl) (by simp) ?_
          refine AllReadyH.cons (o := { dst := some 79, op := Op.call { callee := Callee.value (Operand.func 31), args := #[Operand.tmp 69, Operand.tmp 76, Operand.tmp 78], argTypes := #[26, 26, 3] }, type := 41, pos := "law.go:69", after := #[{ on := 6, ground := Ground.data }, { on := 13, ground := Ground.data }, { on := 15, ground := Ground.data }], guard := none }) rfl (fun Kx hK => ?_) (AllReadyH.cons (o := { dst := some 10, op := Op.alloc 26, type := 0, pos := "law.go:69", after := #[], guard := none }) rfl (fun Kx hK => ?_) AllReadyH.nil)
          · skip
            go_simp
            refine (HA.out _).mono ?_
            rintro e X2 ⟨rfl, b9⟩
            have FY := Lib.hid (FX.out.trans (b9.mono FX.out.size))
            have FP2 := Lib.hid (upR FP.out b9)
            go_wp2_with fail
            refine hK.out _ _ ?_ (fun hHeld2 => ?_)
            · exact looks_of (FC2.out.later FY.out) (FI2.out.later FY.out) hu ho HI.out HJ.out
            clear hK Kx hHeld
            have hHeld := hHeld2
            clear hHeld2
            try simp only [Act.put, List.setIfInBounds_toArray, List.set_cons_zero, List.set_cons_succ]
            clear FX b9 FP
            have FX := FY
            clear FY
            have FP := FP2
            clear FP2
            refine wpAnyH_take (i := 17) (oi := { dst := some 62, op := Op.move (Operand.tmp 79), type := 41, pos := "law.go:69", after := #[{ on := 16, ground := Ground.data }], guard := none }) (v := ?_) rfl (by as_aux_lemma => kernel_rfl) (by as_aux_lemma => kernel_rfl) (by as_aux_lemma => kernel_rfl) (fun _ _ _ h => h) (Or.inl ⟨by rfl, ?_⟩) (by assumption) ?_
            rotate_left
            · intro w' hSw
              try dsimp only [looksR] at hSw
              go_simp
              try with_reducible rfl
            try simp only [Act.put, List.setIfInBounds_toArray, List.set_cons_zero, List.set_cons_succ]
            refine wpAnyH_take (i := 18) (oi := { dst := some 80, op := Op.extract (Operand.tmp 62) 0, type := 26, pos := "law.go:69", after := #[{ on := 17, ground := Ground.data }], guard := none }) (v := ?_) rfl (by as_aux_lemma => kernel_rfl) (by as_aux_lemma => kernel_rfl) (by as_aux_lemma => kernel_rfl) (fun _ _ _ h => h) (Or.inl ⟨by rfl, ?_⟩) (by assumption) ?_
            rotate_left
            · intro w' hSw
              try dsimp only [looksR] at hSw
              go_simp
              try with_reducible rfl
            try simp only [Act.put, List.setIfInBounds_toArray, List.set_cons_zero, List.set_cons_succ]
            refine wpAnyH_take (i := 19) (oi := { dst := some 81, op := Op.extract (Operand.tmp 62) 1, type := 26, pos := "law.go:69", after := #[{ on := 17, ground := Ground.data }, { on := 23, ground := Ground.gcOnly Departure.lateStores }], guard := none }) (v := ?_) rfl (by as_aux_lemma => kernel_rfl) (by as_aux_lemma => kernel_rfl) (by as_aux_lemma => kernel_rfl) (fun _ _ _ h => h) (Or.inl ⟨by rfl, ?_⟩) (by assumption) ?_
            rotate_left
            · intro w' hSw
              try dsimp only [looksR] at hSw
              go_simp
              try with_reducible rfl
            try simp only [Act.put, List.setIfInBounds_toArray, List.set_cons_zero, List.set_cons_succ]
            refine wpAnyH_take (i := 20) (oi := { dst := some 82, op := Op.extract (Operand.tmp 62) 2, type := 34, pos := "law.go:69", after := #[{ on := 17, ground := Ground.data }, { on := 24, ground := Ground.gcOnly Departure.lateStores }], guard := none }) (v := ?_) rfl (by as_aux_lemma => kernel_rfl) (by as_aux_lemma => kernel_rfl) (by as_aux_lemma => kernel_rfl) (fun _ _ _ h => h) (Or.inl ⟨by rfl, ?_⟩) (by assumption) ?_
            rotate_left
            · intro w' hSw
              try dsimp only [looksR] at hSw
              go_simp
              try with_reducible rfl
            try simp only [Act.put, List.setIfInBounds_toArray, List.set_cons_zero, List.set_cons_succ]
            refine wpAnyH_ready (rs := [22]) (by as_aux_lemma => kernel_rfl) (by simp) ?_
            refine AllReadyH.cons (o := { dst := some 10, op := Op.alloc 26, type := 0, pos := "law.go:69", after := #[], guard := none }) rfl (fun Kx hK => ?_) AllReadyH.nil
            · skip
              go_simp
              have bb := bl_newZ X2 (.cells #[.bool false, .bool false, .bool false, .bool false, .bool false] 26)
              have FY := Lib.hid (FX.out.trans (bb.mono FX.out.size))
              have FP2 := Lib.hid (upR FP.out bb)
              have FQ2 : Hid ((X2.alloc (.cells #[.bool false, .bool false, .bool false, .bool false, .bool false] 26)).heap[X2.heap.size]? = some (.cells #[.bool false, .bool false, .bool false, .bool false, .bool false] 26 (0, 0))) := Lib.hid (heap_newM X2 _)
              have hQ : w2.heap.size ≤ X2.heap.size := FX.out.size
              have hPQ : bP < X2.heap.size := (Array.getElem?_eq_some_iff.1 FP.out).1
              refine hK.out _ _ ?_ (fun hHeld2 => ?_)
              · exact looks_of (FC2.out.later FY.out) (FI2.out.later FY.out) hu ho HI.out HJ.out
              clear hK Kx hHeld
              have hHeld := hHeld2
              clear hHeld2
              try simp only [Act.put, List.setIfInBounds_toArray, List.set_cons_zero, List.set_cons_succ]
              clear FX bb FP
              generalize X2.alloc (.cells #[.bool false, .bool false, .bool false, .bool false, .bool false] 26) = X3 at FY FP2 FQ2 hHeld ⊢
              generalize X2.heap.size = bQ at FQ2 hQ hPQ ⊢
              have FX := FY
              clear FY
              have FP := FP2
              clear FP2
              have FQ := FQ2
              clear FQ2
              obtain ⟨g0, g1, g2, g3, g4⟩ := fiveR FP.out
              obtain ⟨f0, f1, f2, f3, f4⟩ := freeR FP.out
              have FP2 := Lib.hid (setR (x0 := .bool x0) (x1 := .bool x1) (x2 := .bool x2) (x3 := .bool x3) (x4 := .bool x4) FP.out)
              have FQ2 := Lib.hid (asideR FQ.out (by omega : bP ≠ bQ) (.bool x0) (.bool x1) (.bool x2) (.bool x3) (.bool x4))
              have FY := Lib.hid (belowR FX.out hP (.bool x0) (.bool x1) (.bool x2) (.bool x3) (.bool x4))
              refine wpAnyH_ready (rs := [23]) (by as_aux_lemma => kernel_rfl) (by simp) ?_
              refine AllReadyH.cons (o := { dst := none, op := Op.store 26 (Operand.tmp 9) (Operand.tmp 80), type := 0, pos := "law.go:69", after := #[{ on := 21, ground := Ground.data }, { on := 18, ground := Ground.data }, { on := 16, ground := Ground.chain }, { on := 0, ground := Ground.phase }, { on := 1, ground := Ground.phase }, { on := 2, ground := Ground.phase }, { on := 3, ground := Ground.phase }, { on := 4, ground := Ground.phase }, { on := 5, ground := Ground.phase }, { on := 6, ground := Ground.phase }, { on := 7, ground := Ground.phase }, { on := 8, ground := Ground.phase }, { on := 9, ground := Ground.phase }, { on := 10, ground := Ground.phase }, { on := 11, ground := Ground.phase }, { on := 12, ground := Ground.phase }, { on := 13, ground := Ground.phase }, { on := 14, ground := Ground.phase }, { on := 15, ground := Ground.phase }, { on := 16, ground := Ground.phase }, { on := 17, ground := Ground.phase }, { on := 18, ground := Ground.phase }, { on := 19, ground := Ground.textOnly Departure.lateStores }, { on := 20, ground := Ground.textOnly Departure.lateStores }, { on := 21, ground := Ground.phase }, { on := 22, ground := Ground.phase }], guard := none }) rfl (fun Kx hK => ?_) AllReadyH.nil
              go_simp
              refine hK.out _ _ ?_ (fun hHeld2 => ?_)
              · exact looks_of (FC2.out.later FY.out) (FI2.out.later FY.out) hu ho HI.out HJ.out
              clear hK Kx hHeld
              have hHeld := hHeld2
              clear hHeld2
              try simp only [Act.put, List.setIfInBounds_toArray, List.set_cons_zero, List.set_cons_succ]
              clear FX FP FQ g0 g1 g2 g3 g4 f0 f1 f2 f3 f4
              have FX := FY
              clear FY
              have FP := FP2
              clear FP2
              have FQ := FQ2
              clear FQ2
              obtain ⟨g0, g1, g2, g3, g4⟩ := fiveR FQ.out
              obtain ⟨f0, f1, f2, f3, f4⟩ := freeR FQ.out
              have FQ2 := Lib.hid (setR (x0 := .bool y0) (x1 := .bool y1) (x2 := .bool y2) (x3 := .bool y3) (x4 := .bool y4) FQ.out)
              have FP2 := Lib.hid (asideR FP.out (by omega : bQ ≠ bP) (.bool y0) (.bool y1) (.bool y2) (.bool y3) (.bool y4))
              have FY := Lib.hid (belowR FX.out hQ (.bool y0) (.bool y1) (.bool y2) (.bool y3) (.bool y4))
              refine wpAnyH_ready (rs := [24]) (by as_aux_lemma => kernel_rfl) (by simp) ?_
              refine AllReadyH.cons (o := { dst := none, op := Op.store 26 (Operand.tmp 10) (Operand.tmp 81), type := 0, pos := "law.go:69", after := #[{ on := 22, ground := Ground.data }, { on := 19, ground := Ground.data }, { on := 23, ground := Ground.chain }, { on := 0, ground := Ground.phase }, { on := 1, ground := Ground.phase }, { on := 2, ground := Ground.phase }, { on := 3, ground := Ground.phase }, { on := 4, ground := Ground.phase }, { on := 5, ground := Ground.phase }, { on := 6, ground := Ground.phase }, { on := 7, ground := Ground.phase }, { on := 8, ground := Ground.phase }, { on := 9, ground := Ground.phase }, { on := 10, ground := Ground.phase }, { on := 11, ground := Ground.phase }, { on := 12, ground := Ground.phase }, { on := 13, ground := Ground.phase }, { on := 14, ground := Ground.phase }, { on := 15, ground := Ground.phase }, { on := 16, ground := Ground.phase }, { on := 17, ground := Ground.phase }, { on := 18, ground := Ground.phase }, { on := 19, ground := Ground.phase }, { on := 20, ground := Ground.textOnly Departure.lateStores }, { on := 21, ground := Ground.phase }, { on := 22, ground := Ground.phase }, { on := 23, ground := Ground.phase }], guard := none }) rfl (fun Kx hK => ?_) AllReadyH.nil
              go_simp
              refine hK.out _ _ ?_ (fun hHeld2 => ?_)
              · exact looks_of (FC2.out.later FY.out) (FI2.out.later FY.out) hu ho HI.out HJ.out
              clear hK Kx hHeld
              have hHeld := hHeld2
              clear hHeld2
              try simp only [Act.put, List.setIfInBounds_toArray, List.set_cons_zero, List.set_cons_succ]
              clear FX FP FQ g0 g1 g2 g3 g4 f0 f1 f2 f3 f4
              have FX := FY
              clear FY
              have FP := FP2
              clear FP2
              have FQ := FQ2
              clear FQ2
              refine wpAnyH_take (i := 25) (oi := { dst := some 11, op := Op.assign (Operand.tmp 82), type := 34, pos := "law.go:69", after := #[{ on := 20, ground := Ground.data }, { on := 24, ground := Ground.chain }, { on := 0, ground := Ground.phase }, { on := 1, ground := Ground.phase }, { on := 2, ground := Ground.phase }, { on := 3, ground := Ground.phase }, { on := 4, ground := Ground.phase }, { on := 5, ground := Ground.phase }, { on := 6, ground := Ground.phase }, { on := 7, ground := Ground.phase }, { on := 8, ground := Ground.phase }, { on := 9, ground := Ground.phase }, { on := 10, ground := Ground.phase }, { on := 11, ground := Ground.phase }, { on := 12, ground := Ground.phase }, { on := 13, ground := Ground.phase }, { on := 14, ground := Ground.phase }, { on := 15, ground := Ground.phase }, { on := 16, ground := Ground.phase }, { on := 17, ground := Ground.phase }, { on := 18, ground := Ground.phase }, { on := 19, ground := Ground.phase }, { on := 20, ground := Ground.phase }, { on := 21, ground := Ground.phase }, { on := 22, ground := Ground.phase }, { on := 23, ground := Ground.phase }, { on := 24, ground := Ground.phase }], guard := none }) (v := ?_) rfl (by as_aux_lemma => kernel_rfl) (by as_aux_lemma => kernel_rfl) (by as_aux_lemma => kernel_rfl) (fun _ _ _ h => h) (Or.inl ⟨by rfl, ?_⟩) (by assumption) ?_
              rotate_left
              · intro w' hSw
                try dsimp only [looksR] at hSw
                go_simp
                try with_reducible rfl
              try simp only [Act.put, List.setIfInBounds_toArray, List.set_cons_zero, List.set_cons_succ]
              refine wpAnyH_done (by kernel_rfl) ?_ _
              go_wp2_with fail
              go_meet
              exact ⟨bP, bQ, rfl, rfl, rfl, FP, FQ, FX⟩
          · skip
            go_simp
            have bb := bl_newZ X1 (.cells #[.bool false, .bool false, .bool false, .bool false, .bool false] 26)
            have FY := Lib.hid (FX.out.trans (bb.mono FX.out.size))
            have FP2 := Lib.hid (upR FP.out bb)
            have FQ2 : Hid ((X1.alloc (.cells #[.bool false, .bool false, .bool false, .bool false, .bool false] 26)).heap[X1.heap.size]? = some (.cells #[.bool false, .bool false, .bool false, .bool false, .bool false] 26 (0, 0))) := Lib.hid (heap_newM X1 _)
            have hQ : w2.heap.size ≤ X1.heap.size := FX.out.size
            have hPQ : bP < X1.heap.size := (Array.getElem?_eq_some_iff.1 FP.out).1
            refine hK.out _ _ ?_ (fun hHeld2 => ?_)
            · exact looks_of (FC2.out.later FY.out) (FI2.out.later FY.out) hu ho HI.out HJ.out
            clear hK Kx hHeld
            have hHeld := hHeld2
            clear hHeld2
            try simp only [Act.put, List.setIfInBounds_toArray, List.set_cons_zero, List.set_cons_succ]
            clear FX bb FP
            generalize X1.alloc (.cells #[.bool false, .bool false, .bool false, .bool false, .bool false] 26) = X2 at FY FP2 FQ2 hHeld ⊢
            generalize X1.heap.size = bQ at FQ2 hQ hPQ ⊢
            have FX := FY
            clear FY
            have FP := FP2
            clear FP2
            have FQ := FQ2
            clear FQ2
            refine wpAnyH_ready (rs := [16]) (by as_aux_lemma => kernel_rfl) (by simp) ?_
            refine AllReadyH.cons (o := { dst := some 79, op := Op.call { callee := Callee.value (Operand.func 31), args := #[Operand.tmp 69, Operand.tmp 76, Operand.tmp 78], argTypes := #[26, 26, 3] }, type := 41, pos := "law.go:69", after := #[{ on := 6, ground := Ground.data }, { on := 13, ground := Ground.data }, { on := 15, ground := Ground.data }], guard := none }) rfl (fun Kx hK => ?_) AllReadyH.nil
            · skip
              go_simp
              refine (HA.out _).mono ?_
              rintro e X3 ⟨rfl, b9⟩
              have FY := Lib.hid (FX.out.trans (b9.mono FX.out.size))
              have FP2 := Lib.hid (upR FP.out b9)
              have FQ2 := Lib.hid (upR FQ.out b9)
              go_wp2_with fail
              refine hK.out _ _ ?_ (fun hHeld2 => ?_)
              · exact looks_of (FC2.out.later FY.out) (FI2.out.later FY.out) hu ho HI.out HJ.out
              clear hK Kx hHeld
              have hHeld := hHeld2
              clear hHeld2
              try simp only [Act.put, List.setIfInBounds_toArray, List.set_cons_zero, List.set_cons_succ]
              clear FX b9 FP FQ
              have FX := FY
              clear FY
              have FP := FP2
              clear FP2
              have FQ := FQ2
              clear FQ2
              refine wpAnyH_take (i := 17) (oi := { dst := some 62, op := Op.move (Operand.tmp 79), type := 41, pos := "law.go:69", after := #[{ on := 16, ground := Ground.data }], guard := none }) (v := ?_) rfl (by as_aux_lemma => kernel_rfl) (by as_aux_lemma => kernel_rfl) (by as_aux_lemma => kernel_rfl) (fun _ _ _ h => h) (Or.inl ⟨by rfl, ?_⟩) (by assumption) ?_
              rotate_left
              · intro w' hSw
                try dsimp only [looksR] at hSw
                go_simp
                try with_reducible rfl
              try simp only [Act.put, List.setIfInBounds_toArray, List.set_cons_zero, List.set_cons_succ]
              refine wpAnyH_take (i := 18) (oi := { dst := some 80, op := Op.extract (Operand.tmp 62) 0, type := 26, pos := "law.go:69", after := #[{ on := 17, ground := Ground.data }], guard := none }) (v := ?_) rfl (by as_aux_lemma => kernel_rfl) (by as_aux_lemma => kernel_rfl) (by as_aux_lemma => kernel_rfl) (fun _ _ _ h => h) (Or.inl ⟨by rfl, ?_⟩) (by assumption) ?_
              rotate_left
              · intro w' hSw
                try dsimp only [looksR] at hSw
                go_simp
                try with_reducible rfl
              try simp only [Act.put, List.setIfInBounds_toArray, List.set_cons_zero, List.set_cons_succ]
              refine wpAnyH_take (i := 19) (oi := { dst := some 81, op := Op.extract (Operand.tmp 62) 1, type := 26, pos := "law.go:69", after := #[{ on := 17, ground := Ground.data }, { on := 23, ground := Ground.gcOnly Departure.lateStores }], guard := none }) (v := ?_) rfl (by as_aux_lemma => kernel_rfl) (by as_aux_lemma => kernel_rfl) (by as_aux_lemma => kernel_rfl) (fun _ _ _ h => h) (Or.inl ⟨by rfl, ?_⟩) (by assumption) ?_
              rotate_left
              · intro w' hSw
                try dsimp only [looksR] at hSw
                go_simp
                try with_reducible rfl
              try simp only [Act.put, List.setIfInBounds_toArray, List.set_cons_zero, List.set_cons_succ]
              refine wpAnyH_take (i := 20) (oi := { dst := some 82, op := Op.extract (Operand.tmp 62) 2, type := 34, pos := "law.go:69", after := #[{ on := 17, ground := Ground.data }, { on := 24, ground := Ground.gcOnly Departure.lateStores }], guard := none }) (v := ?_) rfl (by as_aux_lemma => kernel_rfl) (by as_aux_lemma => kernel_rfl) (by as_aux_lemma => kernel_rfl) (fun _ _ _ h => h) (Or.inl ⟨by rfl, ?_⟩) (by assumption) ?_
              rotate_left
              · intro w' hSw
                try dsimp only [looksR] at hSw
                go_simp
                try with_reducible rfl
              try simp only [Act.put, List.setIfInBounds_toArray, List.set_cons_zero, List.set_cons_succ]
              obtain ⟨g0, g1, g2, g3, g4⟩ := fiveR FP.out
              obtain ⟨f0, f1, f2, f3, f4⟩ := freeR FP.out
              have FP2 := Lib.hid (setR (x0 := .bool x0) (x1 := .bool x1) (x2 := .bool x2) (x3 := .bool x3) (x4 := .bool x4) FP.out)
              have FQ2 := Lib.hid (asideR FQ.out (by omega : bP ≠ bQ) (.bool x0) (.bool x1) (.bool x2) (.bool x3) (.bool x4))
              have FY := Lib.hid (belowR FX.out hP (.bool x0) (.bool x1) (.bool x2) (.bool x3) (.bool x4))
              refine wpAnyH_ready (rs := [23]) (by as_aux_lemma => kernel_rfl) (by simp) ?_
              refine AllReadyH.cons (o := { dst := none, op := Op.store 26 (Operand.tmp 9) (Operand.tmp 80), type := 0, pos := "law.go:69", after := #[{ on := 21, ground := Ground.data }, { on := 18, ground := Ground.data }, { on := 16, ground := Ground.chain }, { on := 0, ground := Ground.phase }, { on := 1, ground := Ground.phase }, { on := 2, ground := Ground.phase }, { on := 3, ground := Ground.phase }, { on := 4, ground := Ground.phase }, { on := 5, ground := Ground.phase }, { on := 6, ground := Ground.phase }, { on := 7, ground := Ground.phase }, { on := 8, ground := Ground.phase }, { on := 9, ground := Ground.phase }, { on := 10, ground := Ground.phase }, { on := 11, ground := Ground.phase }, { on := 12, ground := Ground.phase }, { on := 13, ground := Ground.phase }, { on := 14, ground := Ground.phase }, { on := 15, ground := Ground.phase }, { on := 16, ground := Ground.phase }, { on := 17, ground := Ground.phase }, { on := 18, ground := Ground.phase }, { on := 19, ground := Ground.textOnly Departure.lateStores }, { on := 20, ground := Ground.textOnly Departure.lateStores }, { on := 21, ground := Ground.phase }, { on := 22, ground := Ground.phase }], guard := none }) rfl (fun Kx hK => ?_) AllReadyH.nil
              go_simp
              refine hK.out _ _ ?_ (fun hHeld2 => ?_)
              · exact looks_of (FC2.out.later FY.out) (FI2.out.later FY.out) hu ho HI.out HJ.out
              clear hK Kx hHeld
              have hHeld := hHeld2
              clear hHeld2
              try simp only [Act.put, List.setIfInBounds_toArray, List.set_cons_zero, List.set_cons_succ]
              clear FX FP FQ g0 g1 g2 g3 g4 f0 f1 f2 f3 f4
              have FX := FY
              clear FY
              have FP := FP2
              clear FP2
              have FQ := FQ2
              clear FQ2
              obtain ⟨g0, g1, g2, g3, g4⟩ := fiveR FQ.out
              obtain ⟨f0, f1, f2, f3, f4⟩ := freeR FQ.out
              have FQ2 := Lib.hid (setR (x0 := .bool y0) (x1 := .bool y1) (x2 := .bool y2) (x3 := .bool y3) (x4 := .bool y4) FQ.out)
              have FP2 := Lib.hid (asideR FP.out (by omega : bQ ≠ bP) (.bool y0) (.bool y1) (.bool y2) (.bool y3) (.bool y4))
              have FY := Lib.hid (belowR FX.out hQ (.bool y0) (.bool y1) (.bool y2) (.bool y3) (.bool y4))
              refine wpAnyH_ready (rs := [24]) (by as_aux_lemma => kernel_rfl) (by simp) ?_
              refine AllReadyH.cons (o := { dst := none, op := Op.store 26 (Operand.tmp 10) (Operand.tmp 81), type := 0, pos := "law.go:69", after := #[{ on := 22, ground := Ground.data }, { on := 19, ground := Ground.data }, { on := 23, ground := Ground.chain }, { on := 0, ground := Ground.phase }, { on := 1, ground := Ground.phase }, { on := 2, ground := Ground.phase }, { on := 3, ground := Ground.phase }, { on := 4, ground := Ground.phase }, { on := 5, ground := Ground.phase }, { on := 6, ground := Ground.phase }, { on := 7, ground := Ground.phase }, { on := 8, ground := Ground.phase }, { on := 9, ground := Ground.phase }, { on := 10, ground := Ground.phase }, { on := 11, ground := Ground.phase }, { on := 12, ground := Ground.phase }, { on := 13, ground := Ground.phase }, { on := 14, ground := Ground.phase }, { on := 15, ground := Ground.phase }, { on := 16, ground := Ground.phase }, { on := 17, ground := Ground.phase }, { on := 18, ground := Ground.phase }, { on := 19, ground := Ground.phase }, { on := 20, ground := Ground.textOnly Departure.lateStores }, { on := 21, ground := Ground.phase }, { on := 22, ground := Ground.phase }, { on := 23, ground := Ground.phase }], guard := none }) rfl (fun Kx hK => ?_) AllReadyH.nil
              go_simp
              refine hK.out _ _ ?_ (fun hHeld2 => ?_)
              · exact looks_of (FC2.out.later FY.out) (FI2.out.later FY.out) hu ho HI.out HJ.out
              clear hK Kx hHeld
              have hHeld := hHeld2
              clear hHeld2
              try simp only [Act.put, List.setIfInBounds_toArray, List.set_cons_zero, List.set_cons_succ]
              clear FX FP FQ g0 g1 g2 g3 g4 f0 f1 f2 f3 f4
              have FX := FY
              clear FY
              have FP := FP2
              clear FP2
              have FQ := FQ2
              clear FQ2
              refine wpAnyH_take (i := 25) (oi := { dst := some 11, op := Op.assign (Operand.tmp 82), type := 34, pos := "law.go:69", after := #[{ on := 20, ground := Ground.data }, { on := 24, ground := Ground.chain }, { on := 0, ground := Ground.phase }, { on := 1, ground := Ground.phase }, { on := 2, ground := Ground.phase }, { on := 3, ground := Ground.phase }, { on := 4, ground := Ground.phase }, { on := 5, ground := Ground.phase }, { on := 6, ground := Ground.phase }, { on := 7, ground := Ground.phase }, { on := 8, ground := Ground.phase }, { on := 9, ground := Ground.phase }, { on := 10, ground := Ground.phase }, { on := 11, ground := Ground.phase }, { on := 12, ground := Ground.phase }, { on := 13, ground := Ground.phase }, { on := 14, ground := Ground.phase }, { on := 15, ground := Ground.phase }, { on := 16, ground := Ground.phase }, { on := 17, ground := Ground.phase }, { on := 18, ground := Ground.phase }, { on := 19, ground := Ground.phase }, { on := 20, ground := Ground.phase }, { on := 21, ground := Ground.phase }, { on := 22, ground := Ground.phase }, { on := 23, ground := Ground.phase }, { on := 24, ground := Ground.phase }], guard := none }) (v := ?_) rfl (by as_aux_lemma => kernel_rfl) (by as_aux_lemma => kernel_rfl) (by as_aux_lemma => kernel_rfl) (fun _ _ _ h => h) (Or.inl ⟨by rfl, ?_⟩) (by assumption) ?_
              rotate_left
              · intro w' hSw
                try dsimp only [looksR] at hSw
                go_simp
                try with_reducible rfl
              try simp only [Act.put, List.setIfInBounds_toArray, List.set_cons_zero, List.set_cons_succ]
              refine wpAnyH_done (by kernel_rfl) ?_ _
              go_wp2_with fail
              go_meet
              exact ⟨bP, bQ, rfl, rfl, rfl, FP, FQ, FX⟩
        · skip
          go_simp
          have bb := bl_newZ X0 (.cells #[.bool false, .bool false, .bool false, .bool false, .bool false] 26)
          have FY := Lib.hid (FX.out.trans (bb.mono FX.out.size))
          have FQ2 : Hid ((X0.alloc (.cells #[.bool false, .bool false, .bool false, .bool false, .bool false] 26)).heap[X0.heap.size]? = some (.cells #[.bool false, .bool false, .bool false, .bool false, .bool false] 26 (0, 0))) := Lib.hid (heap_newM X0 _)
          have hQ : w2.heap.size ≤ X0.heap.size := FX.out.size
          refine hK.out _ _ ?_ (fun hHeld2 => ?_)
          · exact looks_of (FC2.out.later FY.out) (FI2.out.later FY.out) hu ho HI.out HJ.out
          clear hK Kx hHeld
          have hHeld := hHeld2
          clear hHeld2
          try simp only [Act.put, List.setIfInBounds_toArray, List.set_cons_zero, List.set_cons_succ]
          clear FX bb 
          generalize X0.alloc (.cells #[.bool false, .bool false, .bool false, .bool false, .bool false] 26) = X1 at FY FQ2 hHeld ⊢
          generalize X0.heap.size = bQ at FQ2 hQ ⊢
          have FX := FY
          clear FY
          have FQ := FQ2
          clear FQ2
          refine wpAnyH_ready (rs := [16, 21]) (by as_aux_lemma => kernel_rfl) (by simp) ?_
          refine AllReadyH.cons (o := { dst := some 79, op := Op.call { callee := Callee.value (Operand.func 31), args := #[Operand.tmp 69, Operand.tmp 76, Operand.tmp 78], argTypes := #[26, 26, 3] }, type := 41, pos := "law.go:69", after := #[{ on := 6, ground := Ground.data }, { on := 13, ground := Ground.data }, { on := 15, ground := Ground.data }], guard := none }) rfl (fun Kx hK => ?_) (AllReadyH.cons (o := { dst := some 9, op := Op.alloc 26, type := 0, pos := "law.go:69", after := #[], guard := none }) rfl (fun Kx hK => ?_) AllReadyH.nil)
          · skip
            go_simp
            refine (HA.out _).mono ?_
            rintro e X2 ⟨rfl, b9⟩
            have FY := Lib.hid (FX.out.trans (b9.mono FX.out.size))
            have FQ2 := Lib.hid (upR FQ.out b9)
            go_wp2_with fail
            refine hK.out _ _ ?_ (fun hHeld2 => ?_)
            · exact looks_of (FC2.out.later FY.out) (FI2.out.later FY.out) hu ho HI.out HJ.out
            clear hK Kx hHeld
            have hHeld := hHeld2
            clear hHeld2
            try simp only [Act.put, List.setIfInBounds_toArray, List.set_cons_zero, List.set_cons_succ]
            clear FX b9 FQ
            have FX := FY
            clear FY
            have FQ := FQ2
            clear FQ2
            refine wpAnyH_take (i := 17) (oi := { dst := some 62, op := Op.move (Operand.tmp 79), type := 41, pos := "law.go:69", after := #[{ on := 16, ground := Ground.data }], guard := none }) (v := ?_) rfl (by as_aux_lemma => kernel_rfl) (by as_aux_lemma => kernel_rfl) (by as_aux_lemma => kernel_rfl) (fun _ _ _ h => h) (Or.inl ⟨by rfl, ?_⟩) (by assumption) ?_
            rotate_left
            · intro w' hSw
              try dsimp only [looksR] at hSw
              go_simp
              try with_reducible rfl
            try simp only [Act.put, List.setIfInBounds_toArray, List.set_cons_zero, List.set_cons_succ]
            refine wpAnyH_take (i := 18) (oi := { dst := some 80, op := Op.extract (Operand.tmp 62) 0, type := 26, pos := "law.go:69", after := #[{ on := 17, ground := Ground.data }], guard := none }) (v := ?_) rfl (by as_aux_lemma => kernel_rfl) (by as_aux_lemma => kernel_rfl) (by as_aux_lemma => kernel_rfl) (fun _ _ _ h => h) (Or.inl ⟨by rfl, ?_⟩) (by assumption) ?_
            rotate_left
            · intro w' hSw
              try dsimp only [looksR] at hSw
              go_simp
              try with_reducible rfl
            try simp only [Act.put, List.setIfInBounds_toArray, List.set_cons_zero, List.set_cons_succ]
            refine wpAnyH_take (i := 19) (oi := { dst := some 81, op := Op.extract (Operand.tmp 62) 1, type := 26, pos := "law.go:69", after := #[{ on := 17, ground := Ground.data }, { on := 23, ground := Ground.gcOnly Departure.lateStores }], guard := none }) (v := ?_) rfl (by as_aux_lemma => kernel_rfl) (by as_aux_lemma => kernel_rfl) (by as_aux_lemma => kernel_rfl) (fun _ _ _ h => h) (Or.inl ⟨by rfl, ?_⟩) (by assumption) ?_
            rotate_left
            · intro w' hSw
              try dsimp only [looksR] at hSw
              go_simp
              try with_reducible rfl
            try simp only [Act.put, List.setIfInBounds_toArray, List.set_cons_zero, List.set_cons_succ]
            refine wpAnyH_take (i := 20) (oi := { dst := some 82, op := Op.extract (Operand.tmp 62) 2, type := 34, pos := "law.go:69", after := #[{ on := 17, ground := Ground.data }, { on := 24, ground := Ground.gcOnly Departure.lateStores }], guard := none }) (v := ?_) rfl (by as_aux_lemma => kernel_rfl) (by as_aux_lemma => kernel_rfl) (by as_aux_lemma => kernel_rfl) (fun _ _ _ h => h) (Or.inl ⟨by rfl, ?_⟩) (by assumption) ?_
            rotate_left
            · intro w' hSw
              try dsimp only [looksR] at hSw
              go_simp
              try with_reducible rfl
            try simp only [Act.put, List.setIfInBounds_toArray, List.set_cons_zero, List.set_cons_succ]
            refine wpAnyH_ready (rs := [21]) (by as_aux_lemma => kernel_rfl) (by simp) ?_
            refine AllReadyH.cons (o := { dst := some 9, op := Op.alloc 26, type := 0, pos := "law.go:69", after := #[], guard := none }) rfl (fun Kx hK => ?_) AllReadyH.nil
            · skip
              go_simp
              have bb := bl_newZ X2 (.cells #[.bool false, .bool false, .bool false, .bool false, .bool false] 26)
              have FY := Lib.hid (FX.out.trans (bb.mono FX.out.size))
              have FQ2 := Lib.hid (upR FQ.out bb)
              have FP2 : Hid ((X2.alloc (.cells #[.bool false, .bool false, .bool false, .bool false, .bool false] 26)).heap[X2.heap.size]? = some (.cells #[.bool false, .bool false, .bool false, .bool false, .bool false] 26 (0, 0))) := Lib.hid (heap_newM X2 _)
              have hP : w2.heap.size ≤ X2.heap.size := FX.out.size
              have hPQ : bQ < X2.heap.size := (Array.getElem?_eq_some_iff.1 FQ.out).1
              refine hK.out _ _ ?_ (fun hHeld2 => ?_)
              · exact looks_of (FC2.out.later FY.out) (FI2.out.later FY.out) hu ho HI.out HJ.out
              clear hK Kx hHeld
              have hHeld := hHeld2
              clear hHeld2
              try simp only [Act.put, List.setIfInBounds_toArray, List.set_cons_zero, List.set_cons_succ]
              clear FX bb FQ
              generalize X2.alloc (.cells #[.bool false, .bool false, .bool false, .bool false, .bool false] 26) = X3 at FY FP2 FQ2 hHeld ⊢
              generalize X2.heap.size = bP at FP2 hP hPQ ⊢
              have FX := FY
              clear FY
              have FP := FP2
              clear FP2
              have FQ := FQ2
              clear FQ2
              obtain ⟨g0, g1, g2, g3, g4⟩ := fiveR FP.out
              obtain ⟨f0, f1, f2, f3, f4⟩ := freeR FP.out
              have FP2 := Lib.hid (setR (x0 := .bool x0) (x1 := .bool x1) (x2 := .bool x2) (x3 := .bool x3) (x4 := .bool x4) FP.out)
              have FQ2 := Lib.hid (asideR FQ.out (by omega : bP ≠ bQ) (.bool x0) (.bool x1) (.bool x2) (.bool x3) (.bool x4))
              have FY := Lib.hid (belowR FX.out hP (.bool x0) (.bool x1) (.bool x2) (.bool x3) (.bool x4))
              refine wpAnyH_ready (rs := [23]) (by as_aux_lemma => kernel_rfl) (by simp) ?_
              refine AllReadyH.cons (o := { dst := none, op := Op.store 26 (Operand.tmp 9) (Operand.tmp 80), type := 0, pos := "law.go:69", after := #[{ on := 21, ground := Ground.data }, { on := 18, ground := Ground.data }, { on := 16, ground := Ground.chain }, { on := 0, ground := Ground.phase }, { on := 1, ground := Ground.phase }, { on := 2, ground := Ground.phase }, { on := 3, ground := Ground.phase }, { on := 4, ground := Ground.phase }, { on := 5, ground := Ground.phase }, { on := 6, ground := Ground.phase }, { on := 7, ground := Ground.phase }, { on := 8, ground := Ground.phase }, { on := 9, ground := Ground.phase }, { on := 10, ground := Ground.phase }, { on := 11, ground := Ground.phase }, { on := 12, ground := Ground.phase }, { on := 13, ground := Ground.phase }, { on := 14, ground := Ground.phase }, { on := 15, ground := Ground.phase }, { on := 16, ground := Ground.phase }, { on := 17, ground := Ground.phase }, { on := 18, ground := Ground.phase }, { on := 19, ground := Ground.textOnly Departure.lateStores }, { on := 20, ground := Ground.textOnly Departure.lateStores }, { on := 21, ground := Ground.phase }, { on := 22, ground := Ground.phase }], guard := none }) rfl (fun Kx hK => ?_) AllReadyH.nil
              go_simp
              refine hK.out _ _ ?_ (fun hHeld2 => ?_)
              · exact looks_of (FC2.out.later FY.out) (FI2.out.later FY.out) hu ho HI.out HJ.out
              clear hK Kx hHeld
              have hHeld := hHeld2
              clear hHeld2
              try simp only [Act.put, List.setIfInBounds_toArray, List.set_cons_zero, List.set_cons_succ]
              clear FX FP FQ g0 g1 g2 g3 g4 f0 f1 f2 f3 f4
              have FX := FY
              clear FY
              have FP := FP2
              clear FP2
              have FQ := FQ2
              clear FQ2
              obtain ⟨g0, g1, g2, g3, g4⟩ := fiveR FQ.out
              obtain ⟨f0, f1, f2, f3, f4⟩ := freeR FQ.out
              have FQ2 := Lib.hid (setR (x0 := .bool y0) (x1 := .bool y1) (x2 := .bool y2) (x3 := .bool y3) (x4 := .bool y4) FQ.out)
              have FP2 := Lib.hid (asideR FP.out (by omega : bQ ≠ bP) (.bool y0) (.bool y1) (.bool y2) (.bool y3) (.bool y4))
              have FY := Lib.hid (belowR FX.out hQ (.bool y0) (.bool y1) (.bool y2) (.bool y3) (.bool y4))
              refine wpAnyH_ready (rs := [24]) (by as_aux_lemma => kernel_rfl) (by simp) ?_
              refine AllReadyH.cons (o := { dst := none, op := Op.store 26 (Operand.tmp 10) (Operand.tmp 81), type := 0, pos := "law.go:69", after := #[{ on := 22, ground := Ground.data }, { on := 19, ground := Ground.data }, { on := 23, ground := Ground.chain }, { on := 0, ground := Ground.phase }, { on := 1, ground := Ground.phase }, { on := 2, ground := Ground.phase }, { on := 3, ground := Ground.phase }, { on := 4, ground := Ground.phase }, { on := 5, ground := Ground.phase }, { on := 6, ground := Ground.phase }, { on := 7, ground := Ground.phase }, { on := 8, ground := Ground.phase }, { on := 9, ground := Ground.phase }, { on := 10, ground := Ground.phase }, { on := 11, ground := Ground.phase }, { on := 12, ground := Ground.phase }, { on := 13, ground := Ground.phase }, { on := 14, ground := Ground.phase }, { on := 15, ground := Ground.phase }, { on := 16, ground := Ground.phase }, { on := 17, ground := Ground.phase }, { on := 18, ground := Ground.phase }, { on := 19, ground := Ground.phase }, { on := 20, ground := Ground.textOnly Departure.lateStores }, { on := 21, ground := Ground.phase }, { on := 22, ground := Ground.phase }, { on := 23, ground := Ground.phase }], guard := none }) rfl (fun Kx hK => ?_) AllReadyH.nil
              go_simp
              refine hK.out _ _ ?_ (fun hHeld2 => ?_)
              · exact looks_of (FC2.out.later FY.out) (FI2.out.later FY.out) hu ho HI.out HJ.out
              clear hK Kx hHeld
              have hHeld := hHeld2
              clear hHeld2
              try simp only [Act.put, List.setIfInBounds_toArray, List.set_cons_zero, List.set_cons_succ]
              clear FX FP FQ g0 g1 g2 g3 g4 f0 f1 f2 f3 f4
              have FX := FY
              clear FY
              have FP := FP2
              clear FP2
              have FQ := FQ2
              clear FQ2
              refine wpAnyH_take (i := 25) (oi := { dst := some 11, op := Op.assign (Operand.tmp 82), type := 34, pos := "law.go:69", after := #[{ on := 20, ground := Ground.data }, { on := 24, ground := Ground.chain }, { on := 0, ground := Ground.phase }, { on := 1, ground := Ground.phase }, { on := 2, ground := Ground.phase }, { on := 3, ground := Ground.phase }, { on := 4, ground := Ground.phase }, { on := 5, ground := Ground.phase }, { on := 6, ground := Ground.phase }, { on := 7, ground := Ground.phase }, { on := 8, ground := Ground.phase }, { on := 9, ground := Ground.phase }, { on := 10, ground := Ground.phase }, { on := 11, ground := Ground.phase }, { on := 12, ground := Ground.phase }, { on := 13, ground := Ground.phase }, { on := 14, ground := Ground.phase }, { on := 15, ground := Ground.phase }, { on := 16, ground := Ground.phase }, { on := 17, ground := Ground.phase }, { on := 18, ground := Ground.phase }, { on := 19, ground := Ground.phase }, { on := 20, ground := Ground.phase }, { on := 21, ground := Ground.phase }, { on := 22, ground := Ground.phase }, { on := 23, ground := Ground.phase }, { on := 24, ground := Ground.phase }], guard := none }) (v := ?_) rfl (by as_aux_lemma => kernel_rfl) (by as_aux_lemma => kernel_rfl) (by as_aux_lemma => kernel_rfl) (fun _ _ _ h => h) (Or.inl ⟨by rfl, ?_⟩) (by assumption) ?_
              rotate_left
              · intro w' hSw
                try dsimp only [looksR] at hSw
                go_simp
                try with_reducible rfl
              try simp only [Act.put, List.setIfInBounds_toArray, List.set_cons_zero, List.set_cons_succ]
              refine wpAnyH_done (by kernel_rfl) ?_ _
              go_wp2_with fail
              go_meet
              exact ⟨bP, bQ, rfl, rfl, rfl, FP, FQ, FX⟩
          · skip
            go_simp
            have bb := bl_newZ X1 (.cells #[.bool false, .bool false, .bool false, .bool false, .bool false] 26)
            have FY := Lib.hid (FX.out.trans (bb.mono FX.out.size))
            have FQ2 := Lib.hid (upR FQ.out bb)
            have FP2 : Hid ((X1.alloc (.cells #[.bool false, .bool false, .bool false, .bool false, .bool false] 26)).heap[X1.heap.size]? = some (.cells #[.bool false, .bool false, .bool false, .bool false, .bool false] 26 (0, 0))) := Lib.hid (heap_newM X1 _)
            have hP : w2.heap.size ≤ X1.heap.size := FX.out.size
            have hPQ : bQ < X1.heap.size := (Array.getElem?_eq_some_iff.1 FQ.out).1
            refine hK.out _ _ ?_ (fun hHeld2 => ?_)
            · exact looks_of (FC2.out.later FY.out) (FI2.out.later FY.out) hu ho HI.out HJ.out
            clear hK Kx hHeld
            have hHeld := hHeld2
            clear hHeld2
            try simp only [Act.put, List.setIfInBounds_toArray, List.set_cons_zero, List.set_cons_succ]
            clear FX bb FQ
            generalize X1.alloc (.cells #[.bool false, .bool false, .bool false, .bool false, .bool false] 26) = X2 at FY FP2 FQ2 hHeld ⊢
            generalize X1.heap.size = bP at FP2 hP hPQ ⊢
            have FX := FY
            clear FY
            have FP := FP2
            clear FP2
            have FQ := FQ2
            clear FQ2
            refine wpAnyH_ready (rs := [16]) (by as_aux_lemma => kernel_rfl) (by simp) ?_
            refine AllReadyH.cons (o := { dst := some 79, op := Op.call { callee := Callee.value (Operand.func 31), args := #[Operand.tmp 69, Operand.tmp 76, Operand.tmp 78], argTypes := #[26, 26, 3] }, type := 41, pos := "law.go:69", after := #[{ on := 6, ground := Ground.data }, { on := 13, ground := Ground.data }, { on := 15, ground := Ground.data }], guard := none }) rfl (fun Kx hK => ?_) AllReadyH.nil
            · skip
              go_simp
              refine (HA.out _).mono ?_
              rintro e X3 ⟨rfl, b9⟩
              have FY := Lib.hid (FX.out.trans (b9.mono FX.out.size))
              have FP2 := Lib.hid (upR FP.out b9)
              have FQ2 := Lib.hid (upR FQ.out b9)
              go_wp2_with fail
              refine hK.out _ _ ?_ (fun hHeld2 => ?_)
              · exact looks_of (FC2.out.later FY.out) (FI2.out.later FY.out) hu ho HI.out HJ.out
              clear hK Kx hHeld
              have hHeld := hHeld2
              clear hHeld2
              try simp only [Act.put, List.setIfInBounds_toArray, List.set_cons_zero, List.set_cons_succ]
              clear FX b9 FP FQ
              have FX := FY
              clear FY
              have FP := FP2
              clear FP2
              have FQ := FQ2
              clear FQ2
              refine wpAnyH_take (i := 17) (oi := { dst := some 62, op := Op.move (Operand.tmp 79), type := 41, pos := "law.go:69", after := #[{ on := 16, ground := Ground.data }], guard := none }) (v := ?_) rfl (by as_aux_lemma => kernel_rfl) (by as_aux_lemma => kernel_rfl) (by as_aux_lemma => kernel_rfl) (fun _ _ _ h => h) (Or.inl ⟨by rfl, ?_⟩) (by assumption) ?_
              rotate_left
              · intro w' hSw
                try dsimp only [looksR] at hSw
                go_simp
                try with_reducible rfl
              try simp only [Act.put, List.setIfInBounds_toArray, List.set_cons_zero, List.set_cons_succ]
              refine wpAnyH_take (i := 18) (oi := { dst := some 80, op := Op.extract (Operand.tmp 62) 0, type := 26, pos := "law.go:69", after := #[{ on := 17, ground := Ground.data }], guard := none }) (v := ?_) rfl (by as_aux_lemma => kernel_rfl) (by as_aux_lemma => kernel_rfl) (by as_aux_lemma => kernel_rfl) (fun _ _ _ h => h) (Or.inl ⟨by rfl, ?_⟩) (by assumption) ?_
              rotate_left
              · intro w' hSw
                try dsimp only [looksR] at hSw
                go_simp
                try with_reducible rfl
              try simp only [Act.put, List.setIfInBounds_toArray, List.set_cons_zero, List.set_cons_succ]
              refine wpAnyH_take (i := 19) (oi := { dst := some 81, op := Op.extract (Operand.tmp 62) 1, type := 26, pos := "law.go:69", after := #[{ on := 17, ground := Ground.data }, { on := 23, ground := Ground.gcOnly Departure.lateStores }], guard := none }) (v := ?_) rfl (by as_aux_lemma => kernel_rfl) (by as_aux_lemma => kernel_rfl) (by as_aux_lemma => kernel_rfl) (fun _ _ _ h => h) (Or.inl ⟨by rfl, ?_⟩) (by assumption) ?_
              rotate_left
              · intro w' hSw
                try dsimp only [looksR] at hSw
                go_simp
                try with_reducible rfl
              try simp only [Act.put, List.setIfInBounds_toArray, List.set_cons_zero, List.set_cons_succ]
              refine wpAnyH_take (i := 20) (oi := { dst := some 82, op := Op.extract (Operand.tmp 62) 2, type := 34, pos := "law.go:69", after := #[{ on := 17, ground := Ground.data }, { on := 24, ground := Ground.gcOnly Departure.lateStores }], guard := none }) (v := ?_) rfl (by as_aux_lemma => kernel_rfl) (by as_aux_lemma => kernel_rfl) (by as_aux_lemma => kernel_rfl) (fun _ _ _ h => h) (Or.inl ⟨by rfl, ?_⟩) (by assumption) ?_
              rotate_left
              · intro w' hSw
                try dsimp only [looksR] at hSw
                go_simp
                try with_reducible rfl
              try simp only [Act.put, List.setIfInBounds_toArray, List.set_cons_zero, List.set_cons_succ]
              obtain ⟨g0, g1, g2, g3, g4⟩ := fiveR FP.out
              obtain ⟨f0, f1, f2, f3, f4⟩ := freeR FP.out
              have FP2 := Lib.hid (setR (x0 := .bool x0) (x1 := .bool x1) (x2 := .bool x2) (x3 := .bool x3) (x4 := .bool x4) FP.out)
              have FQ2 := Lib.hid (asideR FQ.out (by omega : bP ≠ bQ) (.bool x0) (.bool x1) (.bool x2) (.bool x3) (.bool x4))
              have FY := Lib.hid (belowR FX.out hP (.bool x0) (.bool x1) (.bool x2) (.bool x3) (.bool x4))
              refine wpAnyH_ready (rs := [23]) (by as_aux_lemma => kernel_rfl) (by simp) ?_
              refine AllReadyH.cons (o := { dst := none, op := Op.store 26 (Operand.tmp 9) (Operand.tmp 80), type := 0, pos := "law.go:69", after := #[{ on := 21, ground := Ground.data }, { on := 18, ground := Ground.data }, { on := 16, ground := Ground.chain }, { on := 0, ground := Ground.phase }, { on := 1, ground := Ground.phase }, { on := 2, ground := Ground.phase }, { on := 3, ground := Ground.phase }, { on := 4, ground := Ground.phase }, { on := 5, ground := Ground.phase }, { on := 6, ground := Ground.phase }, { on := 7, ground := Ground.phase }, { on := 8, ground := Ground.phase }, { on := 9, ground := Ground.phase }, { on := 10, ground := Ground.phase }, { on := 11, ground := Ground.phase }, { on := 12, ground := Ground.phase }, { on := 13, ground := Ground.phase }, { on := 14, ground := Ground.phase }, { on := 15, ground := Ground.phase }, { on := 16, ground := Ground.phase }, { on := 17, ground := Ground.phase }, { on := 18, ground := Ground.phase }, { on := 19, ground := Ground.textOnly Departure.lateStores }, { on := 20, ground := Ground.textOnly Departure.lateStores }, { on := 21, ground := Ground.phase }, { on := 22, ground := Ground.phase }], guard := none }) rfl (fun Kx hK => ?_) AllReadyH.nil
              go_simp
              refine hK.out _ _ ?_ (fun hHeld2 => ?_)
              · exact looks_of (FC2.out.later FY.out) (FI2.out.later FY.out) hu ho HI.out HJ.out
              clear hK Kx hHeld
              have hHeld := hHeld2
              clear hHeld2
              try simp only [Act.put, List.setIfInBounds_toArray, List.set_cons_zero, List.set_cons_succ]
              clear FX FP FQ g0 g1 g2 g3 g4 f0 f1 f2 f3 f4
              have FX := FY
              clear FY
              have FP := FP2
              clear FP2
              have FQ := FQ2
              clear FQ2
              obtain ⟨g0, g1, g2, g3, g4⟩ := fiveR FQ.out
              obtain ⟨f0, f1, f2, f3, f4⟩ := freeR FQ.out
              have FQ2 := Lib.hid (setR (x0 := .bool y0) (x1 := .bool y1) (x2 := .bool y2) (x3 := .bool y3) (x4 := .bool y4) FQ.out)
              have FP2 := Lib.hid (asideR FP.out (by omega : bQ ≠ bP) (.bool y0) (.bool y1) (.bool y2) (.bool y3) (.bool y4))
              have FY := Lib.hid (belowR FX.out hQ (.bool y0) (.bool y1) (.bool y2) (.bool y3) (.bool y4))
              refine wpAnyH_ready (rs := [24]) (by as_aux_lemma => kernel_rfl) (by simp) ?_
              refine AllReadyH.cons (o := { dst := none, op := Op.store 26 (Operand.tmp 10) (Operand.tmp 81), type := 0, pos := "law.go:69", after := #[{ on := 22, ground := Ground.data }, { on := 19, ground := Ground.data }, { on := 23, ground := Ground.chain }, { on := 0, ground := Ground.phase }, { on := 1, ground := Ground.phase }, { on := 2, ground := Ground.phase }, { on := 3, ground := Ground.phase }, { on := 4, ground := Ground.phase }, { on := 5, ground := Ground.phase }, { on := 6, ground := Ground.phase }, { on := 7, ground := Ground.phase }, { on := 8, ground := Ground.phase }, { on := 9, ground := Ground.phase }, { on := 10, ground := Ground.phase }, { on := 11, ground := Ground.phase }, { on := 12, ground := Ground.phase }, { on := 13, ground := Ground.phase }, { on := 14, ground := Ground.phase }, { on := 15, ground := Ground.phase }, { on := 16, ground := Ground.phase }, { on := 17, ground := Ground.phase }, { on := 18, ground := Ground.phase }, { on := 19, ground := Ground.phase }, { on := 20, ground := Ground.textOnly Departure.lateStores }, { on := 21, ground := Ground.phase }, { on := 22, ground := Ground.phase }, { on := 23, ground := Ground.phase }], guard := none }) rfl (fun Kx hK => ?_) AllReadyH.nil
              go_simp
              refine hK.out _ _ ?_ (fun hHeld2 => ?_)
              · exact looks_of (FC2.out.later FY.out) (FI2.out.later FY.out) hu ho HI.out HJ.out
              clear hK Kx hHeld
              have hHeld := hHeld2
              clear hHeld2
              try simp only [Act.put, List.setIfInBounds_toArray, List.set_cons_zero, List.set_cons_succ]
              clear FX FP FQ g0 g1 g2 g3 g4 f0 f1 f2 f3 f4
              have FX := FY
              clear FY
              have FP := FP2
              clear FP2
              have FQ := FQ2
              clear FQ2
              refine wpAnyH_take (i := 25) (oi := { dst := some 11, op := Op.assign (Operand.tmp 82), type := 34, pos := "law.go:69", after := #[{ on := 20, ground := Ground.data }, { on := 24, ground := Ground.chain }, { on := 0, ground := Ground.phase }, { on := 1, ground := Ground.phase }, { on := 2, ground := Ground.phase }, { on := 3, ground := Ground.phase }, { on := 4, ground := Ground.phase }, { on := 5, ground := Ground.phase }, { on := 6, ground := Ground.phase }, { on := 7, ground := Ground.phase }, { on := 8, ground := Ground.phase }, { on := 9, ground := Ground.phase }, { on := 10, ground := Ground.phase }, { on := 11, ground := Ground.phase }, { on := 12, ground := Ground.phase }, { on := 13, ground := Ground.phase }, { on := 14, ground := Ground.phase }, { on := 15, ground := Ground.phase }, { on := 16, ground := Ground.phase }, { on := 17, ground := Ground.phase }, { on := 18, ground := Ground.phase }, { on := 19, ground := Ground.phase }, { on := 20, ground := Ground.phase }, { on := 21, ground := Ground.phase }, { on := 22, ground := Ground.phase }, { on := 23, ground := Ground.phase }, { on := 24, ground := Ground.phase }], guard := none }) (v := ?_) rfl (by as_aux_lemma => kernel_rfl) (by as_aux_lemma => kernel_rfl) (by as_aux_lemma => kernel_rfl) (fun _ _ _ h => h) (Or.inl ⟨by rfl, ?_⟩) (by assumption) ?_
              rotate_left
              · intro w' hSw
                try dsimp only [looksR] at hSw
                go_simp
                try with_reducible rfl
              try simp only [Act.put, List.setIfInBounds_toArray, List.set_cons_zero, List.set_cons_succ]
              refine wpAnyH_done (by kernel_rfl) ?_ _
              go_wp2_with fail
              go_meet
              exact ⟨bP, bQ, rfl, rfl, rfl, FP, FQ, FX⟩
      case rest =>
        obtain ⟨P, Q, rfl, rfl, rfl, FP, FQ, FX⟩ := hcut
        have FB3 := Lib.hid (below2Z FB2.out FX.out)
        have FR3 := Lib.hid (FR2.out.later FX.out)
        have FI3 := Lib.hid (FI2.out.later FX.out)
        have FC3 := Lib.hid (FC2.out.later FX.out)
        clear c0 c1 c2 HA FB2 FT2 FR2 FI2 FC2 FX
        have HRM := Lib.hid (roDo_mayC HD.out)
        have HRS := Lib.hid (roM_short (roDo_may HD.out))
        have hRl := roDo_len2 HD.out
        go_wp2_with fail
        refine (romay_any FR3.out HRS.out HRM).mono ?_
        rintro e w4 ⟨rfl, b4⟩
        have FB4 := Lib.hid (below2Z FB3.out b4)
        have FR4 := Lib.hid (FR3.out.later b4)
        have FI4 := Lib.hid (FI3.out.later b4)
        have FC4 := Lib.hid (FC3.out.later b4)
        have FP4 := Lib.hid (upR FP.out b4)
        have FQ4 := Lib.hid (upR FQ.out b4)
        clear b4 FB3 FR3 FI3 FC3 FP FQ
        obtain ⟨c0, c1, c2⟩ := threeM FC4.out
        simp only [Nat.zero_add] at c1 c2
        obtain ⟨p0, p1, p2, p3, p4⟩ := fiveR FP4.out
        obtain ⟨q0, q1, q2, q3, q4⟩ := fiveR FQ4.out
        have hz4 := FB4.out.size
        go_wp2_with (at_mapUpdate; refine wpList_item rfl _ _ _ rfl w.heap.size (2 * k) (roIt t) rfl FI4.out (by omega) u o hu ho rfl x0 x1 x2 x3 x4 rfl ?_)
        intro w5 hs5 hg5
        have FI5 := Lib.hid hs5
        have FB5 := Lib.hid (FB4.out.grown hg5 (by omega) (fun i e => by injection e with e; omega))
        have FR5 := Lib.hid (FR4.out.grown FI4.out.isMap hg5)
        have FC5 := Lib.hid (cells_grown FC4.out FI4.out.isMap hg5)
        have FP5 := Lib.hid (block_grown FP4.out FI4.out.isMap hg5)
        have FQ5 := Lib.hid (block_grown FQ4.out FI4.out.isMap hg5)
        clear hs5 hg5 FB4 FR4 FI4 FC4 FP4 FQ4 c0 c1 c2 p0 p1 p2 p3 p4 q0 q1 q2 q3 q4 hz4
        obtain ⟨c0, c1, c2⟩ := threeM FC5.out
        simp only [Nat.zero_add] at c1 c2
        obtain ⟨p0, p1, p2, p3, p4⟩ := fiveR FP5.out
        obtain ⟨q0, q1, q2, q3, q4⟩ := fiveR FQ5.out
        have hz5 := FB5.out.size
        go_wp2_with (at_mapUpdate; refine wpList_item rfl _ _ _ rfl w.heap.size (2 * k + 1) _ rfl FI5.out (by omega) o u ho hu rfl y0 y1 y2 y3 y4 rfl ?_)
        intro w6 hs6 hg6
        rw [roDo_lay HD.out HX1.out HX2.out] at hs6
        have FI6 := Lib.hid hs6
        have FB6 := Lib.hid (FB5.out.grown hg6 (by omega) (fun i e => by injection e with e; omega))
        have FR6 := Lib.hid (FR5.out.grown FI5.out.isMap hg6)
        have FC6 := Lib.hid (cells_grown FC5.out FI5.out.isMap hg6)
        have FP6 := Lib.hid (block_grown FP5.out FI5.out.isMap hg6)
        have FQ6 := Lib.hid (block_grown FQ5.out FI5.out.isMap hg6)
        clear hs6 hg6 FB5 FR5 FI5 FC5 FP5 FQ5 c0 c1 c2 p0 p1 p2 p3 p4 q0 q1 q2 q3 q4 hz5
        obtain ⟨r, hr⟩ : ∃ r, suSees ⟨x0, x1, x2, x3, x4⟩ ⟨y0, y1, y2, y3, y4⟩ = r := ⟨_, rfl⟩
        have hrs : roSees R u o = r := by unfold roSees; rw [roGet_it, roGet_it, HX1.out, HX2.out, hr]
        have F1 : Hid (∀ w', Below w6.heap.size w6 w' → _) := Lib.hid (fun w' hw' => get8_eq (FR6.out.later hw') u o HX1)
        have F2 : Hid (∀ w', Below w6.heap.size w6 w' → _) := Lib.hid (fun w' hw' => get8_eq (FR6.out.later hw') o u HX2)
        have F3 : Hid (∀ w', Below w6.heap.size w6 w' → _) := Lib.hid (fun w' hw' => sees8_any (FR6.out.later hw') u o)
        rw [hrs] at F3
        have F4 := Lib.hid (ssees_eq x0 x1 x2 x3 x4 y0 y1 y2 y3 y4 hr)
        have n1 : ∀ w : World, (binOp .neq 26 (.agg #[.bool x0, .bool x1, .bool x2, .bool x3, .bool x4]) (.agg #[.bool x0, .bool x1, .bool x2, .bool x3, .bool x4])).run Try.prog w = .ok (.bool false) w := fun w => by rw [item_neq, itSame_self]; rfl
        have n2 : ∀ w : World, (binOp .neq 26 (.agg #[.bool y0, .bool y1, .bool y2, .bool y3, .bool y4]) (.agg #[.bool y0, .bool y1, .bool y2, .bool y3, .bool y4])).run Try.prog w = .ok (.bool false) w := fun w => by rw [item_neq, itSame_self]; rfl
        have n3 : (r != r) = false := by simp
        clear hr hrs
        obtain ⟨c0, c1, c2⟩ := threeM FC6.out
        simp only [Nat.zero_add] at c1 c2
        obtain ⟨p0, p1, p2, p3, p4⟩ := fiveR FP6.out
        obtain ⟨q0, q1, q2, q3, q4⟩ := fiveR FQ6.out
        replace c0 := cell_regrown c0
        replace c1 := cell_regrown c1
        replace c2 := cell_regrown c2
        replace p0 := cell_regrown p0
        replace p1 := cell_regrown p1
        replace p2 := cell_regrown p2
        replace p3 := cell_regrown p3
        replace p4 := cell_regrown p4
        replace q0 := cell_regrown q0
        replace q1 := cell_regrown q1
        replace q2 := cell_regrown q2
        replace q3 := cell_regrown q3
        replace q4 := cell_regrown q4
        go_wp2_with fail
        refine wp_region_quiet_below (by kernel_rfl) (by kernel_rfl) ?_
        repeat (go_big_quiet_step (first | with_reducible exact rgM F1.out _ _ | with_reducible exact rgM F2.out _ _ | with_reducible exact rgM F3.out _ _ | with_reducible exact rgB F4.out _ _ _))
        refine wpQuiet_nil ?_
        intro w7 hw7
        have b7 := regrownZ hw7
        have FB7 := Lib.hid (below2Z FB6.out b7)
        have FR7 := Lib.hid (FR6.out.later b7)
        have FI7 := Lib.hid (FI6.out.later b7)
        clear b7 hw7 c0 c1 c2 p0 p1 p2 p3 p4 q0 q1 q2 q3 q4 F1 F2 F3 F4 FB6 FR6 FI6 FC6 FP6 FQ6
        go_wp2_with fail
        go_roundw
        case rel => exact ⟨k + 1, R, by omega, by go_num, by omega, FR7, Lib.hid (roDo_may HD.out), FI7, Lib.hid (hsh hu ho), FB7⟩
        case measure => simp [intOf]; omega
    · obtain rfl : k = ms.length := by omega
      go_wp2_with fail
      go_loopw [12] (fun i wx => ∃ q : Nat, q ≤ ms.length ∧ i = .int .i64 q ∧ Hid (Below wr.heap.size wr wx)) (fun i _ => ms.length - (intOf i).toNat)
      case atStart => exact ⟨0, by omega, rfl, Below.refl _ _⟩
      case round =>
        obtain ⟨q, hq, rfl, GB⟩ := hrel
        have GT := Lib.hid (FT.out.later GB.out)
        have GI := Lib.hid (FI.out.later GB.out)
        have GA := Lib.hid (below2Z FB.out GB.out)
        by_cases hlq : q < ms.length
        · obtain ⟨bm, om, rfl, hc⟩ := HV.out.row GA.out q hlq
          have hsh := FSH.out q hlq
          obtain ⟨⟨kd, u, o⟩, hr⟩ : ∃ m, ms.getD q RMov.zero = m := ⟨_, rfl⟩
          rw [hr] at hc hsh
          obtain ⟨hu, ho⟩ := hsh
          try simp only at hu ho
          have HCC := Lib.hid hc
          have hnn : (0 : Int) ≤ (q : Int) := by omega
          have hli : (q : Int) < (ms.length : Int) := by omega
          obtain ⟨⟨i1, i2, i3, i4, i5⟩, hi⟩ : ∃ r, roIt t u o = r := ⟨_, rfl⟩
          have HI := Lib.hid hi
          clear hr hc hi
          go_wp2_with fail
          have FX : Hid (Below wr.heap.size wr wr.drew) := Lib.hid (Below.refl _ _).drew
          refine wp_region_held_drew (S := (fun X => X.cell? ⟨bm, om + q * 3 + 1, none⟩ = some (.string ⟨u.toArray⟩) ∧ X.cell? ⟨bm, om + q * 3 + 2, none⟩ = some (.string ⟨o.toArray⟩))) (by kernel_rfl) ?_ (fun hHeld => ?_)
          · exact (threeM (HCC.out.later FX.out)).2
          generalize wr.drew = X0 at FX hHeld ⊢
          refine wpAnyH_take (i := 0) (oi := { dst := some 141, op := Op.move (Operand.tmp 0), type := 39, pos := "law.go:81", after := #[], guard := none }) (v := ?_) rfl (by as_aux_lemma => kernel_rfl) (by as_aux_lemma => kernel_rfl) (by as_aux_lemma => kernel_rfl) (fun _ _ _ h => h) (Or.inl ⟨by rfl, ?_⟩) (by assumption) ?_
          rotate_left
          · intro w' hSw
            try dsimp only at hSw
            go_simp
            try with_reducible rfl
          try simp only [Act.put, List.setIfInBounds_toArray, List.set_cons_zero, List.set_cons_succ]
          refine wpAnyH_take (i := 1) (oi := { dst := some 142, op := Op.move (Operand.tmp 12), type := 3, pos := "law.go:81", after := #[], guard := none }) (v := ?_) rfl (by as_aux_lemma => kernel_rfl) (by as_aux_lemma => kernel_rfl) (by as_aux_lemma => kernel_rfl) (fun _ _ _ h => h) (Or.inl ⟨by rfl, ?_⟩) (by assumption) ?_
          rotate_left
          · intro w' hSw
            try dsimp only at hSw
            go_simp
            try with_reducible rfl
          try simp only [Act.put, List.setIfInBounds_toArray, List.set_cons_zero, List.set_cons_succ]
          refine wpAnyH_take (i := 2) (oi := { dst := some 143, op := Op.indexAddr 39 (Operand.tmp 141) (Operand.tmp 142), type := 0, pos := "law.go:81", after := #[{ on := 0, ground := Ground.data }, { on := 1, ground := Ground.data }], guard := none }) (v := ?_) rfl (by as_aux_lemma => kernel_rfl) (by as_aux_lemma => kernel_rfl) (by as_aux_lemma => kernel_rfl) (fun _ _ _ h => h) (Or.inl ⟨by rfl, ?_⟩) (by assumption) ?_
          rotate_left
          · intro w' hSw
            try dsimp only at hSw
            go_simp
            try with_reducible rfl
          try simp only [Act.put, List.setIfInBounds_toArray, List.set_cons_zero, List.set_cons_succ]
          refine wpAnyH_take (i := 3) (oi := { dst := some 144, op := Op.fieldAddr 33 (Operand.tmp 143) 1, type := 0, pos := "law.go:81", after := #[{ on := 2, ground := Ground.data }], guard := none }) (v := ?_) rfl (by as_aux_lemma => kernel_rfl) (by as_aux_lemma => kernel_rfl) (by as_aux_lemma => kernel_rfl) (fun _ _ _ h => h) (Or.inl ⟨by rfl, ?_⟩) (by assumption) ?_
          rotate_left
          · intro w' hSw
            try dsimp only at hSw
            go_simp
            try with_reducible rfl
          try simp only [Act.put, List.setIfInBounds_toArray, List.set_cons_zero, List.set_cons_succ]
          refine wpAnyH_take (i := 4) (oi := { dst := some 145, op := Op.load 9 (Operand.tmp 144), type := 9, pos := "law.go:81", after := #[{ on := 3, ground := Ground.data }], guard := none }) (v := ?_) rfl (by as_aux_lemma => kernel_rfl) (by as_aux_lemma => kernel_rfl) (by as_aux_lemma => kernel_rfl) (fun _ _ _ h => h) (Or.inl ⟨by rfl, ?_⟩) (by assumption) ?_
          rotate_left
          · intro w' hSw
            try dsimp only at hSw
            go_simp
            try with_reducible rfl
          try simp only [Act.put, List.setIfInBounds_toArray, List.set_cons_zero, List.set_cons_succ]
          refine wpAnyH_take (i := 5) (oi := { dst := some 146, op := Op.move (Operand.tmp 0), type := 39, pos := "law.go:81", after := #[], guard := none }) (v := ?_) rfl (by as_aux_lemma => kernel_rfl) (by as_aux_lemma => kernel_rfl) (by as_aux_lemma => kernel_rfl) (fun _ _ _ h => h) (Or.inl ⟨by rfl, ?_⟩) (by assumption) ?_
          rotate_left
          · intro w' hSw
            try dsimp only at hSw
            go_simp
            try with_reducible rfl
          try simp only [Act.put, List.setIfInBounds_toArray, List.set_cons_zero, List.set_cons_succ]
          refine wpAnyH_take (i := 6) (oi := { dst := some 147, op := Op.move (Operand.tmp 12), type := 3, pos := "law.go:81", after := #[], guard := none }) (v := ?_) rfl (by as_aux_lemma => kernel_rfl) (by as_aux_lemma => kernel_rfl) (by as_aux_lemma => kernel_rfl) (fun _ _ _ h => h) (Or.inl ⟨by rfl, ?_⟩) (by assumption) ?_
          rotate_left
          · intro w' hSw
            try dsimp only at hSw
            go_simp
            try with_reducible rfl
          try simp only [Act.put, List.setIfInBounds_toArray, List.set_cons_zero, List.set_cons_succ]
          refine wpAnyH_take (i := 7) (oi := { dst := some 148, op := Op.indexAddr 39 (Operand.tmp 146) (Operand.tmp 147), type := 0, pos := "law.go:81", after := #[{ on := 5, ground := Ground.data }, { on := 6, ground := Ground.data }], guard := none }) (v := ?_) rfl (by as_aux_lemma => kernel_rfl) (by as_aux_lemma => kernel_rfl) (by as_aux_lemma => kernel_rfl) (fun _ _ _ h => h) (Or.inl ⟨by rfl, ?_⟩) (by assumption) ?_
          rotate_left
          · intro w' hSw
            try dsimp only at hSw
            go_simp
            try with_reducible rfl
          try simp only [Act.put, List.setIfInBounds_toArray, List.set_cons_zero, List.set_cons_succ]
          refine wpAnyH_take (i := 8) (oi := { dst := some 149, op := Op.fieldAddr 33 (Operand.tmp 148) 2, type := 0, pos := "law.go:81", after := #[{ on := 7, ground := Ground.data }], guard := none }) (v := ?_) rfl (by as_aux_lemma => kernel_rfl) (by as_aux_lemma => kernel_rfl) (by as_aux_lemma => kernel_rfl) (fun _ _ _ h => h) (Or.inl ⟨by rfl, ?_⟩) (by assumption) ?_
          rotate_left
          · intro w' hSw
            try dsimp only at hSw
            go_simp
            try with_reducible rfl
          try simp only [Act.put, List.setIfInBounds_toArray, List.set_cons_zero, List.set_cons_succ]
          refine wpAnyH_take (i := 9) (oi := { dst := some 150, op := Op.load 9 (Operand.tmp 149), type := 9, pos := "law.go:81", after := #[{ on := 8, ground := Ground.data }], guard := none }) (v := ?_) rfl (by as_aux_lemma => kernel_rfl) (by as_aux_lemma => kernel_rfl) (by as_aux_lemma => kernel_rfl) (fun _ _ _ h => h) (Or.inl ⟨by rfl, ?_⟩) (by assumption) ?_
          rotate_left
          · intro w' hSw
            try dsimp only at hSw
            go_simp
            try with_reducible rfl
          try simp only [Act.put, List.setIfInBounds_toArray, List.set_cons_zero, List.set_cons_succ]
          refine wpAnyH_take (i := 10) (oi := { dst := some 151, op := Op.build 43 #[(0, Operand.tmp 145), (1, Operand.tmp 150)], type := 43, pos := "law.go:81", after := #[{ on := 4, ground := Ground.data }, { on := 9, ground := Ground.data }], guard := none }) (v := ?_) rfl (by as_aux_lemma => kernel_rfl) (by as_aux_lemma => kernel_rfl) (by as_aux_lemma => kernel_rfl) (fun _ _ _ h => h) (Or.inl ⟨by rfl, ?_⟩) (by assumption) ?_
          rotate_left
          · intro w' hSw
            try dsimp only at hSw
            go_simp
            try with_reducible rfl
          try simp only [Act.put, List.setIfInBounds_toArray, List.set_cons_zero, List.set_cons_succ]
          refine wpAnyH_ready (rs := [11]) (by as_aux_lemma => kernel_rfl) (by simp) ?_
          refine AllReadyH.cons (o := { dst := some 13, op := Op.alloc 43, type := 0, pos := "law.go:81", after := #[], guard := none }) rfl (fun Kx hK => ?_) AllReadyH.nil
          go_simp
          have bb := bl_newZ X0 (.cells #[.string ⟨#[]⟩, .string ⟨#[]⟩] 43)
          have FY := Lib.hid (FX.out.trans (bb.mono FX.out.size))
          have FD2 : Hid ((X0.alloc (.cells #[.string ⟨#[]⟩, .string ⟨#[]⟩] 43)).heap[X0.heap.size]? = some (.cells #[.string ⟨#[]⟩, .string ⟨#[]⟩] 43 (0, 0))) := Lib.hid (heap_newM X0 _)
          have hD : wr.heap.size ≤ X0.heap.size := FX.out.size
          refine hK.out _ _ ?_ (fun hHeld2 => ?_)
          · exact (threeM (HCC.out.later FY.out)).2
          clear hK Kx hHeld
          have hHeld := hHeld2
          clear hHeld2
          try simp only [Act.put, List.setIfInBounds_toArray, List.set_cons_zero, List.set_cons_succ]
          clear FX bb
          generalize X0.alloc (.cells #[.string ⟨#[]⟩, .string ⟨#[]⟩] 43) = X1 at FY FD2 hHeld ⊢
          generalize X0.heap.size = bD at FD2 hD ⊢
          have FX := FY
          clear FY
          have FD := FD2
          clear FD2
          obtain ⟨g0, g1, f0, f1⟩ := twoM FD.out
          have FD2 := Lib.hid (set2R (x0 := .string ⟨u.toArray⟩) (x1 := .string ⟨o.toArray⟩) FD.out)
          have FY : Hid (Below wr.heap.size wr ((X1.setCell ⟨bD, 0, none⟩ (.string ⟨u.toArray⟩)).setCell ⟨bD, 1, none⟩ (.string ⟨o.toArray⟩))) := Lib.hid ((FX.out.setCell hD _).setCell hD _)
          refine wpAnyH_ready (rs := [12]) (by as_aux_lemma => kernel_rfl) (by simp) ?_
          refine AllReadyH.cons (o := { dst := none, op := Op.store 43 (Operand.tmp 13) (Operand.tmp 151), type := 0, pos := "law.go:81", after := #[{ on := 11, ground := Ground.data }, { on := 10, ground := Ground.data }, { on := 0, ground := Ground.phase }, { on := 1, ground := Ground.phase }, { on := 2, ground := Ground.phase }, { on := 3, ground := Ground.phase }, { on := 4, ground := Ground.phase }, { on := 5, ground := Ground.phase }, { on := 6, ground := Ground.phase }, { on := 7, ground := Ground.phase }, { on := 8, ground := Ground.phase }, { on := 9, ground := Ground.phase }, { on := 10, ground := Ground.phase }, { on := 11, ground := Ground.phase }], guard := none }) rfl (fun Kx hK => ?_) AllReadyH.nil
          go_simp
          refine hK.out _ _ ?_ (fun hHeld2 => ?_)
          · exact (threeM (HCC.out.later FY.out)).2
          clear hK Kx hHeld
          have hHeld := hHeld2
          clear hHeld2
          try simp only [Act.put, List.setIfInBounds_toArray, List.set_cons_zero, List.set_cons_succ]
          refine wpAnyH_done (by kernel_rfl) ?_ _
          clear FX FD g0 g1 f0 f1
          generalize (X1.setCell ⟨bD, 0, none⟩ (.string ⟨u.toArray⟩)).setCell ⟨bD, 1, none⟩ (.string ⟨o.toArray⟩) = w6 at FY FD2 ⊢
          have GT6 := Lib.hid (GT.out.later FY.out)
          have GI6 := Lib.hid (GI.out.later FY.out)
          have GB6 := Lib.hid (below2Z GB.out FY.out)
          have F1 : Hid (∀ w', Below w6.heap.size w6 w' → _) := Lib.hid (fun w' hw' => get8_eq (GT6.out.later hw') u o HI)
          have HLK : ∀ d os, (Instr.lookup 40 (.map (some w.heap.size)) (.agg #[.string ⟨u.toArray⟩, .string ⟨o.toArray⟩]) false).run Try.prog (Sort.grow (redrawn w6 d) os) = .ok (.agg #[.bool i1, .bool i2, .bool i3, .bool i4, .bool i5]) (Sort.grow (redrawn w6 d) os) := fun d os => (GI6.out.later (below_regrown _ _ _)).look u o hu ho HI.out
          have n1 : ∀ w : World, (binOp .neq 26 (.agg #[.bool i1, .bool i2, .bool i3, .bool i4, .bool i5]) (.agg #[.bool i1, .bool i2, .bool i3, .bool i4, .bool i5])).run Try.prog w = .ok (.bool false) w := fun w => by rw [item_neq, itSame_self]; rfl
          obtain ⟨d0, d1, -, -⟩ := twoM FD2.out
          replace d0 := cell_regrown d0
          replace d1 := cell_regrown d1
          go_wp2_with fail
          refine wp_region_quiet_below (by kernel_rfl) (by kernel_rfl) ?_
          repeat (go_big_quiet_step (with_reducible exact rgM F1.out _ _))
          refine wpQuiet_nil ?_
          intro w7 hw7
          have GB7 := Lib.hid (below2Z GB6.out (regrownZ hw7))
          clear hw7 d0 d1 n1 HLK F1
          go_wp2_with fail
          go_roundw
          case rel => exact ⟨q + 1, by omega, by go_num, GB7⟩
          case measure => simp [intOf]; omega
        · obtain rfl : q = ms.length := by omega
          go_wp2_with fail
          refine (live8 _).mono ?_
          rintro e w8 ⟨rfl, b8⟩
          have G8 := Lib.hid (below2Z GA.out b8)
          clear b8
          go_wp2_with fail
          go_ret
          exact ⟨rfl, G8.out⟩

theorem walkRostMay {w : World} {v : Value} {ms : List RMov} (hv : RMovsAt w v ms) :
    Calls Try.prog 5 #[v] w fun e w' => e = .returned (.bool true) ∧ Below w.heap.size w w' := by
  by_cases h : ms.length ≤ 40
  · exact rmayw_2 hv h
  · exact rmayw_1 hv h

end Go.Proofs.Ytfkadkopolenbaa

end

section

/-
  THE FRAME OF THE PROOF OF RostMay: for every input the law returns true, and each argument reads behind the call as it read before. No condition.
-/
namespace Go.Proofs.Ytfkadkopolenbaa.rostMay
open Go.ChangeShapes Go.WideShapes Go.ChangeAt Go.RowKit
open Go.ChangeMaps (open_string shut_string)
set_option linter.unusedVariables false

theorem own : ownKnob Try.prog.godebug = none := by kernel_rfl
theorem laidOut : laidOutB Try.prog = true := by kernel_rfl

set_option maxRecDepth 100000 in
theorem lifted (os : Os) (started : os.Started) (H : Type) (enc : TypeId × Value → H) :
    ReturnsInHanded {} Try.checked os 5 .any (Rows.rostMaySpec.pre6 enc Try.prog Try.f5 Rows.rostMayRow.domain false) (Rows.rostMaySpec.post enc Try.prog Try.f5 false true false false) := by
  refine returnsInHanded_of_change (C := Try.checked) own started (by kernel_rfl) Try.func5
    (ChangeSpec.witness6 (enc := enc) (C := Try.checked) false ⟨#[], #[.slice none 0 0], []⟩ 8 (by kernel_rfl) (by kernel_rfl) (by kernel_rfl) (by kernel_rfl)) ?_
  intro W base args ds gs before hval0 hW hcnd _
  have hval : ∀ (j : Nat) t v, Try.f5.params[j]? = some t → args[j]? = some v → Value.okWide Try.prog W .any base t v := hval0
  have hW' := hW
  obtain ⟨p, q, hA0, hV, rfl, hfz, hnd⟩ := hW
  have hA : DataW.TrodAll enc Try.prog W 0 (fun _ => true) true Try.f5.params.toList args.toList ds p := hA0
  rw [Try.params5] at hA hval
  obtain ⟨v0, vs0, d0, ds0, p0, q0, hargs, rfl, rfl, h0, r0⟩ := trodAll_cons hA
  obtain ⟨rfl, rfl, rfl⟩ := trodAll_nil r0
  obtain rfl : args = #[v0] := by cases args; simp_all
  obtain ⟨rfl, rfl⟩ := trodVars_none hV
  have k0 := h0
  have lt0 : ∀ x ∈ p0, x.block < W.heap.size := by obtain ⟨m, hm⟩ := k0; exact DataW.trod_lt m _ _ _ hm
  obtain ⟨l0, w0⟩ := open_rmoves (hval 0 39 v0 rfl rfl) h0
  clear hA0 hval0
  refine (walkRostMay (w := W) w0).mono fun e W' ⟨he, bel⟩ => ?_
  subst he
  exact ⟨_, rfl, _, _, _, [], _, [], hW', trodAll_mk1 (shut_bool Try.underlying4 _), (trodAll_cons_mk (Below.trod laidOut (by kernel_rfl) (of_decide_eq_true (by kernel_rfl)) k0 bel lt0) trodAll_mk0), rfl, bel.frame _, fun h => by cases h⟩

theorem over : Rows.rostMayRow.holds Try.pinned (OpenSpec.ofChange Rows.rostMaySpec) :=
  OpenClaim.holds_of_wide 5 Try.f5 rfl rfl rfl rfl rfl rfl rfl ⟨rfl, rfl, rfl, rfl, rfl⟩ rfl rfl rfl rfl rfl (by kernel_rfl) Try.func5 (by kernel_rfl)
    (of_decide_eq_true (by kernel_rfl)) (by unfold Func.isWrapper; first | (rw [if_pos (by decide +kernel)]; kernel_rfl) | (rw [if_neg (by decide +kernel)]; exact ⟨rfl, rfl⟩))
    (fun os started H enc _ => lifted os started H enc)

/-- THE STATEMENT. -/
theorem proved : Rows.RostMaySaid := over
#print axioms proved
end Go.Proofs.Ytfkadkopolenbaa.rostMay

end
