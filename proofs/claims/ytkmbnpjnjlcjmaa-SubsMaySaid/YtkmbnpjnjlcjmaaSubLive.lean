/-
  THE CONTRACT OF live OF LAYER 7's STATEMENTS: it returns true.
-/
import Derived.Test.YtkmbnpjnjlcjmaaSubAct
namespace Go.Proofs.Ytkmbnpjnjlcjmaa
open Go.RowKit

/-- An item in a block of its own. -/
def ItAt (w : World) (B : Nat) (a : It) : Prop :=
  w.cell? ⟨B, 0, none⟩ = some (.bool a.to) ∧ w.cell? ⟨B, 1, none⟩ = some (.bool a.fr) ∧ w.cell? ⟨B, 2, none⟩ = some (.bool a.out) ∧ w.cell? ⟨B, 3, none⟩ = some (.bool a.inn) ∧ w.cell? ⟨B, 4, none⟩ = some (.bool a.bl)

theorem cellLaterS {w w' : World} {a : Addr} {v : Value} (h : w.cell? a = some v) (hb : Below w.heap.size w w') : w'.cell? a = some v := by
  rw [hb.cell (World.block_lt_of_cell? _ _ h)]
  exact h

theorem ItAt.later {w w' : World} {B : Nat} {a : It} (h : ItAt w B a) (hb : Below w.heap.size w w') : ItAt w' B a :=
  ⟨cellLaterS h.1 hb, cellLaterS h.2.1 hb, cellLaterS h.2.2.1 hb, cellLaterS h.2.2.2.1 hb, cellLaterS h.2.2.2.2 hb⟩

theorem itAt_made (w : World) (a : It) (B : Nat) (hB : B = w.heap.size) : ItAt (w.alloc (.cells #[.bool a.to, .bool a.fr, .bool a.out, .bool a.inn, .bool a.bl] 49)) B a := by
  subst hB
  refine ⟨?_, ?_, ?_, ?_, ?_⟩ <;> (rw [World.cell?_alloc_at _ _ _ _ rfl]; rfl)

theorem bl_allocS {w a : World} (h : Below w.heap.size w a) (o : Obj) : Below w.heap.size w (a.alloc o) := h.alloc h.size o

/-- Two items laid in two new blocks. -/
theorem twoAt (w : World) (x y : It) (T U : TypeId) : ItAt ((w.alloc (.cells #[.bool x.to, .bool x.fr, .bool x.out, .bool x.inn, .bool x.bl] T)).alloc (.cells #[.bool y.to, .bool y.fr, .bool y.out, .bool y.inn, .bool y.bl] U)) w.heap.size x ∧
    ItAt ((w.alloc (.cells #[.bool x.to, .bool x.fr, .bool x.out, .bool x.inn, .bool x.bl] T)).alloc (.cells #[.bool y.to, .bool y.fr, .bool y.out, .bool y.inn, .bool y.bl] U)) (w.heap.size + 1) y := by
  refine ⟨⟨?_, ?_, ?_, ?_, ?_⟩, ?_, ?_, ?_, ?_, ?_⟩
  · rw [World.cell?_alloc_lt _ _ _ (by simp), World.cell?_alloc_at _ _ _ _ rfl]; rfl
  · rw [World.cell?_alloc_lt _ _ _ (by simp), World.cell?_alloc_at _ _ _ _ rfl]; rfl
  · rw [World.cell?_alloc_lt _ _ _ (by simp), World.cell?_alloc_at _ _ _ _ rfl]; rfl
  · rw [World.cell?_alloc_lt _ _ _ (by simp), World.cell?_alloc_at _ _ _ _ rfl]; rfl
  · rw [World.cell?_alloc_lt _ _ _ (by simp), World.cell?_alloc_at _ _ _ _ rfl]; rfl
  all_goals (rw [World.cell?_alloc_at _ _ _ _ (by simp)]; rfl)

theorem ssees_eq (a1 a2 a3 a4 a5 b1 b2 b3 b4 b5 : Bool) {r : Bool} (h : suSees ⟨a1, a2, a3, a4, a5⟩ ⟨b1, b2, b3, b4, b5⟩ = r) (w : World) :
    Calls Try.prog 36 #[.agg #[.bool a1, .bool a2, .bool a3, .bool a4, .bool a5], .agg #[.bool b1, .bool b2, .bool b3, .bool b4, .bool b5]] w fun e w' => e = .returned (.bool r) ∧ Below w.heap.size w w' := by
  have g := ssees_any a1 a2 a3 a4 a5 b1 b2 b3 b4 b5 w
  rw [h] at g
  exact g

theorem smay_bl (a1 a2 a3 a4 a5 b1 b2 b3 b4 b5 : Bool) {r : Bool} (h : suMay ⟨a1, a2, a3, a4, a5⟩ ⟨b1, b2, b3, b4, b5⟩ = r) (w : World) :
    Calls Try.prog 35 #[.agg #[.bool a1, .bool a2, .bool a3, .bool a4, .bool a5], .agg #[.bool b1, .bool b2, .bool b3, .bool b4, .bool b5]] w fun e w' => e = .returned (.bool r) ∧ Below w.heap.size w w' := by
  have g := smay_any a1 a2 a3 a4 a5 b1 b2 b3 b4 b5 w
  rw [h] at g
  exact g.mono fun _ _ ⟨he, hw⟩ => ⟨he, by rw [hw]; exact ((Below.refl _ _).alloc (Nat.le_refl _) _).alloc (by simp) _⟩

theorem sempty_eq (a1 a2 a3 a4 a5 : Bool) {r : Bool} (h : suEmpty ⟨a1, a2, a3, a4, a5⟩ = r) (w : World) :
    Calls Try.prog 68 #[.agg #[.bool a1, .bool a2, .bool a3, .bool a4, .bool a5]] w fun e w' => e = .returned (.bool r) ∧ Below w.heap.size w w' := by
  have g := sempty_any a1 a2 a3 a4 a5 w
  rw [h] at g
  exact g

theorem sname_eq (a1 a2 a3 a4 a5 : Bool) {r : List UInt8} (h : suName ⟨a1, a2, a3, a4, a5⟩ = r) (w : World) :
    Calls Try.prog 69 #[.agg #[.bool a1, .bool a2, .bool a3, .bool a4, .bool a5]] w fun e w' => e = .returned (.string ⟨r.toArray⟩) ∧ Below w.heap.size w w' := by
  have g := sname_any a1 a2 a3 a4 a5 w
  rw [h] at g
  exact g

theorem l7_0 : Hid (suAct ⟨false, false, false, false, false⟩ ⟨false, false, false, false, false⟩ 1 = (⟨false, false, true, false, false⟩, ⟨false, false, false, true, false⟩, 0)) := by show _ = _; decide
theorem l7_1 : Hid (suAct ⟨false, false, true, false, false⟩ ⟨false, false, false, true, false⟩ 1 = (⟨false, false, true, false, false⟩, ⟨false, false, false, true, false⟩, 7)) := by show _ = _; decide
theorem l7_2 : Hid (suAct ⟨false, false, false, true, false⟩ ⟨false, false, true, false, false⟩ 2 = (⟨false, true, false, false, false⟩, ⟨true, false, false, false, false⟩, 0)) := by show _ = _; decide
theorem l7_3 : Hid (suAct ⟨false, false, false, false, false⟩ ⟨false, false, false, false, false⟩ 7 = (⟨false, false, false, false, false⟩, ⟨false, false, false, false, false⟩, 1)) := by show _ = _; decide
theorem l7_4 : Hid (suAct ⟨false, true, false, false, false⟩ ⟨true, false, false, false, false⟩ 5 = (⟨false, true, false, false, true⟩, ⟨true, false, false, false, false⟩, 0)) := by show _ = _; decide

set_option maxHeartbeats 6400000 in
set_option maxRecDepth 1000000 in
theorem live7 (w : World) : Calls Try.prog 33 #[] w fun e w' => e = .returned (.bool true) ∧ Below w.heap.size w w' := by
  have q0 : ∀ w, (binOp .eql 49 (.agg #[.bool false, .bool false, .bool true, .bool false, .bool false]) (.agg #[.bool false, .bool false, .bool true, .bool false, .bool false])).run Try.prog w = .ok (.bool true) w := fun w => (item_eql false false true false false false false true false false w).trans rfl
  have q1 : ∀ w, (binOp .eql 49 (.agg #[.bool false, .bool false, .bool false, .bool true, .bool false]) (.agg #[.bool false, .bool false, .bool false, .bool true, .bool false])).run Try.prog w = .ok (.bool true) w := fun w => (item_eql false false false true false false false false true false w).trans rfl
  have q2 : ∀ w, (binOp .eql 49 (.agg #[.bool false, .bool true, .bool false, .bool false, .bool false]) (.agg #[.bool false, .bool true, .bool false, .bool false, .bool false])).run Try.prog w = .ok (.bool true) w := fun w => (item_eql false true false false false false true false false false w).trans rfl
  have q3 : ∀ w, (binOp .eql 49 (.agg #[.bool true, .bool false, .bool false, .bool false, .bool false]) (.agg #[.bool true, .bool false, .bool false, .bool false, .bool false])).run Try.prog w = .ok (.bool true) w := fun w => (item_eql true false false false false true false false false false w).trans rfl
  have hgd : Try.prog.eqGuardType Try.prog.depth 49 = false := by kernel_rfl
  have Z := Lib.hid (itAt_made w ⟨false, false, false, false, false⟩ w.heap.size rfl)
  have B0 : Hid (Below w.heap.size w (w.alloc (.cells #[.bool false, .bool false, .bool false, .bool false, .bool false] 49))) := Lib.hid ((Below.refl _ _).alloc (Nat.le_refl _) _)
  go_enter Try.func33, Try.ntmps33
  go_wp2_with fail
  refine (sact_eq (a := ⟨false, false, false, false, false⟩) (b := ⟨false, false, false, false, false⟩) (x := ⟨false, false, true, false, false⟩) (y := ⟨false, false, false, true, false⟩) (by decide) l7_0 _).mono ?_
  rintro e w1 ⟨rfl, b⟩
  have b' := bl_allocS (bl_allocS b (.cells #[.bool false, .bool false, .bool true, .bool false, .bool false] 49)) (.cells #[.bool false, .bool false, .bool false, .bool true, .bool false] 49)
  have B1 := Lib.hid (below2S B0.out b')
  replace Z := Lib.hid (Z.out.later b')
  obtain ⟨n1, n2⟩ := twoAt w1 ⟨false, false, true, false, false⟩ ⟨false, false, false, true, false⟩ 49 49
  have A := Lib.hid n1
  have B := Lib.hid n2
  clear b b' B0 n1 n2
  obtain ⟨a0, a1, a2, a3, a4⟩ := A.out
  simp only at a0 a1 a2 a3 a4
  obtain ⟨b0, b1, b2, b3, b4⟩ := B.out
  simp only at b0 b1 b2 b3 b4
  go_wp2_with fail
  refine (sact_eq (a := ⟨false, false, true, false, false⟩) (b := ⟨false, false, false, true, false⟩) (x := ⟨false, false, true, false, false⟩) (y := ⟨false, false, false, true, false⟩) (by decide) l7_1 _).mono ?_
  rintro e w2 ⟨rfl, b⟩
  have b' := bl_allocS (bl_allocS b (.cells #[.bool false, .bool false, .bool true, .bool false, .bool false] 49)) (.cells #[.bool false, .bool false, .bool false, .bool true, .bool false] 49)
  have B2 := Lib.hid (below2S B1.out b')
  replace Z := Lib.hid (Z.out.later b')
  replace A := Lib.hid (A.out.later b')
  replace B := Lib.hid (B.out.later b')
  obtain ⟨_, _⟩ := twoAt w2 ⟨false, false, true, false, false⟩ ⟨false, false, false, true, false⟩ 49 49
  clear b b' B1
  clear a0 a1 a2 a3 a4 b0 b1 b2 b3 b4
  obtain ⟨a0, a1, a2, a3, a4⟩ := A.out
  simp only at a0 a1 a2 a3 a4
  obtain ⟨b0, b1, b2, b3, b4⟩ := B.out
  simp only at b0 b1 b2 b3 b4
  go_wp2_with fail
  refine (sact_eq (a := ⟨false, false, false, true, false⟩) (b := ⟨false, false, true, false, false⟩) (x := ⟨false, true, false, false, false⟩) (y := ⟨true, false, false, false, false⟩) (by decide) l7_2 _).mono ?_
  rintro e w3 ⟨rfl, b⟩
  have b' := bl_allocS (bl_allocS b (.cells #[.bool false, .bool true, .bool false, .bool false, .bool false] 49)) (.cells #[.bool true, .bool false, .bool false, .bool false, .bool false] 49)
  have B3 := Lib.hid (below2S B2.out b')
  replace Z := Lib.hid (Z.out.later b')
  replace A := Lib.hid (A.out.later b')
  replace B := Lib.hid (B.out.later b')
  obtain ⟨n1, n2⟩ := twoAt w3 ⟨false, true, false, false, false⟩ ⟨true, false, false, false, false⟩ 49 49
  have C := Lib.hid n1
  have F := Lib.hid n2
  clear b b' B2 n1 n2
  clear a0 a1 a2 a3 a4 b0 b1 b2 b3 b4
  obtain ⟨z0, z1, z2, z3, z4⟩ := Z.out
  simp only at z0 z1 z2 z3 z4
  go_wp2_with fail
  refine (sact_eq (a := ⟨false, false, false, false, false⟩) (b := ⟨false, false, false, false, false⟩) (x := ⟨false, false, false, false, false⟩) (y := ⟨false, false, false, false, false⟩) (by decide) l7_3 _).mono ?_
  rintro e w4 ⟨rfl, b⟩
  have b' := bl_allocS (bl_allocS b (.cells #[.bool false, .bool false, .bool false, .bool false, .bool false] 49)) (.cells #[.bool false, .bool false, .bool false, .bool false, .bool false] 49)
  have B4 := Lib.hid (below2S B3.out b')
  replace Z := Lib.hid (Z.out.later b')
  replace A := Lib.hid (A.out.later b')
  replace B := Lib.hid (B.out.later b')
  replace C := Lib.hid (C.out.later b')
  replace F := Lib.hid (F.out.later b')
  obtain ⟨_, _⟩ := twoAt w4 ⟨false, false, false, false, false⟩ ⟨false, false, false, false, false⟩ 49 49
  clear b b' B3
  clear z0 z1 z2 z3 z4
  obtain ⟨c0, c1, c2, c3, c4⟩ := C.out
  simp only at c0 c1 c2 c3 c4
  obtain ⟨f0, f1, f2, f3, f4⟩ := F.out
  simp only at f0 f1 f2 f3 f4
  go_wp2_with fail
  refine (sact_eq (a := ⟨false, true, false, false, false⟩) (b := ⟨true, false, false, false, false⟩) (x := ⟨false, true, false, false, true⟩) (y := ⟨true, false, false, false, false⟩) (by decide) l7_4 _).mono ?_
  rintro e w5 ⟨rfl, b⟩
  have b' := bl_allocS (bl_allocS b (.cells #[.bool false, .bool true, .bool false, .bool false, .bool true] 49)) (.cells #[.bool true, .bool false, .bool false, .bool false, .bool false] 49)
  have B5 := Lib.hid (below2S B4.out b')
  replace Z := Lib.hid (Z.out.later b')
  replace A := Lib.hid (A.out.later b')
  replace B := Lib.hid (B.out.later b')
  replace C := Lib.hid (C.out.later b')
  replace F := Lib.hid (F.out.later b')
  obtain ⟨n1, _⟩ := twoAt w5 ⟨false, true, false, false, true⟩ ⟨true, false, false, false, false⟩ 49 49
  have K := Lib.hid n1
  clear b b' B4 n1
  clear c0 c1 c2 c3 c4 f0 f1 f2 f3 f4
  obtain ⟨a0, a1, a2, a3, a4⟩ := A.out
  simp only at a0 a1 a2 a3 a4
  obtain ⟨b0, b1, b2, b3, b4⟩ := B.out
  simp only at b0 b1 b2 b3 b4
  obtain ⟨c0, c1, c2, c3, c4⟩ := C.out
  simp only at c0 c1 c2 c3 c4
  obtain ⟨f0, f1, f2, f3, f4⟩ := F.out
  simp only at f0 f1 f2 f3 f4
  obtain ⟨k0, k1, k2, k3, k4⟩ := K.out
  simp only at k0 k1 k2 k3 k4
  obtain ⟨z0, z1, z2, z3, z4⟩ := Z.out
  simp only at z0 z1 z2 z3 z4
  go_wp2_with fail
  refine (ssees_eq true false false false false false true false false false (r := true) rfl _).mono ?_
  rintro e w6 ⟨rfl, b⟩
  have B6 := Lib.hid (below2S B5.out b)
  replace Z := Lib.hid (Z.out.later b)
  replace A := Lib.hid (A.out.later b)
  replace B := Lib.hid (B.out.later b)
  replace C := Lib.hid (C.out.later b)
  replace F := Lib.hid (F.out.later b)
  replace K := Lib.hid (K.out.later b)
  clear b B5
  clear a0 a1 a2 a3 a4 b0 b1 b2 b3 b4 c0 c1 c2 c3 c4 f0 f1 f2 f3 f4 k0 k1 k2 k3 k4 z0 z1 z2 z3 z4
  obtain ⟨a0, a1, a2, a3, a4⟩ := A.out
  simp only at a0 a1 a2 a3 a4
  obtain ⟨b0, b1, b2, b3, b4⟩ := B.out
  simp only at b0 b1 b2 b3 b4
  obtain ⟨c0, c1, c2, c3, c4⟩ := C.out
  simp only at c0 c1 c2 c3 c4
  obtain ⟨f0, f1, f2, f3, f4⟩ := F.out
  simp only at f0 f1 f2 f3 f4
  obtain ⟨k0, k1, k2, k3, k4⟩ := K.out
  simp only at k0 k1 k2 k3 k4
  obtain ⟨z0, z1, z2, z3, z4⟩ := Z.out
  simp only at z0 z1 z2 z3 z4
  go_wp2_with fail
  refine (ssees_eq true false false false false false true false false true (r := false) rfl _).mono ?_
  rintro e w7 ⟨rfl, b⟩
  have B7 := Lib.hid (below2S B6.out b)
  replace Z := Lib.hid (Z.out.later b)
  replace A := Lib.hid (A.out.later b)
  replace B := Lib.hid (B.out.later b)
  replace C := Lib.hid (C.out.later b)
  replace F := Lib.hid (F.out.later b)
  replace K := Lib.hid (K.out.later b)
  clear b B6
  clear a0 a1 a2 a3 a4 b0 b1 b2 b3 b4 c0 c1 c2 c3 c4 f0 f1 f2 f3 f4 k0 k1 k2 k3 k4 z0 z1 z2 z3 z4
  obtain ⟨a0, a1, a2, a3, a4⟩ := A.out
  simp only at a0 a1 a2 a3 a4
  obtain ⟨b0, b1, b2, b3, b4⟩ := B.out
  simp only at b0 b1 b2 b3 b4
  obtain ⟨c0, c1, c2, c3, c4⟩ := C.out
  simp only at c0 c1 c2 c3 c4
  obtain ⟨f0, f1, f2, f3, f4⟩ := F.out
  simp only at f0 f1 f2 f3 f4
  obtain ⟨k0, k1, k2, k3, k4⟩ := K.out
  simp only at k0 k1 k2 k3 k4
  obtain ⟨z0, z1, z2, z3, z4⟩ := Z.out
  simp only at z0 z1 z2 z3 z4
  go_wp2_with fail
  refine (ssees_eq false true false false false true false false false false (r := false) rfl _).mono ?_
  rintro e w8 ⟨rfl, b⟩
  have B8 := Lib.hid (below2S B7.out b)
  replace Z := Lib.hid (Z.out.later b)
  replace A := Lib.hid (A.out.later b)
  replace B := Lib.hid (B.out.later b)
  replace C := Lib.hid (C.out.later b)
  replace F := Lib.hid (F.out.later b)
  replace K := Lib.hid (K.out.later b)
  clear b B7
  clear a0 a1 a2 a3 a4 b0 b1 b2 b3 b4 c0 c1 c2 c3 c4 f0 f1 f2 f3 f4 k0 k1 k2 k3 k4 z0 z1 z2 z3 z4
  obtain ⟨a0, a1, a2, a3, a4⟩ := A.out
  simp only at a0 a1 a2 a3 a4
  obtain ⟨b0, b1, b2, b3, b4⟩ := B.out
  simp only at b0 b1 b2 b3 b4
  obtain ⟨c0, c1, c2, c3, c4⟩ := C.out
  simp only at c0 c1 c2 c3 c4
  obtain ⟨f0, f1, f2, f3, f4⟩ := F.out
  simp only at f0 f1 f2 f3 f4
  obtain ⟨k0, k1, k2, k3, k4⟩ := K.out
  simp only at k0 k1 k2 k3 k4
  obtain ⟨z0, z1, z2, z3, z4⟩ := Z.out
  simp only at z0 z1 z2 z3 z4
  go_wp2_with fail
  refine (smay_bl false false true false false false false false true false (r := true) rfl _).mono ?_
  rintro e w9 ⟨rfl, b⟩
  have B9 := Lib.hid (below2S B8.out b)
  replace Z := Lib.hid (Z.out.later b)
  replace A := Lib.hid (A.out.later b)
  replace B := Lib.hid (B.out.later b)
  replace C := Lib.hid (C.out.later b)
  replace F := Lib.hid (F.out.later b)
  replace K := Lib.hid (K.out.later b)
  clear b B8
  clear a0 a1 a2 a3 a4 b0 b1 b2 b3 b4 c0 c1 c2 c3 c4 f0 f1 f2 f3 f4 k0 k1 k2 k3 k4 z0 z1 z2 z3 z4
  obtain ⟨a0, a1, a2, a3, a4⟩ := A.out
  simp only at a0 a1 a2 a3 a4
  obtain ⟨b0, b1, b2, b3, b4⟩ := B.out
  simp only at b0 b1 b2 b3 b4
  obtain ⟨c0, c1, c2, c3, c4⟩ := C.out
  simp only at c0 c1 c2 c3 c4
  obtain ⟨f0, f1, f2, f3, f4⟩ := F.out
  simp only at f0 f1 f2 f3 f4
  obtain ⟨k0, k1, k2, k3, k4⟩ := K.out
  simp only at k0 k1 k2 k3 k4
  obtain ⟨z0, z1, z2, z3, z4⟩ := Z.out
  simp only at z0 z1 z2 z3 z4
  go_wp2_with fail
  refine (smay_bl false false true false false false false true false false (r := false) rfl _).mono ?_
  rintro e w10 ⟨rfl, b⟩
  have B10 := Lib.hid (below2S B9.out b)
  replace Z := Lib.hid (Z.out.later b)
  replace A := Lib.hid (A.out.later b)
  replace B := Lib.hid (B.out.later b)
  replace C := Lib.hid (C.out.later b)
  replace F := Lib.hid (F.out.later b)
  replace K := Lib.hid (K.out.later b)
  clear b B9
  clear a0 a1 a2 a3 a4 b0 b1 b2 b3 b4 c0 c1 c2 c3 c4 f0 f1 f2 f3 f4 k0 k1 k2 k3 k4 z0 z1 z2 z3 z4
  obtain ⟨a0, a1, a2, a3, a4⟩ := A.out
  simp only at a0 a1 a2 a3 a4
  obtain ⟨b0, b1, b2, b3, b4⟩ := B.out
  simp only at b0 b1 b2 b3 b4
  obtain ⟨c0, c1, c2, c3, c4⟩ := C.out
  simp only at c0 c1 c2 c3 c4
  obtain ⟨f0, f1, f2, f3, f4⟩ := F.out
  simp only at f0 f1 f2 f3 f4
  obtain ⟨k0, k1, k2, k3, k4⟩ := K.out
  simp only at k0 k1 k2 k3 k4
  obtain ⟨z0, z1, z2, z3, z4⟩ := Z.out
  simp only at z0 z1 z2 z3 z4
  go_wp2_with fail
  refine (sempty_eq false false false false false (r := true) rfl _).mono ?_
  rintro e w11 ⟨rfl, b⟩
  have B11 := Lib.hid (below2S B10.out b)
  replace Z := Lib.hid (Z.out.later b)
  replace A := Lib.hid (A.out.later b)
  replace B := Lib.hid (B.out.later b)
  replace C := Lib.hid (C.out.later b)
  replace F := Lib.hid (F.out.later b)
  replace K := Lib.hid (K.out.later b)
  clear b B10
  clear a0 a1 a2 a3 a4 b0 b1 b2 b3 b4 c0 c1 c2 c3 c4 f0 f1 f2 f3 f4 k0 k1 k2 k3 k4 z0 z1 z2 z3 z4
  obtain ⟨a0, a1, a2, a3, a4⟩ := A.out
  simp only at a0 a1 a2 a3 a4
  obtain ⟨b0, b1, b2, b3, b4⟩ := B.out
  simp only at b0 b1 b2 b3 b4
  obtain ⟨c0, c1, c2, c3, c4⟩ := C.out
  simp only at c0 c1 c2 c3 c4
  obtain ⟨f0, f1, f2, f3, f4⟩ := F.out
  simp only at f0 f1 f2 f3 f4
  obtain ⟨k0, k1, k2, k3, k4⟩ := K.out
  simp only at k0 k1 k2 k3 k4
  obtain ⟨z0, z1, z2, z3, z4⟩ := Z.out
  simp only at z0 z1 z2 z3 z4
  go_wp2_with fail
  refine (sempty_eq false false true false false (r := false) rfl _).mono ?_
  rintro e w12 ⟨rfl, b⟩
  have B12 := Lib.hid (below2S B11.out b)
  replace Z := Lib.hid (Z.out.later b)
  replace A := Lib.hid (A.out.later b)
  replace B := Lib.hid (B.out.later b)
  replace C := Lib.hid (C.out.later b)
  replace F := Lib.hid (F.out.later b)
  replace K := Lib.hid (K.out.later b)
  clear b B11
  clear a0 a1 a2 a3 a4 b0 b1 b2 b3 b4 c0 c1 c2 c3 c4 f0 f1 f2 f3 f4 k0 k1 k2 k3 k4 z0 z1 z2 z3 z4
  obtain ⟨a0, a1, a2, a3, a4⟩ := A.out
  simp only at a0 a1 a2 a3 a4
  obtain ⟨b0, b1, b2, b3, b4⟩ := B.out
  simp only at b0 b1 b2 b3 b4
  obtain ⟨c0, c1, c2, c3, c4⟩ := C.out
  simp only at c0 c1 c2 c3 c4
  obtain ⟨f0, f1, f2, f3, f4⟩ := F.out
  simp only at f0 f1 f2 f3 f4
  obtain ⟨k0, k1, k2, k3, k4⟩ := K.out
  simp only at k0 k1 k2 k3 k4
  obtain ⟨z0, z1, z2, z3, z4⟩ := Z.out
  simp only at z0 z1 z2 z3 z4
  go_wp2_with fail
  refine (sname_eq true false false false false (r := [116, 111]) rfl _).mono ?_
  rintro e w13 ⟨rfl, b⟩
  have B13 := Lib.hid (below2S B12.out b)
  replace Z := Lib.hid (Z.out.later b)
  replace A := Lib.hid (A.out.later b)
  replace B := Lib.hid (B.out.later b)
  replace C := Lib.hid (C.out.later b)
  replace F := Lib.hid (F.out.later b)
  replace K := Lib.hid (K.out.later b)
  clear b B12
  clear a0 a1 a2 a3 a4 b0 b1 b2 b3 b4 c0 c1 c2 c3 c4 f0 f1 f2 f3 f4 k0 k1 k2 k3 k4 z0 z1 z2 z3 z4
  obtain ⟨a0, a1, a2, a3, a4⟩ := A.out
  simp only at a0 a1 a2 a3 a4
  obtain ⟨b0, b1, b2, b3, b4⟩ := B.out
  simp only at b0 b1 b2 b3 b4
  obtain ⟨c0, c1, c2, c3, c4⟩ := C.out
  simp only at c0 c1 c2 c3 c4
  obtain ⟨f0, f1, f2, f3, f4⟩ := F.out
  simp only at f0 f1 f2 f3 f4
  obtain ⟨k0, k1, k2, k3, k4⟩ := K.out
  simp only at k0 k1 k2 k3 k4
  obtain ⟨z0, z1, z2, z3, z4⟩ := Z.out
  simp only at z0 z1 z2 z3 z4
  go_wp2_with fail
  refine (sname_eq false true false false false (r := [102, 114, 111, 109]) rfl _).mono ?_
  rintro e w14 ⟨rfl, b⟩
  have B14 := Lib.hid (below2S B13.out b)
  replace Z := Lib.hid (Z.out.later b)
  replace A := Lib.hid (A.out.later b)
  replace B := Lib.hid (B.out.later b)
  replace C := Lib.hid (C.out.later b)
  replace F := Lib.hid (F.out.later b)
  replace K := Lib.hid (K.out.later b)
  clear b B13
  clear a0 a1 a2 a3 a4 b0 b1 b2 b3 b4 c0 c1 c2 c3 c4 f0 f1 f2 f3 f4 k0 k1 k2 k3 k4 z0 z1 z2 z3 z4
  go_wp2_with fail
  go_ret
  exact ⟨rfl, B14.out⟩

end Go.Proofs.Ytkmbnpjnjlcjmaa
