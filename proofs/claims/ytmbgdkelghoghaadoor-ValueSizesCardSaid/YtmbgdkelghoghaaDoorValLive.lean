/-
  '==' OF TWO VALUES; THE CONTRACT OF live OF LAYER 4's STATEMENTS: it returns true.
-/
import Derived.Test.YtmbgdkelghoghaaDoorValRtake
import Derived.Test.YtmbgdkelghoghaaDoorValRsay
import Derived.Laws.StructEq
namespace Go.Proofs.YtmbgdkelghoghaaDoor
open Go.RowKit

/-- Are two values the same? -/
def vaEq (x y : Val) : Bool := (x.sh == y.sh && (x.pr == y.pr && (x.si == y.si && x.st == y.st)))

theorem vaEq_iff {x y : Val} : vaEq x y = true ↔ x = y := by
  obtain ⟨a, b, c, s⟩ := x
  obtain ⟨a', b', c', s'⟩ := y
  simp [vaEq]

theorem toList_bytes (l : List UInt8) : (⟨l.toArray⟩ : ByteArray).toList = l := by
  rw [ByteArray.toList_eq]

theorem val_eql (a b c a' b' c' : Int) (s s' : List UInt8) (w : World) :
    (binOp .eql 23 (.agg #[.int .i64 a, .int .i64 b, .int .i64 c, .string ⟨s.toArray⟩]) (.agg #[.int .i64 a', .int .i64 b', .int .i64 c', .string ⟨s'.toArray⟩])).run Tryd.prog w = .ok (.bool (vaEq ⟨a, b, c, s⟩ ⟨a', b', c', s'⟩)) w := by
  have hS : Tryd.prog.underlying 23 = some (.struct (Tryd.prog.fieldsOf 23)) := by kernel_rfl
  have hp : Tryd.prog.stoodInHeld 23 = false := by kernel_rfl
  have u3 := Tryd.underlying3
  have u9 := Tryd.underlying9
  have a3 := Tryd.isAgg3
  have z3 := Tryd.sizeOf3
  have a9 := Tryd.isAgg9
  have z9 := Tryd.sizeOf9
  rw [run_eql_struct, show (10000 : Nat) = 9999 + 1 from rfl, run_equalIn_agg w 9999 23 _ _ hS hp]
  simp only [Program.fieldsOf, Tryd.underlying23]
  go_simp
  unfold vaEq
  by_cases h1 : a = a' <;> by_cases h2 : b = b' <;> by_cases h3 : c = c' <;> by_cases h4 : s = s' <;> simp [h1, h2, h3, h4]

theorem n1 : Hid (vaPut ⟨4, -1, 300, [104, 105]⟩ = [4, 127, 172, 2, 2, 104, 105]) := by show _ = _; decide +kernel
theorem n2 : Hid (vaMay ⟨4, -1, 300, [104, 105]⟩ = true) := by show _ = _; decide +kernel
theorem n3 : Hid (vaPut ⟨0, 0, 0, []⟩ = []) := by show _ = _; decide +kernel
theorem n4 : Hid (vaMay ⟨0, 0, 0, []⟩ = false) := by show _ = _; decide +kernel
theorem n5 : Hid (vaTake [120, 4, 127, 172, 2, 2, 104, 105] 1 = (⟨4, -1, 300, [104, 105]⟩, 8, 0)) := by show _ = _; kernel_rfl
theorem n6 : Hid (vaTake [4] 0 = (⟨0, 0, 0, []⟩, 0, 2)) := by show _ = _; kernel_rfl
theorem n7 : Hid (vaTake [5, 128, 5, 0] 0 = (⟨0, 0, 0, []⟩, 0, 3)) := by show _ = _; kernel_rfl
theorem n8 : Hid (vaSay 2 = ([97, 119, 97, 121], true)) := by show _ = _; decide +kernel
theorem n9 : Hid (vaHear [111, 110, 108, 105, 110, 101] = (4, true)) := by show _ = _; decide +kernel
theorem n10 : Hid (vaHear [111, 110] = (0, false)) := by show _ = _; decide +kernel
theorem n11 : Hid (vaMay ⟨1, 0, 0, [10]⟩ = false) := by show _ = _; decide +kernel

set_option maxHeartbeats 800000 in
set_option maxRecDepth 1000000 in
theorem live4 (w : World) (hL : Laid w) : Calls Tryd.prog 8 #[] w fun e w' => e = .returned (.bool true) ∧ Below w.heap.size w w' := by
  go_enter Tryd.func8, Tryd.ntmps8
  have hgd : Tryd.prog.eqGuardType Tryd.prog.depth 23 = false := by kernel_rfl
  have heq : ∀ w, (binOp .eql 23 (.agg #[.int .i64 4, .int .i64 (-1), .int .i64 300, .string ⟨#[104, 105]⟩]) (.agg #[.int .i64 4, .int .i64 (-1), .int .i64 300, .string ⟨#[104, 105]⟩])).run Tryd.prog w = .ok (.bool true) w := fun w => val_eql 4 (-1) 300 4 (-1) 300 [104, 105] [104, 105] w
  go_wp2_with fail
  refine (vaput_any _ _ _ [104, 105] (by decide) n1 n2 _).mono ?_
  rintro e w1 ⟨rfl, hb1⟩
  have B1 : Hid (Below w.heap.size w w1) := below2' ((Below.refl _ _).alloc (Nat.le_refl _) _) hb1
  have k0 := cell_later (a := ⟨w.heap.size, 0, none⟩) (v := .int .i64 4) (by simp) hb1
  have k1 := cell_later (a := ⟨w.heap.size, 1, none⟩) (v := .int .i64 (-1)) (by simp) hb1
  have k2 := cell_later (a := ⟨w.heap.size, 2, none⟩) (v := .int .i64 300) (by simp) hb1
  have k3 := cell_later (a := ⟨w.heap.size, 3, none⟩) (v := .string ⟨#[104, 105]⟩) (by simp) hb1
  have K1 := Lib.hid (keep4 (Below.refl _ _) ⟨k0, k1, k2, k3⟩)
  clear k0 k1 k2 k3 hb1
  go_wp2_with fail
  refine (vaput_any _ _ _ [] (by decide) n3 n4 _).mono ?_
  rintro e w2 ⟨rfl, hb2⟩
  have B2 := Lib.hid (below2' B1.out hb2)
  have K2 := Lib.hid (keep4 hb2 K1.out)
  clear hb2 K1 B1
  go_wp2_with fail
  refine (vatake_eq [120, 4, 127, 172, 2, 2, 104, 105] (by decide) 1 n5 _).mono ?_
  rintro e w3 ⟨rfl, hb3⟩
  have B3 := Lib.hid (below2' B2.out hb3)
  have K3 := Lib.hid (keep4 hb3 K2.out)
  clear hb3 K2 B2
  go_wp2_with fail
  refine (vatake_eq [4] (by decide) 0 n6 _).mono ?_
  rintro e w4 ⟨rfl, hb4⟩
  have B4 := Lib.hid (below2' (bl_alloc B3.out _) hb4)
  have K4 := Lib.hid (keep4 hb4 (keep4 ((Below.refl _ _).alloc (Nat.le_refl _) _) K3.out))
  have k0 := cell_later (a := ⟨w3.heap.size, 0, none⟩) (v := .int .i64 4) (by simp) hb4
  have k1 := cell_later (a := ⟨w3.heap.size, 1, none⟩) (v := .int .i64 (-1)) (by simp) hb4
  have k2 := cell_later (a := ⟨w3.heap.size, 2, none⟩) (v := .int .i64 300) (by simp) hb4
  have k3 := cell_later (a := ⟨w3.heap.size, 3, none⟩) (v := .string ⟨#[104, 105]⟩) (by simp) hb4
  have J4 := Lib.hid (keep4 (Below.refl _ _) ⟨k0, k1, k2, k3⟩)
  clear k0 k1 k2 k3 hb4 K3 B3
  go_wp2_with fail
  refine (vatake_eq [5, 128, 5, 0] (by decide) 0 n7 _).mono ?_
  rintro e w5 ⟨rfl, hb5⟩
  have B5 := Lib.hid (below2' (bl_alloc B4.out _) hb5)
  have K5 := Lib.hid (keep4 hb5 (keep4 ((Below.refl _ _).alloc (Nat.le_refl _) _) K4.out))
  have J5 := Lib.hid (keep4 hb5 (keep4 ((Below.refl _ _).alloc (Nat.le_refl _) _) J4.out))
  clear hb5 K4 J4 B4
  go_wp2_with fail
  have L5 : ∀ o, Laid (w5.alloc o) := fun o => hL.later (bl_alloc B5.out o)
  refine (say_any 2 n8 _ (L5 _)).mono ?_
  rintro e w6 ⟨rfl, rfl⟩
  go_wp2_with fail
  refine (hear_any [111, 110, 108, 105, 110, 101] (by decide) n9 _ (L5 _)).mono ?_
  rintro e w6 ⟨rfl, rfl⟩
  go_wp2_with fail
  refine (hear_any [111, 110] (by decide) n10 _ (L5 _)).mono ?_
  rintro e w6 ⟨rfl, rfl⟩
  obtain ⟨k0, k1, k2, k3⟩ := K5.out
  obtain ⟨j0, j1, j2, j3⟩ := J5.out
  have hz1 := World.block_lt_of_cell? w5 _ k0
  have hz2 := World.block_lt_of_cell? w5 _ j0
  simp only at hz1 hz2
  clear K5 J5 L5
  go_wp2_with fail
  refine (may_eq 4 (-1) 300 [104, 105] (by decide) n2 _).mono ?_
  rintro e w7 ⟨rfl, hb7⟩
  have B7 := Lib.hid (below2' (bl_alloc B5.out _) hb7)
  clear hb7 B5 k0 k1 k2 k3 j0 j1 j2 j3 hz1 hz2 heq
  go_wp2_with fail
  refine (may_eq 1 0 0 [10] (by decide) n11 _).mono ?_
  rintro e w8 ⟨rfl, hb8⟩
  have B8 := Lib.hid (below2' B7.out hb8)
  clear hb8 B7
  go_wp2_with fail
  go_ret
  exact ⟨rfl, B8.out⟩

end Go.Proofs.YtmbgdkelghoghaaDoor
