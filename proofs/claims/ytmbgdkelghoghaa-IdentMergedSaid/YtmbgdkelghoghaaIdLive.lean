/-
  THE CONTRACT OF live OF LAYER 3's STATEMENTS: it returns true.
-/
import Derived.Test.YtmbgdkelghoghaaIdRef
import Derived.Test.YtmbgdkelghoghaaIdMerge
import Derived.Test.YtmbgdkelghoghaaIdDoc
namespace Go.Proofs.Ytmbgdkelghoghaa
open Go.RowKit

/-- A row of texts that is built with what it holds. -/
theorem texts_made (w : World) (T : TypeId) (B : Nat) (hB : B = w.heap.size) (ls : List (List UInt8)) (hl : ls.length ≤ 100) (A : Array Value) (hA : A = (ls.map encS).toArray) (n : Nat) (hn : n = ls.length) :
    Texts (w.alloc (.cells A T)) (.slice (some ⟨B, 0, none⟩) n n) ls := by
  subst hB hA hn
  refine ⟨_, _, rfl, Nat.le_refl _, by unfold maxLen; omega, (fun e => by cases e), .inr ⟨_, _, rfl, by simp, fun i hi => ?_⟩⟩
  rw [World.cell?_alloc_at _ _ _ _ rfl, Nat.zero_add]
  simp [List.getD, List.getElem?_eq_getElem hi]

theorem i1 : Hid (idFold [65, 110, 110, 45, 50] = ([97, 110, 110, 45, 50], true)) := by show _ = _; decide +kernel
theorem i2 : Hid (idFold [50, 97, 110, 110] = ([], false)) := by show _ = _; decide +kernel
theorem i3 : Hid (idPut [98, 111, 98] = ([3, 98, 111, 98], true)) := by show _ = _; decide +kernel
theorem i4 : Hid (idPut [66, 111, 98] = ([], false)) := by show _ = _; decide +kernel
theorem i5 : Hid (idTake [120, 3, 98, 111, 98] 1 = ([98, 111, 98], 5, 0)) := by show _ = _; kernel_rfl
theorem i6 : Hid (idTake [3, 66, 111, 98] 0 = ([], 0, 3)) := by show _ = _; kernel_rfl
theorem i7 : Hid (idTake [3, 98, 111] 0 = ([], 0, 2)) := by show _ = _; kernel_rfl
theorem i8 : Hid (idIs [97] = true) := by show _ = _; decide +kernel
theorem i9 : Hid (idIs [] = false) := by show _ = _; decide +kernel
theorem i10 : Hid (idLess [122] [97, 97] = true) := by show _ = _; decide +kernel
theorem i11 : Hid (idLess [98] [97] = false) := by show _ = _; decide +kernel
theorem i12 : mrg ([[98, 98], [97]] ++ [[97], [99]]) = [[97], [99], [98, 98]] := by decide +kernel

set_option maxHeartbeats 1600000 in
set_option maxRecDepth 1000000 in
theorem live3 (w : World) : Calls Try.prog 10 #[] w fun e w' => e = .returned (.bool true) ∧ Below w.heap.size w w' := by
  go_enter Try.func10, Try.ntmps10
  go_wp2_with fail
  refine (fold_eq [65, 110, 110, 45, 50] (by decide) i1 _).mono ?_
  rintro e w1 ⟨rfl, b⟩
  have B1 := Lib.hid b
  clear b
  go_wp2_with fail
  refine (fold_eq [50, 97, 110, 110] (by decide) i2 _).mono ?_
  rintro e w2 ⟨rfl, b⟩
  have B2 := Lib.hid (below2' B1.out b)
  clear b B1
  go_wp2_with fail
  refine (idput_eq [98, 111, 98] (by decide) i3 _).mono ?_
  rintro e w3 ⟨rfl, b⟩
  have B3 := Lib.hid (below2' B2.out b)
  clear b B2
  go_wp2_with fail
  refine (idput_eq [66, 111, 98] (by decide) i4 _).mono ?_
  rintro e w4 ⟨rfl, b⟩
  have B4 := Lib.hid (below2' B3.out b)
  clear b B3
  go_wp2_with fail
  refine (idtake_eq [120, 3, 98, 111, 98] (by decide) 1 i5 _).mono ?_
  rintro e w5 ⟨rfl, b⟩
  have B5 := Lib.hid (below2' B4.out b)
  clear b B4
  go_wp2_with fail
  refine (idtake_eq [3, 66, 111, 98] (by decide) 0 i6 _).mono ?_
  rintro e w6 ⟨rfl, b⟩
  have B6 := Lib.hid (below2' B5.out b)
  clear b B5
  go_wp2_with fail
  refine (idtake_eq [3, 98, 111] (by decide) 0 i7 _).mono ?_
  rintro e w7 ⟨rfl, b⟩
  have B7 := Lib.hid (below2' B6.out b)
  clear b B6
  go_wp2_with fail
  refine (is_eq [97] (by decide) i8 _).mono ?_
  rintro e w8 ⟨rfl, b⟩
  have B8 := Lib.hid (below2' B7.out b)
  clear b B7
  go_wp2_with fail
  refine (is_eq [] (by decide) i9 _).mono ?_
  rintro e w9 ⟨rfl, b⟩
  have B9 := Lib.hid (below2' B8.out b)
  clear b B8
  go_wp2_with fail
  refine (less_eq [122] [97, 97] i10 _).mono ?_
  rintro e w10 ⟨rfl, b⟩
  have B10 := Lib.hid (below2' B9.out b)
  clear b B9
  go_wp2_with fail
  refine (less_eq [98] [97] i11 _).mono ?_
  rintro e w11 ⟨rfl, b⟩
  have B11 := Lib.hid (below2' B10.out b)
  clear b B10
  go_wp2_with fail
  refine (merge_any (ls := [[98, 98], [97]]) (ms := [[97], [99]]) ((texts_made w11 _ _ rfl _ (by decide) _ rfl _ rfl).later ((Below.refl _ _).alloc (Nat.le_refl _) _)) (texts_made _ _ _ (by simp) _ (by decide) _ rfl _ rfl) (by decide) (by decide)).mono ?_
  rintro e w12 ⟨v, rfl, ht, b⟩
  rw [i12] at ht
  have B12 := Lib.hid (below2' (((B11.out).alloc (by have := B11.out.size; omega) _).alloc (by have := B11.out.size; simp; omega) _) b)
  have HT := Lib.hid ht
  clear b B11 ht
  go_wp2_with fail
  refine (same_yes (ls := [[97], [99], [98, 98]]) (HT.out.later ((Below.refl _ _).alloc (Nat.le_refl _) _)) (texts_made w12 _ _ rfl _ (by decide) _ rfl _ rfl) (by decide)).mono ?_
  rintro e w13 ⟨rfl, b⟩
  have B13 := Lib.hid (below2' ((B12.out).alloc (by have := B12.out.size; omega) _) b)
  clear b B12
  go_wp2_with fail
  go_ret
  exact ⟨rfl, B13.out⟩

end Go.Proofs.Ytmbgdkelghoghaa
