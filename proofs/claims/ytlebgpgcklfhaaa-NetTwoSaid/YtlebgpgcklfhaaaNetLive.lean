/-
  LAYER 22: live of the statements tells true.
-/
import Derived.Test.YtlebgpgcklfhaaaNetAct
import Derived.Test.YtlebgpgcklfhaaaIdDoc
namespace Go.Proofs.Ytlebgpgcklfhaaa
open Go.RowKit

theorem texts_mk (w : World) (T : TypeId) (B : Nat) (hB : B = w.heap.size) (ls : List (List UInt8)) (hl : ls.length ≤ 1000) (A : Array Value) (hA : A = (ls.map encS).toArray) (n : Nat) (hn : n = ls.length) :
    Texts (w.alloc (.cells A T)) (.slice (some ⟨B, 0, none⟩) n n) ls := by
  subst hB hA hn
  refine ⟨_, _, rfl, Nat.le_refl _, by unfold maxLen; omega, (fun e => by cases e), .inr ⟨_, _, rfl, by simp, fun i hi => ?_⟩⟩
  rw [World.cell?_alloc_at _ _ _ _ rfl, Nat.zero_add]
  simp [List.getD, List.getElem?_eq_getElem hi]

theorem net_q1 : Hid (ntTake [[97, 98], [99]] 0 = ([97, 98], [[99]], 0)) := by show _ = _; decide +kernel
theorem net_q2 : Hid (ntTake [[97, 98], [99]] 2 = ([], [[97, 98], [99]], 6)) := by show _ = _; decide +kernel
theorem net_q3 : Hid (ntTwice [[97, 98], [99]] 0 = ([[97, 98], [99], [97, 98]], 0)) := by show _ = _; decide +kernel
theorem net_q4 : Hid (ntCor [[97, 98], [99]] 0 1 3 = ([[97, 97], [99]], 0)) := by show _ = _; decide +kernel
theorem net_q5 : Hid (ntCor [[97, 98], [99]] 0 1 0 = ([[97, 98], [99]], 1)) := by show _ = _; decide +kernel
theorem net_q6 : Hid (ntTake [[97, 98], [99]] 1 = ([99], [[97, 98]], 0)) := by show _ = _; decide +kernel
theorem net_q7 : Hid (ntAct [[97, 98], [99]] 8 1 2 = ([[97, 98], [97]], [], 0)) := by show _ = _; decide +kernel
theorem net_q8 : Hid (ntAct [[97, 98], [99]] 2 0 0 = ([[97, 98], [99]], [], 1)) := by show _ = _; decide +kernel
theorem net_sx : ∀ t ∈ ([[97, 98], [99]] : List (List UInt8)), t.length ≤ 1000000 := by decide

set_option maxHeartbeats 3200000 in
set_option maxRecDepth 1000000 in
theorem live22 (w : World) : Calls Try.prog 9 #[] w fun e w' => e = .returned (.bool true) ∧ Below w.heap.size w w' := by
  go_enter Try.func9, Try.ntmps9
  go_wp2_with fail
  have HB := Lib.hid (Below.refl w.heap.size w)
  have b1 := bl_newZ w (.cells #[.string ⟨#[97, 98]⟩] 9)
  replace HB := Lib.hid (below2Z HB.out b1)
  clear b1
  have b2 := bl_newZ (w.alloc (.cells #[.string ⟨#[97, 98]⟩] 9)) (.cells #[.string ⟨#[99]⟩] 9)
  replace HB := Lib.hid (below2Z HB.out b2)
  clear b2
  have U1 := Lib.hid ((texts_mk w 9 w.heap.size rfl [[97, 98]] (by decide) _ rfl 1 rfl).later (bl_newZ (w.alloc (.cells #[.string ⟨#[97, 98]⟩] 9)) (.cells #[.string ⟨#[99]⟩] 9)))
  have U2 := Lib.hid (texts_mk (w.alloc (.cells #[.string ⟨#[97, 98]⟩] 9)) 9 (w.heap.size + 1) (by simp) [[99]] (by decide) _ rfl 1 rfl)
  refine (nsend_any (ls := [[97, 98]]) (ms := [[99]]) U1.out U2.out (by decide)).mono ?_
  rintro e w3 ⟨vVL, rfl, hVL, b3⟩
  replace HB := Lib.hid (below2Z HB.out b3)
  have VL := Lib.hid hVL
  clear b3 hVL U1 U2
  go_wp2_with fail
  refine (ntake_any (ls := [[97, 98], [99]]) VL.out (by decide) 0 net_q1).mono ?_
  rintro e w4 ⟨vVA, rfl, hVA, b4⟩
  replace VL := Lib.hid (VL.out.later b4)
  replace HB := Lib.hid (below2Z HB.out b4)
  have VA := Lib.hid hVA
  clear b4 hVA 
  go_wp2_with fail
  refine (ntake_any (ls := [[97, 98], [99]]) VL.out (by decide) 2 net_q2).mono ?_
  rintro e w5 ⟨vVX, rfl, hVX, b5⟩
  replace VL := Lib.hid (VL.out.later b5)
  replace VA := Lib.hid (VA.out.later b5)
  replace HB := Lib.hid (below2Z HB.out b5)
  have VX := Lib.hid hVX
  clear b5 hVX 
  go_wp2_with fail
  refine (ntwice_any (ls := [[97, 98], [99]]) VL.out 0 net_q3).mono ?_
  rintro e w6 ⟨vVB, rfl, hVB, b6⟩
  replace VL := Lib.hid (VL.out.later b6)
  replace VA := Lib.hid (VA.out.later b6)
  replace VX := Lib.hid (VX.out.later b6)
  replace HB := Lib.hid (below2Z HB.out b6)
  have VB := Lib.hid hVB
  clear b6 hVB 
  go_wp2_with fail
  refine (ncor_any (ls := [[97, 98], [99]]) VL.out (by decide) net_sx 0 1 3 net_q4).mono ?_
  rintro e w7 ⟨vVC, rfl, hVC, b7⟩
  replace VL := Lib.hid (VL.out.later b7)
  replace VA := Lib.hid (VA.out.later b7)
  replace VX := Lib.hid (VX.out.later b7)
  replace VB := Lib.hid (VB.out.later b7)
  replace HB := Lib.hid (below2Z HB.out b7)
  have VC := Lib.hid hVC
  clear b7 hVC 
  go_wp2_with fail
  refine (ncor_any (ls := [[97, 98], [99]]) VL.out (by decide) net_sx 0 1 0 net_q5).mono ?_
  rintro e w8 ⟨vVY, rfl, hVY, b8⟩
  replace VL := Lib.hid (VL.out.later b8)
  replace VA := Lib.hid (VA.out.later b8)
  replace VX := Lib.hid (VX.out.later b8)
  replace VB := Lib.hid (VB.out.later b8)
  replace VC := Lib.hid (VC.out.later b8)
  replace HB := Lib.hid (below2Z HB.out b8)
  have VY := Lib.hid hVY
  clear b8 hVY 
  go_wp2_with fail
  refine (ndrop_any (ls := [[97, 98], [99]]) VL.out (by decide) 1 net_q6).mono ?_
  rintro e w9 ⟨vVK, rfl, hVK, b9⟩
  replace VL := Lib.hid (VL.out.later b9)
  replace VA := Lib.hid (VA.out.later b9)
  replace VX := Lib.hid (VX.out.later b9)
  replace VB := Lib.hid (VB.out.later b9)
  replace VC := Lib.hid (VC.out.later b9)
  replace VY := Lib.hid (VY.out.later b9)
  replace HB := Lib.hid (below2Z HB.out b9)
  have VK := Lib.hid hVK
  clear b9 hVK 
  go_wp2_with fail
  refine (nact_any (ls := [[97, 98], [99]]) VL.out (by decide) net_sx 8 0 [] [] 0 0 0 0 [] [] 1 2 (by decide) [] net_q7).mono ?_
  rintro e w10 ⟨vVM, rfl, hVM, b10⟩
  replace VL := Lib.hid (VL.out.later b10)
  replace VA := Lib.hid (VA.out.later b10)
  replace VX := Lib.hid (VX.out.later b10)
  replace VB := Lib.hid (VB.out.later b10)
  replace VC := Lib.hid (VC.out.later b10)
  replace VY := Lib.hid (VY.out.later b10)
  replace VK := Lib.hid (VK.out.later b10)
  replace HB := Lib.hid (below2Z HB.out b10)
  have VM := Lib.hid hVM
  clear b10 hVM 
  go_wp2_with fail
  refine (nact_any (ls := [[97, 98], [99]]) VL.out (by decide) net_sx 2 0 [] [] 0 0 0 0 [] [] 0 0 (by decide) [] net_q8).mono ?_
  rintro e w11 ⟨vVZ, rfl, hVZ, b11⟩
  replace VL := Lib.hid (VL.out.later b11)
  replace VA := Lib.hid (VA.out.later b11)
  replace VX := Lib.hid (VX.out.later b11)
  replace VB := Lib.hid (VB.out.later b11)
  replace VC := Lib.hid (VC.out.later b11)
  replace VY := Lib.hid (VY.out.later b11)
  replace VK := Lib.hid (VK.out.later b11)
  replace VM := Lib.hid (VM.out.later b11)
  replace HB := Lib.hid (below2Z HB.out b11)
  have VZ := Lib.hid hVZ
  clear b11 hVZ 
  go_wp2_with fail
  have b12 := bl_newZ w11 (.cells #[.string ⟨#[97, 98]⟩, .string ⟨#[99]⟩] 9)
  replace VL := Lib.hid (VL.out.later b12)
  replace VA := Lib.hid (VA.out.later b12)
  replace VX := Lib.hid (VX.out.later b12)
  replace VB := Lib.hid (VB.out.later b12)
  replace VC := Lib.hid (VC.out.later b12)
  replace VY := Lib.hid (VY.out.later b12)
  replace VK := Lib.hid (VK.out.later b12)
  replace VM := Lib.hid (VM.out.later b12)
  replace VZ := Lib.hid (VZ.out.later b12)
  replace HB := Lib.hid (below2Z HB.out b12)
  clear b12
  refine (same_yes (ls := [[97, 98], [99]]) VL.out (texts_mk w11 9 w11.heap.size rfl [[97, 98], [99]] (by decide) _ rfl 2 rfl) (by decide)).mono ?_
  rintro e w13 ⟨rfl, b13⟩
  replace VL := Lib.hid (VL.out.later b13)
  replace VA := Lib.hid (VA.out.later b13)
  replace VX := Lib.hid (VX.out.later b13)
  replace VB := Lib.hid (VB.out.later b13)
  replace VC := Lib.hid (VC.out.later b13)
  replace VY := Lib.hid (VY.out.later b13)
  replace VK := Lib.hid (VK.out.later b13)
  replace VM := Lib.hid (VM.out.later b13)
  replace VZ := Lib.hid (VZ.out.later b13)
  replace HB := Lib.hid (below2Z HB.out b13)
  clear b13
  go_wp2_with fail
  have b14 := bl_newZ w13 (.cells #[.string ⟨#[99]⟩] 9)
  replace VL := Lib.hid (VL.out.later b14)
  replace VA := Lib.hid (VA.out.later b14)
  replace VX := Lib.hid (VX.out.later b14)
  replace VB := Lib.hid (VB.out.later b14)
  replace VC := Lib.hid (VC.out.later b14)
  replace VY := Lib.hid (VY.out.later b14)
  replace VK := Lib.hid (VK.out.later b14)
  replace VM := Lib.hid (VM.out.later b14)
  replace VZ := Lib.hid (VZ.out.later b14)
  replace HB := Lib.hid (below2Z HB.out b14)
  clear b14
  refine (same_yes (ls := [[99]]) VA.out (texts_mk w13 9 w13.heap.size rfl [[99]] (by decide) _ rfl 1 rfl) (by decide)).mono ?_
  rintro e w15 ⟨rfl, b15⟩
  replace VL := Lib.hid (VL.out.later b15)
  replace VA := Lib.hid (VA.out.later b15)
  replace VX := Lib.hid (VX.out.later b15)
  replace VB := Lib.hid (VB.out.later b15)
  replace VC := Lib.hid (VC.out.later b15)
  replace VY := Lib.hid (VY.out.later b15)
  replace VK := Lib.hid (VK.out.later b15)
  replace VM := Lib.hid (VM.out.later b15)
  replace VZ := Lib.hid (VZ.out.later b15)
  replace HB := Lib.hid (below2Z HB.out b15)
  clear b15
  go_wp2_with fail
  have b16 := bl_newZ w15 (.cells #[.string ⟨#[97, 98]⟩, .string ⟨#[99]⟩, .string ⟨#[97, 98]⟩] 9)
  replace VL := Lib.hid (VL.out.later b16)
  replace VA := Lib.hid (VA.out.later b16)
  replace VX := Lib.hid (VX.out.later b16)
  replace VB := Lib.hid (VB.out.later b16)
  replace VC := Lib.hid (VC.out.later b16)
  replace VY := Lib.hid (VY.out.later b16)
  replace VK := Lib.hid (VK.out.later b16)
  replace VM := Lib.hid (VM.out.later b16)
  replace VZ := Lib.hid (VZ.out.later b16)
  replace HB := Lib.hid (below2Z HB.out b16)
  clear b16
  refine (same_yes (ls := [[97, 98], [99], [97, 98]]) VB.out (texts_mk w15 9 w15.heap.size rfl [[97, 98], [99], [97, 98]] (by decide) _ rfl 3 rfl) (by decide)).mono ?_
  rintro e w17 ⟨rfl, b17⟩
  replace VL := Lib.hid (VL.out.later b17)
  replace VA := Lib.hid (VA.out.later b17)
  replace VX := Lib.hid (VX.out.later b17)
  replace VB := Lib.hid (VB.out.later b17)
  replace VC := Lib.hid (VC.out.later b17)
  replace VY := Lib.hid (VY.out.later b17)
  replace VK := Lib.hid (VK.out.later b17)
  replace VM := Lib.hid (VM.out.later b17)
  replace VZ := Lib.hid (VZ.out.later b17)
  replace HB := Lib.hid (below2Z HB.out b17)
  clear b17
  go_wp2_with fail
  have b18 := bl_newZ w17 (.cells #[.string ⟨#[97, 97]⟩, .string ⟨#[99]⟩] 9)
  replace VL := Lib.hid (VL.out.later b18)
  replace VA := Lib.hid (VA.out.later b18)
  replace VX := Lib.hid (VX.out.later b18)
  replace VB := Lib.hid (VB.out.later b18)
  replace VC := Lib.hid (VC.out.later b18)
  replace VY := Lib.hid (VY.out.later b18)
  replace VK := Lib.hid (VK.out.later b18)
  replace VM := Lib.hid (VM.out.later b18)
  replace VZ := Lib.hid (VZ.out.later b18)
  replace HB := Lib.hid (below2Z HB.out b18)
  clear b18
  refine (same_yes (ls := [[97, 97], [99]]) VC.out (texts_mk w17 9 w17.heap.size rfl [[97, 97], [99]] (by decide) _ rfl 2 rfl) (by decide)).mono ?_
  rintro e w19 ⟨rfl, b19⟩
  replace VL := Lib.hid (VL.out.later b19)
  replace VA := Lib.hid (VA.out.later b19)
  replace VX := Lib.hid (VX.out.later b19)
  replace VB := Lib.hid (VB.out.later b19)
  replace VC := Lib.hid (VC.out.later b19)
  replace VY := Lib.hid (VY.out.later b19)
  replace VK := Lib.hid (VK.out.later b19)
  replace VM := Lib.hid (VM.out.later b19)
  replace VZ := Lib.hid (VZ.out.later b19)
  replace HB := Lib.hid (below2Z HB.out b19)
  clear b19
  go_wp2_with fail
  have b20 := bl_newZ w19 (.cells #[.string ⟨#[97, 98]⟩] 9)
  replace VL := Lib.hid (VL.out.later b20)
  replace VA := Lib.hid (VA.out.later b20)
  replace VX := Lib.hid (VX.out.later b20)
  replace VB := Lib.hid (VB.out.later b20)
  replace VC := Lib.hid (VC.out.later b20)
  replace VY := Lib.hid (VY.out.later b20)
  replace VK := Lib.hid (VK.out.later b20)
  replace VM := Lib.hid (VM.out.later b20)
  replace VZ := Lib.hid (VZ.out.later b20)
  replace HB := Lib.hid (below2Z HB.out b20)
  clear b20
  refine (same_yes (ls := [[97, 98]]) VK.out (texts_mk w19 9 w19.heap.size rfl [[97, 98]] (by decide) _ rfl 1 rfl) (by decide)).mono ?_
  rintro e w21 ⟨rfl, b21⟩
  replace VL := Lib.hid (VL.out.later b21)
  replace VA := Lib.hid (VA.out.later b21)
  replace VX := Lib.hid (VX.out.later b21)
  replace VB := Lib.hid (VB.out.later b21)
  replace VC := Lib.hid (VC.out.later b21)
  replace VY := Lib.hid (VY.out.later b21)
  replace VK := Lib.hid (VK.out.later b21)
  replace VM := Lib.hid (VM.out.later b21)
  replace VZ := Lib.hid (VZ.out.later b21)
  replace HB := Lib.hid (below2Z HB.out b21)
  clear b21
  go_wp2_with fail
  have b22 := bl_newZ w21 (.cells #[.string ⟨#[97, 98]⟩, .string ⟨#[97]⟩] 9)
  replace VL := Lib.hid (VL.out.later b22)
  replace VA := Lib.hid (VA.out.later b22)
  replace VX := Lib.hid (VX.out.later b22)
  replace VB := Lib.hid (VB.out.later b22)
  replace VC := Lib.hid (VC.out.later b22)
  replace VY := Lib.hid (VY.out.later b22)
  replace VK := Lib.hid (VK.out.later b22)
  replace VM := Lib.hid (VM.out.later b22)
  replace VZ := Lib.hid (VZ.out.later b22)
  replace HB := Lib.hid (below2Z HB.out b22)
  clear b22
  refine (same_yes (ls := [[97, 98], [97]]) VM.out (texts_mk w21 9 w21.heap.size rfl [[97, 98], [97]] (by decide) _ rfl 2 rfl) (by decide)).mono ?_
  rintro e w23 ⟨rfl, b23⟩
  replace VL := Lib.hid (VL.out.later b23)
  replace VA := Lib.hid (VA.out.later b23)
  replace VX := Lib.hid (VX.out.later b23)
  replace VB := Lib.hid (VB.out.later b23)
  replace VC := Lib.hid (VC.out.later b23)
  replace VY := Lib.hid (VY.out.later b23)
  replace VK := Lib.hid (VK.out.later b23)
  replace VM := Lib.hid (VM.out.later b23)
  replace VZ := Lib.hid (VZ.out.later b23)
  replace HB := Lib.hid (below2Z HB.out b23)
  clear b23
  go_wp2_with fail
  go_ret
  exact ⟨rfl, HB.out⟩

end Go.Proofs.Ytlebgpgcklfhaaa
