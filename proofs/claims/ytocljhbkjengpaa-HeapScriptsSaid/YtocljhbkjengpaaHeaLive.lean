/-
  LAYER 10: the live answers.
-/
import Derived.Test.YtocljhbkjengpaaHeaAbs
namespace Go.Proofs.Ytocljhbkjengpaa
open Go.RowKit

theorem below_turn {w a b : World} {B : Nat} {v v' : Value} {M : Nat} (h : Below w.heap.size w a) (k : TurnV a b w.heap.size B v M v') : Below w.heap.size w b := h.trans k.turn.below

set_option maxHeartbeats 3200000 in
set_option maxRecDepth 100000 in
theorem live10 (w : World) : Calls Try.prog 16 #[] w fun e w' => e = .returned (.bool true) ∧ Below w.heap.size w w' := by
  have q0 : ∀ w, (binOp .eql 31 (.agg #[.int .i64 1, .int .i64 0, .int .i64 0]) (.agg #[.int .i64 1, .int .i64 0, .int .i64 0])).run Try.prog w = .ok (.bool true) w := fun _ => by kernel_rfl
  go_enter Try.func16, Try.ntmps16
  go_wp2_with fail
  refine (hp_new w).mono ?_
  rintro e w1 ⟨B, v0, M, rfl, h0, b0⟩
  have B1 := Lib.hid b0
  have H1 := Lib.hid h0
  clear b0 h0
  go_wp2_with fail
  refine (hp_put H1.out (by decide) 5 1 0 0 (by decide) (r := true) rfl).mono ?_
  rintro e w2 ⟨v2, rfl, h2, t2⟩
  have B2 := Lib.hid (below_turn B1.out t2)
  have H2 := Lib.hid (show HpAt w2 w.heap.size B v2 M [⟨5, 1, 0, 0⟩] from h2)
  clear h2 t2
  go_wp2_with fail
  refine (hp_put H2.out (by decide) 3 1 0 0 (by decide) (r := true) (by decide)).mono ?_
  rintro e w3 ⟨v3, rfl, h3, t3⟩
  have B3 := Lib.hid (below_turn B2.out t3)
  have H3 := Lib.hid (show HpAt w3 w.heap.size B v3 M [⟨5, 1, 0, 0⟩, ⟨3, 1, 0, 0⟩] from h3)
  clear h3 t3
  go_wp2_with fail
  refine (hp_put H3.out (by decide) 9 0 9 9 (by decide) (r := true) (by decide)).mono ?_
  rintro e w4 ⟨v4, rfl, h4, t4⟩
  have B4 := Lib.hid (below_turn B3.out t4)
  have H4 := Lib.hid (show HpAt w4 w.heap.size B v4 M [⟨5, 1, 0, 0⟩, ⟨3, 1, 0, 0⟩, ⟨9, 0, 9, 9⟩] from h4)
  clear h4 t4
  go_wp2_with fail
  refine (hp_put H4.out (by decide) 9 1 0 1 (by decide) (r := false) (by decide)).mono ?_
  rintro e w5 ⟨v5, rfl, h5, t5⟩
  have B5 := Lib.hid (below_turn B4.out t5)
  have H5 := Lib.hid (show HpAt w5 w.heap.size B v5 M [⟨5, 1, 0, 0⟩, ⟨3, 1, 0, 0⟩, ⟨9, 1, 0, 1⟩] from h5)
  clear h5 t5
  go_wp2_with fail
  refine (hp_top H5.out (i := 9) (r0 := 1) (r1 := 0) (r2 := 1) (by unfold IsTop; decide)).mono ?_
  rintro e w6 ⟨rfl, b6⟩
  have b6' := bl_allocZ b6 (.cells #[.int .i64 9, .int .i64 1, .int .i64 0, .int .i64 1] 33)
  have B6 := Lib.hid (below2Z B5.out b6')
  have H6 := Lib.hid (H5.out.later b6')
  have F6 := Lib.hid ((H5.out.later b6).far (Nat.le_refl _))
  obtain ⟨x0, x1, x2, x3⟩ := cells4 (cellsAt_made (w := w6) (cs := #[.int .i64 9, .int .i64 1, .int .i64 0, .int .i64 1]) (vs := slVals ⟨9, 1, 0, 1⟩) rfl 33 rfl)
  have X6 := Lib.hid x0
  have L6 := Lib.hid (show w6.heap.size < (w6.alloc (.cells #[.int .i64 9, .int .i64 1, .int .i64 0, .int .i64 1] 33)).heap.size by simp)
  clear b6 b6' x0 x1 x2 x3
  go_wp2_with fail
  generalize hW6 : w6.alloc (.cells #[.int .i64 9, .int .i64 1, .int .i64 0, .int .i64 1] 33) = w7 at B6 H6 X6 L6 ⊢
  clear hW6
  go_wp2_with fail
  refine (hp_get H6.out 3 (by decide) (q := 1) (by decide) (i := 3) (r0 := 1) (r1 := 0) (r2 := 0) rfl).mono ?_
  rintro e w8 ⟨rfl, b8⟩
  have b8' := bl_allocZ b8 (.cells #[.int .i64 1, .int .i64 0, .int .i64 0] 31)
  have B8 := Lib.hid (below2Z B6.out b8')
  have H8 := Lib.hid (H6.out.later b8')
  have F8 := Lib.hid ((H6.out.later b8).far (Nat.le_refl _))
  have X8 := Lib.hid (cellLaterZ X6.out b8')
  have L8 := Lib.hid (Nat.lt_of_lt_of_le L6.out b8'.size)
  have y0 : (w8.alloc (.cells #[.int .i64 1, .int .i64 0, .int .i64 0] 31)).cell? ⟨w8.heap.size, 0, none⟩ = some (.int .i64 1) := by simp
  have y1 : (w8.alloc (.cells #[.int .i64 1, .int .i64 0, .int .i64 0] 31)).cell? ⟨w8.heap.size, 1, none⟩ = some (.int .i64 0) := by simp
  have y2 : (w8.alloc (.cells #[.int .i64 1, .int .i64 0, .int .i64 0] 31)).cell? ⟨w8.heap.size, 2, none⟩ = some (.int .i64 0) := by simp
  have Y0 := Lib.hid y0
  have Y1 := Lib.hid y1
  have Y2 := Lib.hid y2
  have M8 := Lib.hid (show w8.heap.size < (w8.alloc (.cells #[.int .i64 1, .int .i64 0, .int .i64 0] 31)).heap.size by simp)
  clear b8 b8' y0 y1 y2 X6 L6
  go_wp2_with fail
  generalize hW8 : w8.alloc (.cells #[.int .i64 1, .int .i64 0, .int .i64 0] 31) = w9 at B8 H8 X8 L8 Y0 Y1 Y2 M8 ⊢
  clear hW8
  go_wp2_with fail
  refine (hp_drop H8.out 9 (by decide) (r := true) (by decide)).mono ?_
  rintro e w10 ⟨v10, rfl, h10, t10⟩
  have B10 := Lib.hid (below_turn B8.out t10)
  have H10 := Lib.hid (show HpAt w10 w.heap.size B v10 M [⟨5, 1, 0, 0⟩, ⟨3, 1, 0, 0⟩] from h10)
  obtain ⟨f6, e6⟩ := t10.far L8.out F6.out
  obtain ⟨f8, e8⟩ := t10.far M8.out F8.out
  have X10 := Lib.hid ((World.cell?_of_block (a := ⟨w6.heap.size, 0, none⟩) e6).trans X8.out)
  have Z0 := Lib.hid ((World.cell?_of_block (a := ⟨w8.heap.size, 0, none⟩) e8).trans Y0.out)
  have Z1 := Lib.hid ((World.cell?_of_block (a := ⟨w8.heap.size, 1, none⟩) e8).trans Y1.out)
  have Z2 := Lib.hid ((World.cell?_of_block (a := ⟨w8.heap.size, 2, none⟩) e8).trans Y2.out)
  have L10 := Lib.hid (Nat.lt_of_lt_of_le L8.out t10.turn.size)
  have M10 := Lib.hid (Nat.lt_of_lt_of_le M8.out t10.turn.size)
  have G6 := Lib.hid f6
  have G8 := Lib.hid f8
  clear h10 t10 f6 e6 f8 e8 F6 F8 X8 Y0 Y1 Y2 L8 M8
  go_wp2_with fail
  refine (hp_top H10.out (i := 3) (r0 := 1) (r1 := 0) (r2 := 0) (by unfold IsTop; decide)).mono ?_
  rintro e w11 ⟨rfl, b11⟩
  have b11' := bl_allocZ b11 (.cells #[.int .i64 3, .int .i64 1, .int .i64 0, .int .i64 0] 33)
  have B11 := Lib.hid (below2Z B10.out b11')
  have H11 := Lib.hid (H10.out.later b11')
  have F11 := Lib.hid ((H10.out.later b11).far (Nat.le_refl _))
  have X11 := Lib.hid (cellLaterZ X10.out b11')
  have U0 := Lib.hid (cellLaterZ Z0.out b11')
  have U1 := Lib.hid (cellLaterZ Z1.out b11')
  have U2 := Lib.hid (cellLaterZ Z2.out b11')
  have v0' : (w11.alloc (.cells #[.int .i64 3, .int .i64 1, .int .i64 0, .int .i64 0] 33)).cell? ⟨w11.heap.size, 0, none⟩ = some (.int .i64 3) := by simp
  have V0 := Lib.hid v0'
  have L11 := Lib.hid (Nat.lt_of_lt_of_le L10.out b11'.size)
  have M11 := Lib.hid (Nat.lt_of_lt_of_le M10.out b11'.size)
  have N11 := Lib.hid (show w11.heap.size < (w11.alloc (.cells #[.int .i64 3, .int .i64 1, .int .i64 0, .int .i64 0] 33)).heap.size by simp)
  clear b11 b11' v0' X10 Z0 Z1 Z2
  go_wp2_with fail
  generalize hW11 : w11.alloc (.cells #[.int .i64 3, .int .i64 1, .int .i64 0, .int .i64 0] 33) = w12 at B11 H11 X11 U0 U1 U2 V0 L11 M11 N11 ⊢
  clear hW11
  go_wp2_with fail
  refine (hp_drop H11.out 9 (by decide) (r := false) (by decide)).mono ?_
  rintro e w13 ⟨v13, rfl, h13, t13⟩
  have B13 := Lib.hid (below_turn B11.out t13)
  have H13 := Lib.hid (show HpAt w13 w.heap.size B v13 M [⟨5, 1, 0, 0⟩, ⟨3, 1, 0, 0⟩] from h13)
  have x13 := (World.cell?_of_block (a := ⟨w6.heap.size, 0, none⟩) (t13.far L11.out G6.out).2).trans X11.out
  have z0 := (World.cell?_of_block (a := ⟨w8.heap.size, 0, none⟩) (t13.far M11.out G8.out).2).trans U0.out
  have z1 := (World.cell?_of_block (a := ⟨w8.heap.size, 1, none⟩) (t13.far M11.out G8.out).2).trans U1.out
  have z2 := (World.cell?_of_block (a := ⟨w8.heap.size, 2, none⟩) (t13.far M11.out G8.out).2).trans U2.out
  have u0 := (World.cell?_of_block (a := ⟨w11.heap.size, 0, none⟩) (t13.far N11.out F11.out).2).trans V0.out
  clear h13 t13 H11 H10
  go_wp2_with fail
  refine (hp_len H13.out (n := 2) rfl).mono ?_
  rintro e w14 ⟨rfl, rfl⟩
  go_wp2_with fail
  refine (hp_slots H13.out (n := 2) rfl).mono ?_
  rintro e w14 ⟨sa, sc, rfl, b14⟩
  have B14 := Lib.hid (below2Z B13.out b14)
  clear b14 x13 z0 z1 z2 u0
  have y1 := better_any 1 0 0 0 2 0 0 0
  have y2 := better_any 2 0 0 0 1 0 0 0
  rw [show slBet ⟨1, 0, 0, 0⟩ ⟨2, 0, 0, 0⟩ = true by decide] at y1
  rw [show slBet ⟨2, 0, 0, 0⟩ ⟨1, 0, 0, 0⟩ = false by decide] at y2
  have Y1 := Lib.hid y1
  have Y2 := Lib.hid y2
  clear y1 y2
  go_wp2_with fail
  refine (Y1.out _).mono ?_
  rintro e w15 ⟨rfl, b15⟩
  have B15 := Lib.hid (below2Z B14.out b15)
  clear b15
  go_wp2_with fail
  refine (Y2.out _).mono ?_
  rintro e w16 ⟨rfl, b16⟩
  have B16 := Lib.hid (below2Z B15.out b16)
  clear b16
  go_wp2_with fail
  go_ret
  exact ⟨rfl, B16.out⟩

end Go.Proofs.Ytocljhbkjengpaa
