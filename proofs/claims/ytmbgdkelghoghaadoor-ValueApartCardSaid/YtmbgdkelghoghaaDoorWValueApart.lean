/-
  THE WALK OF ValueApart, out of the contracts.
-/
import Derived.Test.YtmbgdkelghoghaaDoorWValueTakes
namespace Go.Proofs.YtmbgdkelghoghaaDoor
open Go.RowKit

theorem val_diff {a b c a' b' c' : Int} {s s' : List UInt8} (h : ¬ (⟨a, b, c, s⟩ : Val) = ⟨a', b', c', s'⟩) (w : World) :
    (binOp .eql 23 (.agg #[.int .i64 a, .int .i64 b, .int .i64 c, .string ⟨s.toArray⟩]) (.agg #[.int .i64 a', .int .i64 b', .int .i64 c', .string ⟨s'.toArray⟩])).run Tryd.prog w = .ok (.bool false) w := by
  rw [val_eql, show vaEq ⟨a, b, c, s⟩ ⟨a', b', c', s'⟩ = false by rw [Bool.eq_false_iff]; exact fun e => h (vaEq_iff.1 e)]

theorem vaSay_len {n : Int} {u : List UInt8} {r : Bool} (h : vaSay n = (u, r)) : u.length ≤ 6 := by
  unfold vaSay at h
  by_cases hn : n < 0 ∨ 4 < n
  · rw [if_pos hn] at h
    simp only [Prod.mk.injEq] at h
    rw [← h.1]; simp
  · rw [if_neg hn] at h
    simp only [Prod.mk.injEq] at h
    have : n = 0 ∨ n = 1 ∨ n = 2 ∨ n = 3 ∨ n = 4 := by omega
    rcases this with rfl | rfl | rfl | rfl | rfl <;> rw [← h.1] <;> decide

/-- Two new blocks of four cells, and whatever came behind them. -/
theorem two_boxes {w w1 : World} {a b c d x y z u : Value} {t1 t2 : TypeId}
    (hb : Below ((w.alloc (.cells #[a, b, c, d] t1)).alloc (.cells #[x, y, z, u] t2)).heap.size ((w.alloc (.cells #[a, b, c, d] t1)).alloc (.cells #[x, y, z, u] t2)) w1) :
    (w1.cell? ⟨w.heap.size, 0, none⟩ = some a ∧ w1.cell? ⟨w.heap.size, 1, none⟩ = some b ∧ w1.cell? ⟨w.heap.size, 2, none⟩ = some c ∧ w1.cell? ⟨w.heap.size, 3, none⟩ = some d) ∧
    (w1.cell? ⟨w.heap.size + 1, 0, none⟩ = some x ∧ w1.cell? ⟨w.heap.size + 1, 1, none⟩ = some y ∧ w1.cell? ⟨w.heap.size + 1, 2, none⟩ = some z ∧ w1.cell? ⟨w.heap.size + 1, 3, none⟩ = some u) ∧ Below w.heap.size w w1 := by
  have h := two_blocks (w := w) (w1 := w1) (a := a) (b := b) (c := c) (d := d) (x := x) (y := y) (z := z) (u := u) (t1 := t1) (t2 := t2) ⟨hb.os, hb.tape, hb.output, hb.size, hb.block⟩
  exact ⟨h.1, h.2.2.1, h.2.2.2⟩

set_option maxHeartbeats 1600000 in
set_option maxRecDepth 1000000 in
theorem apart_n1_yes {w : World} (hL : Laid w) (a b c : Int) (l : List UInt8) (hl : l.length ≤ 300) (a2 b2 c2 : Int) (l2 : List UInt8) (hl2 : l2.length ≤ 300) (n : Int) {u : List UInt8} {m : Nat}
    (hm : vaMay ⟨a, b, c, l⟩ = false) (hs : vaSay n = (u, true)) (hh : vaHear u = (m, true)) (hn : n = (m : Int)) :
    Calls Tryd.prog 6 #[.agg #[.int .i64 a, .int .i64 b, .int .i64 c, .string ⟨l.toArray⟩], .agg #[.int .i64 a2, .int .i64 b2, .int .i64 c2, .string ⟨l2.toArray⟩], .int .i64 n] w fun e w' => e = .returned (.bool true) ∧ Below w.heap.size w w' := by
  obtain ⟨t, hP⟩ : ∃ t, Hid (vaPut ⟨a, b, c, l⟩ = t) := ⟨_, rfl⟩
  have HM := Lib.hid hm
  obtain ⟨t2, hP2⟩ : ∃ t, Hid (vaPut ⟨a2, b2, c2, l2⟩ = t) := ⟨_, rfl⟩
  obtain ⟨r2, HM2⟩ : ∃ r, Hid (vaMay ⟨a2, b2, c2, l2⟩ = r) := ⟨_, rfl⟩
  clear hm
  subst hn
  have hul : u.length ≤ 6 := vaSay_len hs
  have HS := Lib.hid hs
  have HH := Lib.hid hh
  have hgd : Tryd.prog.eqGuardType Tryd.prog.depth 23 = false := by kernel_rfl
  clear hs hh
  go_enter Tryd.func6, Tryd.ntmps6
  go_wp2_with fail
  refine (vaput_any a b c l (by omega) hP HM _).mono ?_
  rintro e w1 ⟨rfl, hb1⟩
  obtain ⟨c1, c2', hB⟩ := two_boxes hb1
  have B1 := Lib.hid hB
  have K1 := Lib.hid c1
  have J1 := Lib.hid c2'
  clear hb1 c1 c2' hB
  obtain ⟨k0, k1, k2, k3⟩ := K1.out
  obtain ⟨j0, j1, j2, j3⟩ := J1.out
  have hz := World.block_lt_of_cell? w1 _ j0
  simp only at hz
  go_wp2_with fail
  refine (vaput_any a2 b2 c2 l2 (by omega) hP2 HM2 _).mono ?_
  rintro e w2 ⟨rfl, hb2⟩
  have B2 := Lib.hid (below2' B1.out hb2)
  have K2 := keep4 hb2 K1.out
  have J2 := keep4 hb2 J1.out
  clear hb2 B1 K1 J1 k0 k1 k2 k3 j0 j1 j2 j3 hz
  obtain ⟨k0, k1, k2, k3⟩ := K2
  obtain ⟨j0, j1, j2, j3⟩ := J2
  have hz := World.block_lt_of_cell? w2 _ j0
  simp only at hz
  have HL := Lib.hid (hL.later B2.out)
  clear hL
  go_wp2_with fail
  refine (say_any _ HS _ HL.out).mono ?_
  rintro e w' ⟨rfl, rfl⟩
  go_wp2_with fail
  refine (hear_any _ (by omega) HH _ HL.out).mono ?_
  rintro e w' ⟨rfl, rfl⟩
  go_wp2_with fail
  refine (live4 _ HL.out).mono ?_
  rintro e w3 ⟨rfl, hb3⟩
  have B3 := Lib.hid (below2' B2.out hb3)
  clear hb3 k0 k1 k2 k3 j0 j1 j2 j3 hz
  go_wp2_with fail
  go_ret
  exact ⟨rfl, B3.out⟩

set_option maxHeartbeats 1600000 in
set_option maxRecDepth 1000000 in
theorem apart_n1_no {w : World} (hL : Laid w) (a b c : Int) (l : List UInt8) (hl : l.length ≤ 300) (a2 b2 c2 : Int) (l2 : List UInt8) (hl2 : l2.length ≤ 300) (n : Int) 
    (hm : vaMay ⟨a, b, c, l⟩ = false) (hs : vaSay n = ([], false)) (hh : vaHear [] = (0, false)) :
    Calls Tryd.prog 6 #[.agg #[.int .i64 a, .int .i64 b, .int .i64 c, .string ⟨l.toArray⟩], .agg #[.int .i64 a2, .int .i64 b2, .int .i64 c2, .string ⟨l2.toArray⟩], .int .i64 n] w fun e w' => e = .returned (.bool true) ∧ Below w.heap.size w w' := by
  obtain ⟨t, hP⟩ : ∃ t, Hid (vaPut ⟨a, b, c, l⟩ = t) := ⟨_, rfl⟩
  have HM := Lib.hid hm
  obtain ⟨t2, hP2⟩ : ∃ t, Hid (vaPut ⟨a2, b2, c2, l2⟩ = t) := ⟨_, rfl⟩
  obtain ⟨r2, HM2⟩ : ∃ r, Hid (vaMay ⟨a2, b2, c2, l2⟩ = r) := ⟨_, rfl⟩
  clear hm
  have HS := Lib.hid hs
  have HH := Lib.hid hh
  have hgd : Tryd.prog.eqGuardType Tryd.prog.depth 23 = false := by kernel_rfl
  clear hs hh
  go_enter Tryd.func6, Tryd.ntmps6
  go_wp2_with fail
  refine (vaput_any a b c l (by omega) hP HM _).mono ?_
  rintro e w1 ⟨rfl, hb1⟩
  obtain ⟨c1, c2', hB⟩ := two_boxes hb1
  have B1 := Lib.hid hB
  have K1 := Lib.hid c1
  have J1 := Lib.hid c2'
  clear hb1 c1 c2' hB
  obtain ⟨k0, k1, k2, k3⟩ := K1.out
  obtain ⟨j0, j1, j2, j3⟩ := J1.out
  have hz := World.block_lt_of_cell? w1 _ j0
  simp only at hz
  go_wp2_with fail
  refine (vaput_any a2 b2 c2 l2 (by omega) hP2 HM2 _).mono ?_
  rintro e w2 ⟨rfl, hb2⟩
  have B2 := Lib.hid (below2' B1.out hb2)
  have K2 := keep4 hb2 K1.out
  have J2 := keep4 hb2 J1.out
  clear hb2 B1 K1 J1 k0 k1 k2 k3 j0 j1 j2 j3 hz
  obtain ⟨k0, k1, k2, k3⟩ := K2
  obtain ⟨j0, j1, j2, j3⟩ := J2
  have hz := World.block_lt_of_cell? w2 _ j0
  simp only at hz
  have HL := Lib.hid (hL.later B2.out)
  clear hL
  go_wp2_with fail
  refine (say_any _ HS _ HL.out).mono ?_
  rintro e w' ⟨rfl, rfl⟩
  go_wp2_with fail
  refine (hear_any _ (by decide) HH _ HL.out).mono ?_
  rintro e w' ⟨rfl, rfl⟩
  go_wp2_with fail
  refine (live4 _ HL.out).mono ?_
  rintro e w3 ⟨rfl, hb3⟩
  have B3 := Lib.hid (below2' B2.out hb3)
  clear hb3 k0 k1 k2 k3 j0 j1 j2 j3 hz
  go_wp2_with fail
  go_ret
  exact ⟨rfl, B3.out⟩

set_option maxHeartbeats 1600000 in
set_option maxRecDepth 1000000 in
theorem apart_n2_yes {w : World} (hL : Laid w) (a b c : Int) (l : List UInt8) (hl : l.length ≤ 300) (a2 b2 c2 : Int) (l2 : List UInt8) (hl2 : l2.length ≤ 300) (n : Int) {u : List UInt8} {m : Nat}
    (hm : vaMay ⟨a, b, c, l⟩ = true) (hm2 : vaMay ⟨a2, b2, c2, l2⟩ = false) (hs : vaSay n = (u, true)) (hh : vaHear u = (m, true)) (hn : n = (m : Int)) :
    Calls Tryd.prog 6 #[.agg #[.int .i64 a, .int .i64 b, .int .i64 c, .string ⟨l.toArray⟩], .agg #[.int .i64 a2, .int .i64 b2, .int .i64 c2, .string ⟨l2.toArray⟩], .int .i64 n] w fun e w' => e = .returned (.bool true) ∧ Below w.heap.size w w' := by
  obtain ⟨t, hP⟩ : ∃ t, Hid (vaPut ⟨a, b, c, l⟩ = t) := ⟨_, rfl⟩
  have HM := Lib.hid hm
  obtain ⟨t2, hP2⟩ : ∃ t, Hid (vaPut ⟨a2, b2, c2, l2⟩ = t) := ⟨_, rfl⟩
  have HM2 := Lib.hid hm2
  clear hm hm2
  subst hn
  have hul : u.length ≤ 6 := vaSay_len hs
  have HS := Lib.hid hs
  have HH := Lib.hid hh
  have hgd : Tryd.prog.eqGuardType Tryd.prog.depth 23 = false := by kernel_rfl
  clear hs hh
  go_enter Tryd.func6, Tryd.ntmps6
  go_wp2_with fail
  refine (vaput_any a b c l (by omega) hP HM _).mono ?_
  rintro e w1 ⟨rfl, hb1⟩
  obtain ⟨c1, c2', hB⟩ := two_boxes hb1
  have B1 := Lib.hid hB
  have K1 := Lib.hid c1
  have J1 := Lib.hid c2'
  clear hb1 c1 c2' hB
  obtain ⟨k0, k1, k2, k3⟩ := K1.out
  obtain ⟨j0, j1, j2, j3⟩ := J1.out
  have hz := World.block_lt_of_cell? w1 _ j0
  simp only at hz
  go_wp2_with fail
  refine (vaput_any a2 b2 c2 l2 (by omega) hP2 HM2 _).mono ?_
  rintro e w2 ⟨rfl, hb2⟩
  have B2 := Lib.hid (below2' B1.out hb2)
  have K2 := keep4 hb2 K1.out
  have J2 := keep4 hb2 J1.out
  clear hb2 B1 K1 J1 k0 k1 k2 k3 j0 j1 j2 j3 hz
  obtain ⟨k0, k1, k2, k3⟩ := K2
  obtain ⟨j0, j1, j2, j3⟩ := J2
  have hz := World.block_lt_of_cell? w2 _ j0
  simp only at hz
  have HL := Lib.hid (hL.later B2.out)
  clear hL
  go_wp2_with fail
  refine (say_any _ HS _ HL.out).mono ?_
  rintro e w' ⟨rfl, rfl⟩
  go_wp2_with fail
  refine (hear_any _ (by omega) HH _ HL.out).mono ?_
  rintro e w' ⟨rfl, rfl⟩
  go_wp2_with fail
  refine (live4 _ HL.out).mono ?_
  rintro e w3 ⟨rfl, hb3⟩
  have B3 := Lib.hid (below2' B2.out hb3)
  clear hb3 k0 k1 k2 k3 j0 j1 j2 j3 hz
  go_wp2_with fail
  go_ret
  exact ⟨rfl, B3.out⟩

set_option maxHeartbeats 1600000 in
set_option maxRecDepth 1000000 in
theorem apart_n2_no {w : World} (hL : Laid w) (a b c : Int) (l : List UInt8) (hl : l.length ≤ 300) (a2 b2 c2 : Int) (l2 : List UInt8) (hl2 : l2.length ≤ 300) (n : Int) 
    (hm : vaMay ⟨a, b, c, l⟩ = true) (hm2 : vaMay ⟨a2, b2, c2, l2⟩ = false) (hs : vaSay n = ([], false)) (hh : vaHear [] = (0, false)) :
    Calls Tryd.prog 6 #[.agg #[.int .i64 a, .int .i64 b, .int .i64 c, .string ⟨l.toArray⟩], .agg #[.int .i64 a2, .int .i64 b2, .int .i64 c2, .string ⟨l2.toArray⟩], .int .i64 n] w fun e w' => e = .returned (.bool true) ∧ Below w.heap.size w w' := by
  obtain ⟨t, hP⟩ : ∃ t, Hid (vaPut ⟨a, b, c, l⟩ = t) := ⟨_, rfl⟩
  have HM := Lib.hid hm
  obtain ⟨t2, hP2⟩ : ∃ t, Hid (vaPut ⟨a2, b2, c2, l2⟩ = t) := ⟨_, rfl⟩
  have HM2 := Lib.hid hm2
  clear hm hm2
  have HS := Lib.hid hs
  have HH := Lib.hid hh
  have hgd : Tryd.prog.eqGuardType Tryd.prog.depth 23 = false := by kernel_rfl
  clear hs hh
  go_enter Tryd.func6, Tryd.ntmps6
  go_wp2_with fail
  refine (vaput_any a b c l (by omega) hP HM _).mono ?_
  rintro e w1 ⟨rfl, hb1⟩
  obtain ⟨c1, c2', hB⟩ := two_boxes hb1
  have B1 := Lib.hid hB
  have K1 := Lib.hid c1
  have J1 := Lib.hid c2'
  clear hb1 c1 c2' hB
  obtain ⟨k0, k1, k2, k3⟩ := K1.out
  obtain ⟨j0, j1, j2, j3⟩ := J1.out
  have hz := World.block_lt_of_cell? w1 _ j0
  simp only at hz
  go_wp2_with fail
  refine (vaput_any a2 b2 c2 l2 (by omega) hP2 HM2 _).mono ?_
  rintro e w2 ⟨rfl, hb2⟩
  have B2 := Lib.hid (below2' B1.out hb2)
  have K2 := keep4 hb2 K1.out
  have J2 := keep4 hb2 J1.out
  clear hb2 B1 K1 J1 k0 k1 k2 k3 j0 j1 j2 j3 hz
  obtain ⟨k0, k1, k2, k3⟩ := K2
  obtain ⟨j0, j1, j2, j3⟩ := J2
  have hz := World.block_lt_of_cell? w2 _ j0
  simp only at hz
  have HL := Lib.hid (hL.later B2.out)
  clear hL
  go_wp2_with fail
  refine (say_any _ HS _ HL.out).mono ?_
  rintro e w' ⟨rfl, rfl⟩
  go_wp2_with fail
  refine (hear_any _ (by decide) HH _ HL.out).mono ?_
  rintro e w' ⟨rfl, rfl⟩
  go_wp2_with fail
  refine (live4 _ HL.out).mono ?_
  rintro e w3 ⟨rfl, hb3⟩
  have B3 := Lib.hid (below2' B2.out hb3)
  clear hb3 k0 k1 k2 k3 j0 j1 j2 j3 hz
  go_wp2_with fail
  go_ret
  exact ⟨rfl, B3.out⟩

set_option maxHeartbeats 1600000 in
set_option maxRecDepth 1000000 in
theorem apart_same_yes {w : World} (hL : Laid w) (a b c : Int) (l : List UInt8) (hl : l.length ≤ 300) (a2 b2 c2 : Int) (l2 : List UInt8) (hl2 : l2.length ≤ 300) (n : Int) {u : List UInt8} {m : Nat}
    (hm : vaMay ⟨a, b, c, l⟩ = true) (h : (⟨a, b, c, l⟩ : Val) = ⟨a2, b2, c2, l2⟩) (hs : vaSay n = (u, true)) (hh : vaHear u = (m, true)) (hn : n = (m : Int)) :
    Calls Tryd.prog 6 #[.agg #[.int .i64 a, .int .i64 b, .int .i64 c, .string ⟨l.toArray⟩], .agg #[.int .i64 a2, .int .i64 b2, .int .i64 c2, .string ⟨l2.toArray⟩], .int .i64 n] w fun e w' => e = .returned (.bool true) ∧ Below w.heap.size w w' := by
  simp only [Val.mk.injEq] at h
  obtain ⟨rfl, rfl, rfl, rfl⟩ := h
  obtain ⟨t, hP⟩ : ∃ t, Hid (vaPut ⟨a, b, c, l⟩ = t) := ⟨_, rfl⟩
  have HM := Lib.hid hm
  have hP2 := hP
  have HM2 := HM
  have heq := val_same a b c l
  clear hm
  subst hn
  have hul : u.length ≤ 6 := vaSay_len hs
  have HS := Lib.hid hs
  have HH := Lib.hid hh
  have hgd : Tryd.prog.eqGuardType Tryd.prog.depth 23 = false := by kernel_rfl
  clear hs hh
  go_enter Tryd.func6, Tryd.ntmps6
  go_wp2_with fail
  refine (vaput_any a b c l (by omega) hP HM _).mono ?_
  rintro e w1 ⟨rfl, hb1⟩
  obtain ⟨c1, c2', hB⟩ := two_boxes hb1
  have B1 := Lib.hid hB
  have K1 := Lib.hid c1
  have J1 := Lib.hid c2'
  clear hb1 c1 c2' hB
  obtain ⟨k0, k1, k2, k3⟩ := K1.out
  obtain ⟨j0, j1, j2, j3⟩ := J1.out
  have hz := World.block_lt_of_cell? w1 _ j0
  simp only at hz
  go_wp2_with fail
  refine (vaput_any a b c l (by omega) hP2 HM2 _).mono ?_
  rintro e w2 ⟨rfl, hb2⟩
  have B2 := Lib.hid (below2' B1.out hb2)
  have K2 := keep4 hb2 K1.out
  have J2 := keep4 hb2 J1.out
  clear hb2 B1 K1 J1 k0 k1 k2 k3 j0 j1 j2 j3 hz
  obtain ⟨k0, k1, k2, k3⟩ := K2
  obtain ⟨j0, j1, j2, j3⟩ := J2
  have hz := World.block_lt_of_cell? w2 _ j0
  simp only at hz
  have HL := Lib.hid (hL.later B2.out)
  clear hL
  go_wp2_with fail
  refine (say_any _ HS _ HL.out).mono ?_
  rintro e w' ⟨rfl, rfl⟩
  go_wp2_with fail
  refine (hear_any _ (by omega) HH _ HL.out).mono ?_
  rintro e w' ⟨rfl, rfl⟩
  go_wp2_with fail
  refine (live4 _ HL.out).mono ?_
  rintro e w3 ⟨rfl, hb3⟩
  have B3 := Lib.hid (below2' B2.out hb3)
  clear hb3 k0 k1 k2 k3 j0 j1 j2 j3 hz
  go_wp2_with fail
  go_ret
  exact ⟨rfl, B3.out⟩

set_option maxHeartbeats 1600000 in
set_option maxRecDepth 1000000 in
theorem apart_same_no {w : World} (hL : Laid w) (a b c : Int) (l : List UInt8) (hl : l.length ≤ 300) (a2 b2 c2 : Int) (l2 : List UInt8) (hl2 : l2.length ≤ 300) (n : Int) 
    (hm : vaMay ⟨a, b, c, l⟩ = true) (h : (⟨a, b, c, l⟩ : Val) = ⟨a2, b2, c2, l2⟩) (hs : vaSay n = ([], false)) (hh : vaHear [] = (0, false)) :
    Calls Tryd.prog 6 #[.agg #[.int .i64 a, .int .i64 b, .int .i64 c, .string ⟨l.toArray⟩], .agg #[.int .i64 a2, .int .i64 b2, .int .i64 c2, .string ⟨l2.toArray⟩], .int .i64 n] w fun e w' => e = .returned (.bool true) ∧ Below w.heap.size w w' := by
  simp only [Val.mk.injEq] at h
  obtain ⟨rfl, rfl, rfl, rfl⟩ := h
  obtain ⟨t, hP⟩ : ∃ t, Hid (vaPut ⟨a, b, c, l⟩ = t) := ⟨_, rfl⟩
  have HM := Lib.hid hm
  have hP2 := hP
  have HM2 := HM
  have heq := val_same a b c l
  clear hm
  have HS := Lib.hid hs
  have HH := Lib.hid hh
  have hgd : Tryd.prog.eqGuardType Tryd.prog.depth 23 = false := by kernel_rfl
  clear hs hh
  go_enter Tryd.func6, Tryd.ntmps6
  go_wp2_with fail
  refine (vaput_any a b c l (by omega) hP HM _).mono ?_
  rintro e w1 ⟨rfl, hb1⟩
  obtain ⟨c1, c2', hB⟩ := two_boxes hb1
  have B1 := Lib.hid hB
  have K1 := Lib.hid c1
  have J1 := Lib.hid c2'
  clear hb1 c1 c2' hB
  obtain ⟨k0, k1, k2, k3⟩ := K1.out
  obtain ⟨j0, j1, j2, j3⟩ := J1.out
  have hz := World.block_lt_of_cell? w1 _ j0
  simp only at hz
  go_wp2_with fail
  refine (vaput_any a b c l (by omega) hP2 HM2 _).mono ?_
  rintro e w2 ⟨rfl, hb2⟩
  have B2 := Lib.hid (below2' B1.out hb2)
  have K2 := keep4 hb2 K1.out
  have J2 := keep4 hb2 J1.out
  clear hb2 B1 K1 J1 k0 k1 k2 k3 j0 j1 j2 j3 hz
  obtain ⟨k0, k1, k2, k3⟩ := K2
  obtain ⟨j0, j1, j2, j3⟩ := J2
  have hz := World.block_lt_of_cell? w2 _ j0
  simp only at hz
  have HL := Lib.hid (hL.later B2.out)
  clear hL
  go_wp2_with fail
  refine (say_any _ HS _ HL.out).mono ?_
  rintro e w' ⟨rfl, rfl⟩
  go_wp2_with fail
  refine (hear_any _ (by decide) HH _ HL.out).mono ?_
  rintro e w' ⟨rfl, rfl⟩
  go_wp2_with fail
  refine (live4 _ HL.out).mono ?_
  rintro e w3 ⟨rfl, hb3⟩
  have B3 := Lib.hid (below2' B2.out hb3)
  clear hb3 k0 k1 k2 k3 j0 j1 j2 j3 hz
  go_wp2_with fail
  go_ret
  exact ⟨rfl, B3.out⟩

set_option maxHeartbeats 1600000 in
set_option maxRecDepth 1000000 in
theorem apart_lt_yes {w : World} (hL : Laid w) (a b c : Int) (l : List UInt8) (hl : l.length ≤ 300) (a2 b2 c2 : Int) (l2 : List UInt8) (hl2 : l2.length ≤ 300) (n : Int) {u : List UInt8} {m : Nat}
    (hm : vaMay ⟨a, b, c, l⟩ = true) (hm2 : vaMay ⟨a2, b2, c2, l2⟩ = true) (h : ¬ (⟨a, b, c, l⟩ : Val) = ⟨a2, b2, c2, l2⟩) (hlt : (vaBytes ⟨a, b, c, l⟩).length < (vaBytes ⟨a2, b2, c2, l2⟩).length) (hs : vaSay n = (u, true)) (hh : vaHear u = (m, true)) (hn : n = (m : Int)) :
    Calls Tryd.prog 6 #[.agg #[.int .i64 a, .int .i64 b, .int .i64 c, .string ⟨l.toArray⟩], .agg #[.int .i64 a2, .int .i64 b2, .int .i64 c2, .string ⟨l2.toArray⟩], .int .i64 n] w fun e w' => e = .returned (.bool true) ∧ Below w.heap.size w w' := by
  have hne := vaBytes_prefix hm hm2 hlt
  have hne2 : ¬ vaBytes ⟨a, b, c, l⟩ = vaBytes ⟨a2, b2, c2, l2⟩ := fun e => h (vaBytes_inj hm hm2 e)
  obtain ⟨t, ht⟩ : ∃ t, vaBytes ⟨a, b, c, l⟩ = t := ⟨_, rfl⟩
  obtain ⟨t2, ht2⟩ : ∃ t, vaBytes ⟨a2, b2, c2, l2⟩ = t := ⟨_, rfl⟩
  have hP : Hid (vaPut ⟨a, b, c, l⟩ = t) := by show _ = _; unfold vaPut; rw [if_pos hm, ht]
  have hP2 : Hid (vaPut ⟨a2, b2, c2, l2⟩ = t2) := by show _ = _; unfold vaPut; rw [if_pos hm2, ht2]
  rw [ht, ht2] at hne hne2 hlt
  have HM := Lib.hid hm
  have HM2 := Lib.hid hm2
  have heq := val_diff h
  have b1 : (t == t2) = false := by simpa using hne2
  have b2' : (t2.take t.length == t) = false := by simpa using hne
  have hsl := fun w => run_slice_bytes_to (P := Tryd.prog) w 9 t2 t.length t.length rfl Tryd.underlying9 (by omega)
  clear hm hm2 h hne hne2 ht ht2
  subst hn
  have hul : u.length ≤ 6 := vaSay_len hs
  have HS := Lib.hid hs
  have HH := Lib.hid hh
  have hgd : Tryd.prog.eqGuardType Tryd.prog.depth 23 = false := by kernel_rfl
  clear hs hh
  go_enter Tryd.func6, Tryd.ntmps6
  go_wp2_with fail
  refine (vaput_any a b c l (by omega) hP HM _).mono ?_
  rintro e w1 ⟨rfl, hb1⟩
  obtain ⟨c1, c2', hB⟩ := two_boxes hb1
  have B1 := Lib.hid hB
  have K1 := Lib.hid c1
  have J1 := Lib.hid c2'
  clear hb1 c1 c2' hB
  obtain ⟨k0, k1, k2, k3⟩ := K1.out
  obtain ⟨j0, j1, j2, j3⟩ := J1.out
  have hz := World.block_lt_of_cell? w1 _ j0
  simp only at hz
  go_wp2_with fail
  refine (vaput_any a2 b2 c2 l2 (by omega) hP2 HM2 _).mono ?_
  rintro e w2 ⟨rfl, hb2⟩
  have B2 := Lib.hid (below2' B1.out hb2)
  have K2 := keep4 hb2 K1.out
  have J2 := keep4 hb2 J1.out
  clear hb2 B1 K1 J1 k0 k1 k2 k3 j0 j1 j2 j3 hz
  obtain ⟨k0, k1, k2, k3⟩ := K2
  obtain ⟨j0, j1, j2, j3⟩ := J2
  have hz := World.block_lt_of_cell? w2 _ j0
  simp only at hz
  have HL := Lib.hid (hL.later B2.out)
  clear hL
  go_wp2_with fail
  refine (say_any _ HS _ HL.out).mono ?_
  rintro e w' ⟨rfl, rfl⟩
  go_wp2_with fail
  refine (hear_any _ (by omega) HH _ HL.out).mono ?_
  rintro e w' ⟨rfl, rfl⟩
  go_wp2_with fail
  refine (live4 _ HL.out).mono ?_
  rintro e w3 ⟨rfl, hb3⟩
  have B3 := Lib.hid (below2' B2.out hb3)
  clear hb3 k0 k1 k2 k3 j0 j1 j2 j3 hz
  go_wp2_with fail
  go_ret
  exact ⟨rfl, B3.out⟩

set_option maxHeartbeats 1600000 in
set_option maxRecDepth 1000000 in
theorem apart_lt_no {w : World} (hL : Laid w) (a b c : Int) (l : List UInt8) (hl : l.length ≤ 300) (a2 b2 c2 : Int) (l2 : List UInt8) (hl2 : l2.length ≤ 300) (n : Int) 
    (hm : vaMay ⟨a, b, c, l⟩ = true) (hm2 : vaMay ⟨a2, b2, c2, l2⟩ = true) (h : ¬ (⟨a, b, c, l⟩ : Val) = ⟨a2, b2, c2, l2⟩) (hlt : (vaBytes ⟨a, b, c, l⟩).length < (vaBytes ⟨a2, b2, c2, l2⟩).length) (hs : vaSay n = ([], false)) (hh : vaHear [] = (0, false)) :
    Calls Tryd.prog 6 #[.agg #[.int .i64 a, .int .i64 b, .int .i64 c, .string ⟨l.toArray⟩], .agg #[.int .i64 a2, .int .i64 b2, .int .i64 c2, .string ⟨l2.toArray⟩], .int .i64 n] w fun e w' => e = .returned (.bool true) ∧ Below w.heap.size w w' := by
  have hne := vaBytes_prefix hm hm2 hlt
  have hne2 : ¬ vaBytes ⟨a, b, c, l⟩ = vaBytes ⟨a2, b2, c2, l2⟩ := fun e => h (vaBytes_inj hm hm2 e)
  obtain ⟨t, ht⟩ : ∃ t, vaBytes ⟨a, b, c, l⟩ = t := ⟨_, rfl⟩
  obtain ⟨t2, ht2⟩ : ∃ t, vaBytes ⟨a2, b2, c2, l2⟩ = t := ⟨_, rfl⟩
  have hP : Hid (vaPut ⟨a, b, c, l⟩ = t) := by show _ = _; unfold vaPut; rw [if_pos hm, ht]
  have hP2 : Hid (vaPut ⟨a2, b2, c2, l2⟩ = t2) := by show _ = _; unfold vaPut; rw [if_pos hm2, ht2]
  rw [ht, ht2] at hne hne2 hlt
  have HM := Lib.hid hm
  have HM2 := Lib.hid hm2
  have heq := val_diff h
  have b1 : (t == t2) = false := by simpa using hne2
  have b2' : (t2.take t.length == t) = false := by simpa using hne
  have hsl := fun w => run_slice_bytes_to (P := Tryd.prog) w 9 t2 t.length t.length rfl Tryd.underlying9 (by omega)
  clear hm hm2 h hne hne2 ht ht2
  have HS := Lib.hid hs
  have HH := Lib.hid hh
  have hgd : Tryd.prog.eqGuardType Tryd.prog.depth 23 = false := by kernel_rfl
  clear hs hh
  go_enter Tryd.func6, Tryd.ntmps6
  go_wp2_with fail
  refine (vaput_any a b c l (by omega) hP HM _).mono ?_
  rintro e w1 ⟨rfl, hb1⟩
  obtain ⟨c1, c2', hB⟩ := two_boxes hb1
  have B1 := Lib.hid hB
  have K1 := Lib.hid c1
  have J1 := Lib.hid c2'
  clear hb1 c1 c2' hB
  obtain ⟨k0, k1, k2, k3⟩ := K1.out
  obtain ⟨j0, j1, j2, j3⟩ := J1.out
  have hz := World.block_lt_of_cell? w1 _ j0
  simp only at hz
  go_wp2_with fail
  refine (vaput_any a2 b2 c2 l2 (by omega) hP2 HM2 _).mono ?_
  rintro e w2 ⟨rfl, hb2⟩
  have B2 := Lib.hid (below2' B1.out hb2)
  have K2 := keep4 hb2 K1.out
  have J2 := keep4 hb2 J1.out
  clear hb2 B1 K1 J1 k0 k1 k2 k3 j0 j1 j2 j3 hz
  obtain ⟨k0, k1, k2, k3⟩ := K2
  obtain ⟨j0, j1, j2, j3⟩ := J2
  have hz := World.block_lt_of_cell? w2 _ j0
  simp only at hz
  have HL := Lib.hid (hL.later B2.out)
  clear hL
  go_wp2_with fail
  refine (say_any _ HS _ HL.out).mono ?_
  rintro e w' ⟨rfl, rfl⟩
  go_wp2_with fail
  refine (hear_any _ (by decide) HH _ HL.out).mono ?_
  rintro e w' ⟨rfl, rfl⟩
  go_wp2_with fail
  refine (live4 _ HL.out).mono ?_
  rintro e w3 ⟨rfl, hb3⟩
  have B3 := Lib.hid (below2' B2.out hb3)
  clear hb3 k0 k1 k2 k3 j0 j1 j2 j3 hz
  go_wp2_with fail
  go_ret
  exact ⟨rfl, B3.out⟩

set_option maxHeartbeats 1600000 in
set_option maxRecDepth 1000000 in
theorem apart_ge_yes {w : World} (hL : Laid w) (a b c : Int) (l : List UInt8) (hl : l.length ≤ 300) (a2 b2 c2 : Int) (l2 : List UInt8) (hl2 : l2.length ≤ 300) (n : Int) {u : List UInt8} {m : Nat}
    (hm : vaMay ⟨a, b, c, l⟩ = true) (hm2 : vaMay ⟨a2, b2, c2, l2⟩ = true) (h : ¬ (⟨a, b, c, l⟩ : Val) = ⟨a2, b2, c2, l2⟩) (hlt : (vaBytes ⟨a2, b2, c2, l2⟩).length ≤ (vaBytes ⟨a, b, c, l⟩).length) (hs : vaSay n = (u, true)) (hh : vaHear u = (m, true)) (hn : n = (m : Int)) :
    Calls Tryd.prog 6 #[.agg #[.int .i64 a, .int .i64 b, .int .i64 c, .string ⟨l.toArray⟩], .agg #[.int .i64 a2, .int .i64 b2, .int .i64 c2, .string ⟨l2.toArray⟩], .int .i64 n] w fun e w' => e = .returned (.bool true) ∧ Below w.heap.size w w' := by
  have hne2 : ¬ vaBytes ⟨a, b, c, l⟩ = vaBytes ⟨a2, b2, c2, l2⟩ := fun e => h (vaBytes_inj hm hm2 e)
  obtain ⟨t, ht⟩ : ∃ t, vaBytes ⟨a, b, c, l⟩ = t := ⟨_, rfl⟩
  obtain ⟨t2, ht2⟩ : ∃ t, vaBytes ⟨a2, b2, c2, l2⟩ = t := ⟨_, rfl⟩
  have hP : Hid (vaPut ⟨a, b, c, l⟩ = t) := by show _ = _; unfold vaPut; rw [if_pos hm, ht]
  have hP2 : Hid (vaPut ⟨a2, b2, c2, l2⟩ = t2) := by show _ = _; unfold vaPut; rw [if_pos hm2, ht2]
  rw [ht, ht2] at hne2 hlt
  have HM := Lib.hid hm
  have HM2 := Lib.hid hm2
  have heq := val_diff h
  have b1 : (t == t2) = false := by simpa using hne2
  clear hm hm2 h hne2 ht ht2
  subst hn
  have hul : u.length ≤ 6 := vaSay_len hs
  have HS := Lib.hid hs
  have HH := Lib.hid hh
  have hgd : Tryd.prog.eqGuardType Tryd.prog.depth 23 = false := by kernel_rfl
  clear hs hh
  go_enter Tryd.func6, Tryd.ntmps6
  go_wp2_with fail
  refine (vaput_any a b c l (by omega) hP HM _).mono ?_
  rintro e w1 ⟨rfl, hb1⟩
  obtain ⟨c1, c2', hB⟩ := two_boxes hb1
  have B1 := Lib.hid hB
  have K1 := Lib.hid c1
  have J1 := Lib.hid c2'
  clear hb1 c1 c2' hB
  obtain ⟨k0, k1, k2, k3⟩ := K1.out
  obtain ⟨j0, j1, j2, j3⟩ := J1.out
  have hz := World.block_lt_of_cell? w1 _ j0
  simp only at hz
  go_wp2_with fail
  refine (vaput_any a2 b2 c2 l2 (by omega) hP2 HM2 _).mono ?_
  rintro e w2 ⟨rfl, hb2⟩
  have B2 := Lib.hid (below2' B1.out hb2)
  have K2 := keep4 hb2 K1.out
  have J2 := keep4 hb2 J1.out
  clear hb2 B1 K1 J1 k0 k1 k2 k3 j0 j1 j2 j3 hz
  obtain ⟨k0, k1, k2, k3⟩ := K2
  obtain ⟨j0, j1, j2, j3⟩ := J2
  have hz := World.block_lt_of_cell? w2 _ j0
  simp only at hz
  have HL := Lib.hid (hL.later B2.out)
  clear hL
  go_wp2_with fail
  refine (say_any _ HS _ HL.out).mono ?_
  rintro e w' ⟨rfl, rfl⟩
  go_wp2_with fail
  refine (hear_any _ (by omega) HH _ HL.out).mono ?_
  rintro e w' ⟨rfl, rfl⟩
  go_wp2_with fail
  refine (live4 _ HL.out).mono ?_
  rintro e w3 ⟨rfl, hb3⟩
  have B3 := Lib.hid (below2' B2.out hb3)
  clear hb3 k0 k1 k2 k3 j0 j1 j2 j3 hz
  go_wp2_with fail
  go_ret
  exact ⟨rfl, B3.out⟩

set_option maxHeartbeats 1600000 in
set_option maxRecDepth 1000000 in
theorem apart_ge_no {w : World} (hL : Laid w) (a b c : Int) (l : List UInt8) (hl : l.length ≤ 300) (a2 b2 c2 : Int) (l2 : List UInt8) (hl2 : l2.length ≤ 300) (n : Int) 
    (hm : vaMay ⟨a, b, c, l⟩ = true) (hm2 : vaMay ⟨a2, b2, c2, l2⟩ = true) (h : ¬ (⟨a, b, c, l⟩ : Val) = ⟨a2, b2, c2, l2⟩) (hlt : (vaBytes ⟨a2, b2, c2, l2⟩).length ≤ (vaBytes ⟨a, b, c, l⟩).length) (hs : vaSay n = ([], false)) (hh : vaHear [] = (0, false)) :
    Calls Tryd.prog 6 #[.agg #[.int .i64 a, .int .i64 b, .int .i64 c, .string ⟨l.toArray⟩], .agg #[.int .i64 a2, .int .i64 b2, .int .i64 c2, .string ⟨l2.toArray⟩], .int .i64 n] w fun e w' => e = .returned (.bool true) ∧ Below w.heap.size w w' := by
  have hne2 : ¬ vaBytes ⟨a, b, c, l⟩ = vaBytes ⟨a2, b2, c2, l2⟩ := fun e => h (vaBytes_inj hm hm2 e)
  obtain ⟨t, ht⟩ : ∃ t, vaBytes ⟨a, b, c, l⟩ = t := ⟨_, rfl⟩
  obtain ⟨t2, ht2⟩ : ∃ t, vaBytes ⟨a2, b2, c2, l2⟩ = t := ⟨_, rfl⟩
  have hP : Hid (vaPut ⟨a, b, c, l⟩ = t) := by show _ = _; unfold vaPut; rw [if_pos hm, ht]
  have hP2 : Hid (vaPut ⟨a2, b2, c2, l2⟩ = t2) := by show _ = _; unfold vaPut; rw [if_pos hm2, ht2]
  rw [ht, ht2] at hne2 hlt
  have HM := Lib.hid hm
  have HM2 := Lib.hid hm2
  have heq := val_diff h
  have b1 : (t == t2) = false := by simpa using hne2
  clear hm hm2 h hne2 ht ht2
  have HS := Lib.hid hs
  have HH := Lib.hid hh
  have hgd : Tryd.prog.eqGuardType Tryd.prog.depth 23 = false := by kernel_rfl
  clear hs hh
  go_enter Tryd.func6, Tryd.ntmps6
  go_wp2_with fail
  refine (vaput_any a b c l (by omega) hP HM _).mono ?_
  rintro e w1 ⟨rfl, hb1⟩
  obtain ⟨c1, c2', hB⟩ := two_boxes hb1
  have B1 := Lib.hid hB
  have K1 := Lib.hid c1
  have J1 := Lib.hid c2'
  clear hb1 c1 c2' hB
  obtain ⟨k0, k1, k2, k3⟩ := K1.out
  obtain ⟨j0, j1, j2, j3⟩ := J1.out
  have hz := World.block_lt_of_cell? w1 _ j0
  simp only at hz
  go_wp2_with fail
  refine (vaput_any a2 b2 c2 l2 (by omega) hP2 HM2 _).mono ?_
  rintro e w2 ⟨rfl, hb2⟩
  have B2 := Lib.hid (below2' B1.out hb2)
  have K2 := keep4 hb2 K1.out
  have J2 := keep4 hb2 J1.out
  clear hb2 B1 K1 J1 k0 k1 k2 k3 j0 j1 j2 j3 hz
  obtain ⟨k0, k1, k2, k3⟩ := K2
  obtain ⟨j0, j1, j2, j3⟩ := J2
  have hz := World.block_lt_of_cell? w2 _ j0
  simp only at hz
  have HL := Lib.hid (hL.later B2.out)
  clear hL
  go_wp2_with fail
  refine (say_any _ HS _ HL.out).mono ?_
  rintro e w' ⟨rfl, rfl⟩
  go_wp2_with fail
  refine (hear_any _ (by decide) HH _ HL.out).mono ?_
  rintro e w' ⟨rfl, rfl⟩
  go_wp2_with fail
  refine (live4 _ HL.out).mono ?_
  rintro e w3 ⟨rfl, hb3⟩
  have B3 := Lib.hid (below2' B2.out hb3)
  clear hb3 k0 k1 k2 k3 j0 j1 j2 j3 hz
  go_wp2_with fail
  go_ret
  exact ⟨rfl, B3.out⟩

set_option maxHeartbeats 800000 in
set_option maxRecDepth 1000000 in
theorem apart_long {w : World} (hL : Laid w) (a b c : Int) (l : List UInt8) (a2 b2 c2 : Int) (l2 : List UInt8) (n : Int) (hl : l.length ≤ 9223372036854775807) (hl2 : l2.length ≤ 9223372036854775807)
    (h : 300 < l.length ∨ (l.length ≤ 300 ∧ 300 < l2.length)) :
    Calls Tryd.prog 6 #[.agg #[.int .i64 a, .int .i64 b, .int .i64 c, .string ⟨l.toArray⟩], .agg #[.int .i64 a2, .int .i64 b2, .int .i64 c2, .string ⟨l2.toArray⟩], .int .i64 n] w fun e w' => e = .returned (.bool true) ∧ Below w.heap.size w w' := by
  rcases h with h1 | ⟨h1, h2⟩
  all_goals
    go_enter Tryd.func6, Tryd.ntmps6
    go_wp2_with fail
    refine (live4 _ (hL.later (((Below.refl _ _).alloc (Nat.le_refl _) _).alloc (by simp) _))).mono ?_
    rintro e w3 ⟨rfl, hb3⟩
    go_wp2_with fail
    go_ret
    exact ⟨rfl, below2' (((Below.refl _ _).alloc (Nat.le_refl _) _).alloc (by simp) _) hb3⟩

theorem walkValueApart {w : World} (hL : Laid w) (a b c : Int) (l : List UInt8) (hl : l.length ≤ maxLen) (a2 b2 c2 : Int) (l2 : List UInt8) (hl2 : l2.length ≤ maxLen) (n : Int) (_ : (Lit.int .i64 n).wf = true) :
    Calls Tryd.prog 6 #[.agg #[.int .i64 a, .int .i64 b, .int .i64 c, .string ⟨l.toArray⟩], .agg #[.int .i64 a2, .int .i64 b2, .int .i64 c2, .string ⟨l2.toArray⟩], .int .i64 n] w fun e w' => e = .returned (.bool true) ∧ Below w.heap.size w w' := by
  unfold maxLen at hl hl2
  by_cases h : 300 < l.length ∨ (l.length ≤ 300 ∧ 300 < l2.length)
  · exact apart_long hL a b c l a2 b2 c2 l2 n hl hl2 h
  · have h1 : l.length ≤ 300 := by omega
    have h2 : l2.length ≤ 300 := by omega
    clear h hl hl2
    have hsay := vaSay_hear n
    obtain ⟨u, ur, hs⟩ : ∃ u ur, vaSay n = (u, ur) := ⟨_, _, rfl⟩
    rw [hs] at hsay
    simp only at hsay
    rcases hsay with ⟨rfl, hh, hn0, hn4⟩ | ⟨e, hh⟩
    · cases hm : vaMay ⟨a, b, c, l⟩ with
      | false => exact apart_n1_yes hL a b c l h1 a2 b2 c2 l2 h2 n hm hs hh (by omega)
      | true =>
        by_cases h : (⟨a, b, c, l⟩ : Val) = ⟨a2, b2, c2, l2⟩
        · exact apart_same_yes hL a b c l h1 a2 b2 c2 l2 h2 n hm h hs hh (by omega)
        · cases hm2 : vaMay ⟨a2, b2, c2, l2⟩ with
          | false => exact apart_n2_yes hL a b c l h1 a2 b2 c2 l2 h2 n hm hm2 hs hh (by omega)
          | true =>
            by_cases hlt : (vaBytes ⟨a, b, c, l⟩).length < (vaBytes ⟨a2, b2, c2, l2⟩).length
            · exact apart_lt_yes hL a b c l h1 a2 b2 c2 l2 h2 n hm hm2 h hlt hs hh (by omega)
            · exact apart_ge_yes hL a b c l h1 a2 b2 c2 l2 h2 n hm hm2 h (by omega) hs hh (by omega)
    · simp only [Prod.mk.injEq] at e
      obtain ⟨rfl, rfl⟩ := e
      cases hm : vaMay ⟨a, b, c, l⟩ with
      | false => exact apart_n1_no hL a b c l h1 a2 b2 c2 l2 h2 n hm hs hh
      | true =>
        by_cases h : (⟨a, b, c, l⟩ : Val) = ⟨a2, b2, c2, l2⟩
        · exact apart_same_no hL a b c l h1 a2 b2 c2 l2 h2 n hm h hs hh
        · cases hm2 : vaMay ⟨a2, b2, c2, l2⟩ with
          | false => exact apart_n2_no hL a b c l h1 a2 b2 c2 l2 h2 n hm hm2 hs hh
          | true =>
            by_cases hlt : (vaBytes ⟨a, b, c, l⟩).length < (vaBytes ⟨a2, b2, c2, l2⟩).length
            · exact apart_lt_no hL a b c l h1 a2 b2 c2 l2 h2 n hm hm2 h hlt hs hh
            · exact apart_ge_no hL a b c l h1 a2 b2 c2 l2 h2 n hm hm2 h (by omega) hs hh

end Go.Proofs.YtmbgdkelghoghaaDoor
