/-
  TEXTS OF THE PROOF, one behind the other: RosDoC2, RosItems, IxKeptP.
-/
import Derived.Test.YtlckphdmflofgaaB10
import Derived.Test.YtlckphdmflofgaaB04
import Derived.Test.YtlckphdmflofgaaB07
import Derived.Test.YtlckphdmflofgaaB03
import Derived.Test.YtlckphdmflofgaaB09

section
/-
  LAYER 8, THE CODE: Do, where it does.
-/
namespace Go.Proofs.Ytlckphdmflofgaa
open Go.RowKit

set_option maxHeartbeats 3200000 in
set_option maxRecDepth 100000 in
theorem rdoF1 {w : World} {v : Value} {l : List Ent} (hv : Ents w v l) (hs : ShortE l) (hl : l.length ≤ 900) (u o : List UInt8) (hu : u.length ≤ 4294967296) (ho : o.length ≤ 4294967296) (k : Int) (hm : roMayC l = true) (h1 : idIs u = true) (h2 : idIs o = true) (h3 : (u == o) = false) {i1 i2 i3 i4 i5 j1 j2 j3 j4 j5 q q' a1 a2 a3 a4 a5 b1 b2 b3 b4 b5 : Bool} (hi : roIt l u o = ⟨i1, i2, i3, i4, i5⟩) (hj : roIt l o u = ⟨j1, j2, j3, j4, j5⟩) (hq : (l.any fun x => entIs x ⟨u, o, It.zero⟩) = q) (hq' : (l.any fun x => entIs x ⟨o, u, It.zero⟩) = q') (hk : (Lit.int .i64 k).wf = true) (hact : suAct ⟨i1, i2, i3, i4, i5⟩ ⟨j1, j2, j3, j4, j5⟩ k = (⟨a1, a2, a3, a4, a5⟩, ⟨b1, b2, b3, b4, b5⟩, 0)) (hf : q = false) (gu : decide (16 ≤ (roOf l u).length) = true) :
    Calls Try.prog 26 #[v, .int .i64 k, .string ⟨u.toArray⟩, .string ⟨o.toArray⟩] w fun e w' => ∃ v', e = .returned (.tuple #[v', .int .i64 5]) ∧ Ents w' v' l ∧ Below w.heap.size w w' := by
  subst hf
  have GU := Lib.hid gu
  clear gu
  have HV := Lib.hid hv
  have HM := Lib.hid (romay_any hv hs (Lib.hid hm))
  have HR := Lib.hid (roMay_rise hm)
  have I1 := Lib.hid (is_eq u hu (Lib.hid h1))
  have I2 := Lib.hid (is_eq o ho (Lib.hid h2))
  have E1 := Lib.hid (entry_any u o)
  have E2 := Lib.hid (entry_any o u)
  have FI := Lib.hid hi
  have FJ := Lib.hid hj
  have FQ := Lib.hid hq
  have FQ' := Lib.hid hq'
  have HA := Lib.hid (sact_any i1 i2 i3 i4 i5 j1 j2 j3 j4 j5 k hk)
  rw [hact] at HA
  obtain ⟨a, cap, rfl, hmx⟩ := hv.open'
  clear hv hs hm h1 h2 hi hj hq hq' hk hact
  go_enter Try.func26, Try.ntmps26
  go_wp2_with fail
  refine HM.out.mono ?_
  rintro e w1 ⟨rfl, b1⟩
  have HB := Lib.hid b1
  clear b1
  go_wp2_with fail
  refine (I1.out _).mono ?_
  rintro e w2 ⟨rfl, b⟩
  replace HB := Lib.hid (below2S HB.out b)
  clear b
  go_wp2_with fail
  refine (I2.out _).mono ?_
  rintro e w3 ⟨rfl, b⟩
  replace HB := Lib.hid (below2S HB.out b)
  clear b
  go_wp2_with fail
  refine (E1.out _).mono ?_
  rintro e w4 ⟨rfl, b⟩
  replace HB := Lib.hid (below2S HB.out b)
  clear b
  go_wp2_with fail
  refine (rfind_eq (HV.out.later HB.out) HR.out u o FI FQ).mono ?_
  rintro e w5 ⟨rfl, b⟩
  have bb := bl_newZ w5 (.cells #[.string ⟨u.toArray⟩, .string ⟨o.toArray⟩, .bool i1, .bool i2, .bool i3, .bool i4, .bool i5] 70)
  have X10 := Lib.hid (heap_newR w5 (.cells #[.string ⟨u.toArray⟩, .string ⟨o.toArray⟩, .bool i1, .bool i2, .bool i3, .bool i4, .bool i5] 70) rfl)
  have HS5 := Lib.hid (below2S HB.out b).size
  replace HB := Lib.hid (below2S (below2S HB.out b) bb)
  clear b bb
  go_wp2_with fail
  generalize hW : w5.alloc (.cells #[.string ⟨u.toArray⟩, .string ⟨o.toArray⟩, .bool i1, .bool i2, .bool i3, .bool i4, .bool i5] 70) = w6 at HB X10 ⊢
  generalize hN : w5.heap.size = n5 at X10 HS5 ⊢
  clear hW hN
  refine (E2.out _).mono ?_
  rintro e w7 ⟨rfl, b⟩
  replace X10 := Lib.hid (heap_laterR X10.out b)
  replace HB := Lib.hid (below2S HB.out b)
  clear b
  go_wp2_with fail
  refine (rfind_eq (HV.out.later HB.out) HR.out o u FJ FQ').mono ?_
  rintro e w8 ⟨rfl, b⟩
  have bb := bl_newZ w8 (.cells #[.string ⟨o.toArray⟩, .string ⟨u.toArray⟩, .bool j1, .bool j2, .bool j3, .bool j4, .bool j5] 70)
  have X12 := Lib.hid (heap_newR w8 (.cells #[.string ⟨o.toArray⟩, .string ⟨u.toArray⟩, .bool j1, .bool j2, .bool j3, .bool j4, .bool j5] 70) rfl)
  have HS8 := Lib.hid (below2S HB.out b).size
  replace X10 := Lib.hid (heap_laterR X10.out b)
  have hne := Lib.hid (heap_ltR X10.out)
  replace X10 := Lib.hid (heap_laterR X10.out bb)
  replace HB := Lib.hid (below2S (below2S HB.out b) bb)
  clear b bb
  obtain ⟨c0, c1, c2, c3, c4, c5, c6⟩ := e7_cells X10.out
  obtain ⟨d0, d1, d2, d3, d4, d5, d6⟩ := e7_cells X12.out
  simp only [Nat.zero_add] at c0 c1 c2 c3 c4 c5 c6 d0 d1 d2 d3 d4 d5 d6
  go_wp2_with fail
  generalize hW : w8.alloc (.cells #[.string ⟨o.toArray⟩, .string ⟨u.toArray⟩, .bool j1, .bool j2, .bool j3, .bool j4, .bool j5] 70) = w9 at HB X10 X12 c0 c1 c2 c3 c4 c5 c6 d0 d1 d2 d3 d4 d5 d6 ⊢
  generalize hN : w8.heap.size = n8 at X12 HS8 hne d0 d1 d2 d3 d4 d5 d6 ⊢
  clear hW hN c0 c1 c2 c3 c4 c5 c6 d0 d1 d2 d3 d4 d5 d6
  refine (HA.out _).mono ?_
  rintro e w10 ⟨rfl, b⟩
  replace X10 := Lib.hid (heap_laterR X10.out b)
  replace X12 := Lib.hid (heap_laterR X12.out b)
  replace HB := Lib.hid (below2S HB.out b)
  clear b
  have hne1 : n5 ≠ n8 := by have := hne.out; omega
  have Y12 := e7_other X12.out hne1 a1 a2 a3 a4 a5
  have Y10 := e7_set X10.out a1 a2 a3 a4 a5
  have Z12 := Lib.hid (e7_set Y12 b1 b2 b3 b4 b5)
  have Z10 := Lib.hid (e7_other Y10 hne1.symm b1 b2 b3 b4 b5)
  have ZB := Lib.hid (setI_below (setI_below HB.out HS5.out a1 a2 a3 a4 a5) HS8.out b1 b2 b3 b4 b5)
  obtain ⟨c0, c1, c2, c3, c4, c5, c6⟩ := e7_cells X10.out
  obtain ⟨d0, d1, d2, d3, d4, d5, d6⟩ := e7_cells Y12
  simp only [Nat.zero_add] at c0 c1 c2 c3 c4 c5 c6 d0 d1 d2 d3 d4 d5 d6
  have f2 := e7_frozen X10.out 2
  have f3 := e7_frozen X10.out 3
  have f4 := e7_frozen X10.out 4
  have f5 := e7_frozen X10.out 5
  have f6 := e7_frozen X10.out 6
  have g2 := e7_frozen Y12 2
  have g3 := e7_frozen Y12 3
  have g4 := e7_frozen Y12 4
  have g5 := e7_frozen Y12 5
  have g6 := e7_frozen Y12 6
  unfold setI at d0 d1 d2 d3 d4 d5 d6 g2 g3 g4 g5 g6
  clear Y10 Y12
  unfold actE
  obtain ⟨e0, e1, e2, e3, e4, e5, e6⟩ := e7_cells Z10.out
  obtain ⟨p0, p1, p2, p3, p4, p5, p6⟩ := e7_cells Z12.out
  simp only [Nat.zero_add] at e0 e1 e2 e3 e4 e5 e6 p0 p1 p2 p3 p4 p5 p6
  unfold setI at e0 e1 e2 e3 e4 e5 e6 p0 p1 p2 p3 p4 p5 p6
  replace X10 := Z10
  replace X12 := Z12
  replace HB := ZB
  clear Z10 Z12 ZB
  go_wp2_with fail
  clear c0 c1 c2 c3 c4 c5 c6 d0 d1 d2 d3 d4 d5 d6 f2 f3 f4 f5 f6 g2 g3 g4 g5 g6 e0 e1 e2 e3 e4 e5 e6 p0 p1 p2 p3 p4 p5 p6 HA FI FJ FQ FQ' HM I1 I2 E1 E2
  refine (risFull_any (HV.out.later HB.out) (by omega) u GU).mono ?_
  rintro e w12 ⟨rfl, b⟩
  replace X10 := Lib.hid (heap_laterR X10.out b)
  replace X12 := Lib.hid (heap_laterR X12.out b)
  replace HB := Lib.hid (below2S HB.out b)
  clear b
  go_wp2_with fail
  go_ret2
  exact ⟨_, rfl, HV.out.later HB.out, HB.out⟩

set_option maxHeartbeats 3200000 in
set_option maxRecDepth 100000 in
theorem rdoF2 {w : World} {v : Value} {l : List Ent} (hv : Ents w v l) (hs : ShortE l) (hl : l.length ≤ 900) (u o : List UInt8) (hu : u.length ≤ 4294967296) (ho : o.length ≤ 4294967296) (k : Int) (hm : roMayC l = true) (h1 : idIs u = true) (h2 : idIs o = true) (h3 : (u == o) = false) {i1 i2 i3 i4 i5 j1 j2 j3 j4 j5 q q' a1 a2 a3 a4 a5 b1 b2 b3 b4 b5 : Bool} (hi : roIt l u o = ⟨i1, i2, i3, i4, i5⟩) (hj : roIt l o u = ⟨j1, j2, j3, j4, j5⟩) (hq : (l.any fun x => entIs x ⟨u, o, It.zero⟩) = q) (hq' : (l.any fun x => entIs x ⟨o, u, It.zero⟩) = q') (hk : (Lit.int .i64 k).wf = true) (hact : suAct ⟨i1, i2, i3, i4, i5⟩ ⟨j1, j2, j3, j4, j5⟩ k = (⟨a1, a2, a3, a4, a5⟩, ⟨b1, b2, b3, b4, b5⟩, 0)) (hf : q = false) (gu : decide (16 ≤ (roOf l u).length) = false) (go : decide (16 ≤ (roOf l o).length) = true) :
    Calls Try.prog 26 #[v, .int .i64 k, .string ⟨u.toArray⟩, .string ⟨o.toArray⟩] w fun e w' => ∃ v', e = .returned (.tuple #[v', .int .i64 5]) ∧ Ents w' v' l ∧ Below w.heap.size w w' := by
  subst hf
  have GU := Lib.hid gu
  have GO := Lib.hid go
  clear gu go
  have HV := Lib.hid hv
  have HM := Lib.hid (romay_any hv hs (Lib.hid hm))
  have HR := Lib.hid (roMay_rise hm)
  have I1 := Lib.hid (is_eq u hu (Lib.hid h1))
  have I2 := Lib.hid (is_eq o ho (Lib.hid h2))
  have E1 := Lib.hid (entry_any u o)
  have E2 := Lib.hid (entry_any o u)
  have FI := Lib.hid hi
  have FJ := Lib.hid hj
  have FQ := Lib.hid hq
  have FQ' := Lib.hid hq'
  have HA := Lib.hid (sact_any i1 i2 i3 i4 i5 j1 j2 j3 j4 j5 k hk)
  rw [hact] at HA
  obtain ⟨a, cap, rfl, hmx⟩ := hv.open'
  clear hv hs hm h1 h2 hi hj hq hq' hk hact
  go_enter Try.func26, Try.ntmps26
  go_wp2_with fail
  refine HM.out.mono ?_
  rintro e w1 ⟨rfl, b1⟩
  have HB := Lib.hid b1
  clear b1
  go_wp2_with fail
  refine (I1.out _).mono ?_
  rintro e w2 ⟨rfl, b⟩
  replace HB := Lib.hid (below2S HB.out b)
  clear b
  go_wp2_with fail
  refine (I2.out _).mono ?_
  rintro e w3 ⟨rfl, b⟩
  replace HB := Lib.hid (below2S HB.out b)
  clear b
  go_wp2_with fail
  refine (E1.out _).mono ?_
  rintro e w4 ⟨rfl, b⟩
  replace HB := Lib.hid (below2S HB.out b)
  clear b
  go_wp2_with fail
  refine (rfind_eq (HV.out.later HB.out) HR.out u o FI FQ).mono ?_
  rintro e w5 ⟨rfl, b⟩
  have bb := bl_newZ w5 (.cells #[.string ⟨u.toArray⟩, .string ⟨o.toArray⟩, .bool i1, .bool i2, .bool i3, .bool i4, .bool i5] 70)
  have X10 := Lib.hid (heap_newR w5 (.cells #[.string ⟨u.toArray⟩, .string ⟨o.toArray⟩, .bool i1, .bool i2, .bool i3, .bool i4, .bool i5] 70) rfl)
  have HS5 := Lib.hid (below2S HB.out b).size
  replace HB := Lib.hid (below2S (below2S HB.out b) bb)
  clear b bb
  go_wp2_with fail
  generalize hW : w5.alloc (.cells #[.string ⟨u.toArray⟩, .string ⟨o.toArray⟩, .bool i1, .bool i2, .bool i3, .bool i4, .bool i5] 70) = w6 at HB X10 ⊢
  generalize hN : w5.heap.size = n5 at X10 HS5 ⊢
  clear hW hN
  refine (E2.out _).mono ?_
  rintro e w7 ⟨rfl, b⟩
  replace X10 := Lib.hid (heap_laterR X10.out b)
  replace HB := Lib.hid (below2S HB.out b)
  clear b
  go_wp2_with fail
  refine (rfind_eq (HV.out.later HB.out) HR.out o u FJ FQ').mono ?_
  rintro e w8 ⟨rfl, b⟩
  have bb := bl_newZ w8 (.cells #[.string ⟨o.toArray⟩, .string ⟨u.toArray⟩, .bool j1, .bool j2, .bool j3, .bool j4, .bool j5] 70)
  have X12 := Lib.hid (heap_newR w8 (.cells #[.string ⟨o.toArray⟩, .string ⟨u.toArray⟩, .bool j1, .bool j2, .bool j3, .bool j4, .bool j5] 70) rfl)
  have HS8 := Lib.hid (below2S HB.out b).size
  replace X10 := Lib.hid (heap_laterR X10.out b)
  have hne := Lib.hid (heap_ltR X10.out)
  replace X10 := Lib.hid (heap_laterR X10.out bb)
  replace HB := Lib.hid (below2S (below2S HB.out b) bb)
  clear b bb
  obtain ⟨c0, c1, c2, c3, c4, c5, c6⟩ := e7_cells X10.out
  obtain ⟨d0, d1, d2, d3, d4, d5, d6⟩ := e7_cells X12.out
  simp only [Nat.zero_add] at c0 c1 c2 c3 c4 c5 c6 d0 d1 d2 d3 d4 d5 d6
  go_wp2_with fail
  generalize hW : w8.alloc (.cells #[.string ⟨o.toArray⟩, .string ⟨u.toArray⟩, .bool j1, .bool j2, .bool j3, .bool j4, .bool j5] 70) = w9 at HB X10 X12 c0 c1 c2 c3 c4 c5 c6 d0 d1 d2 d3 d4 d5 d6 ⊢
  generalize hN : w8.heap.size = n8 at X12 HS8 hne d0 d1 d2 d3 d4 d5 d6 ⊢
  clear hW hN c0 c1 c2 c3 c4 c5 c6 d0 d1 d2 d3 d4 d5 d6
  refine (HA.out _).mono ?_
  rintro e w10 ⟨rfl, b⟩
  replace X10 := Lib.hid (heap_laterR X10.out b)
  replace X12 := Lib.hid (heap_laterR X12.out b)
  replace HB := Lib.hid (below2S HB.out b)
  clear b
  have hne1 : n5 ≠ n8 := by have := hne.out; omega
  have Y12 := e7_other X12.out hne1 a1 a2 a3 a4 a5
  have Y10 := e7_set X10.out a1 a2 a3 a4 a5
  have Z12 := Lib.hid (e7_set Y12 b1 b2 b3 b4 b5)
  have Z10 := Lib.hid (e7_other Y10 hne1.symm b1 b2 b3 b4 b5)
  have ZB := Lib.hid (setI_below (setI_below HB.out HS5.out a1 a2 a3 a4 a5) HS8.out b1 b2 b3 b4 b5)
  obtain ⟨c0, c1, c2, c3, c4, c5, c6⟩ := e7_cells X10.out
  obtain ⟨d0, d1, d2, d3, d4, d5, d6⟩ := e7_cells Y12
  simp only [Nat.zero_add] at c0 c1 c2 c3 c4 c5 c6 d0 d1 d2 d3 d4 d5 d6
  have f2 := e7_frozen X10.out 2
  have f3 := e7_frozen X10.out 3
  have f4 := e7_frozen X10.out 4
  have f5 := e7_frozen X10.out 5
  have f6 := e7_frozen X10.out 6
  have g2 := e7_frozen Y12 2
  have g3 := e7_frozen Y12 3
  have g4 := e7_frozen Y12 4
  have g5 := e7_frozen Y12 5
  have g6 := e7_frozen Y12 6
  unfold setI at d0 d1 d2 d3 d4 d5 d6 g2 g3 g4 g5 g6
  clear Y10 Y12
  unfold actE
  obtain ⟨e0, e1, e2, e3, e4, e5, e6⟩ := e7_cells Z10.out
  obtain ⟨p0, p1, p2, p3, p4, p5, p6⟩ := e7_cells Z12.out
  simp only [Nat.zero_add] at e0 e1 e2 e3 e4 e5 e6 p0 p1 p2 p3 p4 p5 p6
  unfold setI at e0 e1 e2 e3 e4 e5 e6 p0 p1 p2 p3 p4 p5 p6
  replace X10 := Z10
  replace X12 := Z12
  replace HB := ZB
  clear Z10 Z12 ZB
  go_wp2_with fail
  clear c0 c1 c2 c3 c4 c5 c6 d0 d1 d2 d3 d4 d5 d6 f2 f3 f4 f5 f6 g2 g3 g4 g5 g6 e0 e1 e2 e3 e4 e5 e6 p0 p1 p2 p3 p4 p5 p6 HA FI FJ FQ FQ' HM I1 I2 E1 E2
  refine (risFull_any (HV.out.later HB.out) (by omega) u GU).mono ?_
  rintro e w12 ⟨rfl, b⟩
  replace X10 := Lib.hid (heap_laterR X10.out b)
  replace X12 := Lib.hid (heap_laterR X12.out b)
  replace HB := Lib.hid (below2S HB.out b)
  clear b
  go_wp2_with fail
  refine (risFull_any (HV.out.later HB.out) (by omega) o GO).mono ?_
  rintro e w13 ⟨rfl, b⟩
  replace X10 := Lib.hid (heap_laterR X10.out b)
  replace X12 := Lib.hid (heap_laterR X12.out b)
  replace HB := Lib.hid (below2S HB.out b)
  clear b
  go_wp2_with fail
  go_ret2
  exact ⟨_, rfl, HV.out.later HB.out, HB.out⟩

/-- The two entries, in their blocks. -/
theorem two7 {w : World} {n5 n8 : Nat} {u o : List UInt8} {a1 a2 a3 a4 a5 b1 b2 b3 b4 b5 : Bool} (h : w.heap[n5]? = some (.cells #[.string ⟨u.toArray⟩, .string ⟨o.toArray⟩, .bool a1, .bool a2, .bool a3, .bool a4, .bool a5] 70 (0, 0))) (g : w.heap[n8]? = some (.cells #[.string ⟨o.toArray⟩, .string ⟨u.toArray⟩, .bool b1, .bool b2, .bool b3, .bool b4, .bool b5] 70 (0, 0))) :
    ((w).cell? ⟨n5, 0, none⟩ = some (.string ⟨u.toArray⟩) ∧ (w).cell? ⟨n5, 1, none⟩ = some (.string ⟨o.toArray⟩) ∧ (w).cell? ⟨n5, 2, none⟩ = some (.bool a1) ∧ (w).cell? ⟨n5, 3, none⟩ = some (.bool a2) ∧ (w).cell? ⟨n5, 4, none⟩ = some (.bool a3) ∧ (w).cell? ⟨n5, 5, none⟩ = some (.bool a4) ∧ (w).cell? ⟨n5, 6, none⟩ = some (.bool a5) ∧ (w).cell? ⟨n8, 0, none⟩ = some (.string ⟨o.toArray⟩) ∧ (w).cell? ⟨n8, 1, none⟩ = some (.string ⟨u.toArray⟩) ∧ (w).cell? ⟨n8, 2, none⟩ = some (.bool b1) ∧ (w).cell? ⟨n8, 3, none⟩ = some (.bool b2) ∧ (w).cell? ⟨n8, 4, none⟩ = some (.bool b3) ∧ (w).cell? ⟨n8, 5, none⟩ = some (.bool b4) ∧ (w).cell? ⟨n8, 6, none⟩ = some (.bool b5)) := by
  obtain ⟨e0, e1, e2, e3, e4, e5, e6⟩ := e7_cells h
  obtain ⟨p0, p1, p2, p3, p4, p5, p6⟩ := e7_cells g
  exact ⟨e0, e1, e2, e3, e4, e5, e6, p0, p1, p2, p3, p4, p5, p6⟩

theorem dropO_le (l : List Ent) (x : Ent) : (dropO entIs l x).length ≤ l.length := List.length_filter_le _ _

theorem putO_le (l : List Ent) (x : Ent) : (putO entLt entIs l x).length ≤ l.length + 1 := by
  rw [putO_len]
  split <;> omega

set_option maxHeartbeats 3200000 in
set_option maxRecDepth 100000 in
theorem rdoG1 {w : World} {v : Value} {l : List Ent} (hv : Ents w v l) (hs : ShortE l) (hl : l.length ≤ 900) (u o : List UInt8) (hu : u.length ≤ 4294967296) (ho : o.length ≤ 4294967296) (k : Int) (hm : roMayC l = true) (h1 : idIs u = true) (h2 : idIs o = true) (h3 : (u == o) = false) {i1 i2 i3 i4 i5 j1 j2 j3 j4 j5 q q' a1 a2 a3 a4 a5 b1 b2 b3 b4 b5 : Bool} (hi : roIt l u o = ⟨i1, i2, i3, i4, i5⟩) (hj : roIt l o u = ⟨j1, j2, j3, j4, j5⟩) (hq : (l.any fun x => entIs x ⟨u, o, It.zero⟩) = q) (hq' : (l.any fun x => entIs x ⟨o, u, It.zero⟩) = q') (hk : (Lit.int .i64 k).wf = true) (hact : suAct ⟨i1, i2, i3, i4, i5⟩ ⟨j1, j2, j3, j4, j5⟩ k = (⟨a1, a2, a3, a4, a5⟩, ⟨b1, b2, b3, b4, b5⟩, 0)) (hf : q = true) (ga : suEmpty ⟨a1, a2, a3, a4, a5⟩ = true) (gb : suEmpty ⟨b1, b2, b3, b4, b5⟩ = true) :
    Calls Try.prog 26 #[v, .int .i64 k, .string ⟨u.toArray⟩, .string ⟨o.toArray⟩] w fun e w' => ∃ v', e = .returned (.tuple #[v', .int .i64 0]) ∧ Ents w' v' (dropO entIs (dropO entIs l ⟨u, o, ⟨a1, a2, a3, a4, a5⟩⟩) ⟨o, u, ⟨b1, b2, b3, b4, b5⟩⟩) ∧ Below w.heap.size w w' := by
  subst hf
  have GA := Lib.hid (sempty_eq a1 a2 a3 a4 a5 ga)
  have GB := Lib.hid (sempty_eq b1 b2 b3 b4 b5 gb)
  clear ga gb
  have HV := Lib.hid hv
  have HM := Lib.hid (romay_any hv hs (Lib.hid hm))
  have HR := Lib.hid (roMay_rise hm)
  have I1 := Lib.hid (is_eq u hu (Lib.hid h1))
  have I2 := Lib.hid (is_eq o ho (Lib.hid h2))
  have E1 := Lib.hid (entry_any u o)
  have E2 := Lib.hid (entry_any o u)
  have FI := Lib.hid hi
  have FJ := Lib.hid hj
  have FQ := Lib.hid hq
  have FQ' := Lib.hid hq'
  have HA := Lib.hid (sact_any i1 i2 i3 i4 i5 j1 j2 j3 j4 j5 k hk)
  rw [hact] at HA
  obtain ⟨a, cap, rfl, hmx⟩ := hv.open'
  clear hv hs hm h1 h2 hi hj hq hq' hk hact
  go_enter Try.func26, Try.ntmps26
  go_wp2_with fail
  refine HM.out.mono ?_
  rintro e w1 ⟨rfl, b1⟩
  have HB := Lib.hid b1
  clear b1
  go_wp2_with fail
  refine (I1.out _).mono ?_
  rintro e w2 ⟨rfl, b⟩
  replace HB := Lib.hid (below2S HB.out b)
  clear b
  go_wp2_with fail
  refine (I2.out _).mono ?_
  rintro e w3 ⟨rfl, b⟩
  replace HB := Lib.hid (below2S HB.out b)
  clear b
  go_wp2_with fail
  refine (E1.out _).mono ?_
  rintro e w4 ⟨rfl, b⟩
  replace HB := Lib.hid (below2S HB.out b)
  clear b
  go_wp2_with fail
  refine (rfind_eq (HV.out.later HB.out) HR.out u o FI FQ).mono ?_
  rintro e w5 ⟨rfl, b⟩
  have bb := bl_newZ w5 (.cells #[.string ⟨u.toArray⟩, .string ⟨o.toArray⟩, .bool i1, .bool i2, .bool i3, .bool i4, .bool i5] 70)
  have X10 := Lib.hid (heap_newR w5 (.cells #[.string ⟨u.toArray⟩, .string ⟨o.toArray⟩, .bool i1, .bool i2, .bool i3, .bool i4, .bool i5] 70) rfl)
  have HS5 := Lib.hid (below2S HB.out b).size
  replace HB := Lib.hid (below2S (below2S HB.out b) bb)
  clear b bb
  go_wp2_with fail
  generalize hW : w5.alloc (.cells #[.string ⟨u.toArray⟩, .string ⟨o.toArray⟩, .bool i1, .bool i2, .bool i3, .bool i4, .bool i5] 70) = w6 at HB X10 ⊢
  generalize hN : w5.heap.size = n5 at X10 HS5 ⊢
  clear hW hN
  refine (E2.out _).mono ?_
  rintro e w7 ⟨rfl, b⟩
  replace X10 := Lib.hid (heap_laterR X10.out b)
  replace HB := Lib.hid (below2S HB.out b)
  clear b
  go_wp2_with fail
  refine (rfind_eq (HV.out.later HB.out) HR.out o u FJ FQ').mono ?_
  rintro e w8 ⟨rfl, b⟩
  have bb := bl_newZ w8 (.cells #[.string ⟨o.toArray⟩, .string ⟨u.toArray⟩, .bool j1, .bool j2, .bool j3, .bool j4, .bool j5] 70)
  have X12 := Lib.hid (heap_newR w8 (.cells #[.string ⟨o.toArray⟩, .string ⟨u.toArray⟩, .bool j1, .bool j2, .bool j3, .bool j4, .bool j5] 70) rfl)
  have HS8 := Lib.hid (below2S HB.out b).size
  replace X10 := Lib.hid (heap_laterR X10.out b)
  have hne := Lib.hid (heap_ltR X10.out)
  replace X10 := Lib.hid (heap_laterR X10.out bb)
  replace HB := Lib.hid (below2S (below2S HB.out b) bb)
  clear b bb
  obtain ⟨c0, c1, c2, c3, c4, c5, c6⟩ := e7_cells X10.out
  obtain ⟨d0, d1, d2, d3, d4, d5, d6⟩ := e7_cells X12.out
  simp only [Nat.zero_add] at c0 c1 c2 c3 c4 c5 c6 d0 d1 d2 d3 d4 d5 d6
  go_wp2_with fail
  generalize hW : w8.alloc (.cells #[.string ⟨o.toArray⟩, .string ⟨u.toArray⟩, .bool j1, .bool j2, .bool j3, .bool j4, .bool j5] 70) = w9 at HB X10 X12 c0 c1 c2 c3 c4 c5 c6 d0 d1 d2 d3 d4 d5 d6 ⊢
  generalize hN : w8.heap.size = n8 at X12 HS8 hne d0 d1 d2 d3 d4 d5 d6 ⊢
  clear hW hN c0 c1 c2 c3 c4 c5 c6 d0 d1 d2 d3 d4 d5 d6
  refine (HA.out _).mono ?_
  rintro e w10 ⟨rfl, b⟩
  replace X10 := Lib.hid (heap_laterR X10.out b)
  replace X12 := Lib.hid (heap_laterR X12.out b)
  replace HB := Lib.hid (below2S HB.out b)
  clear b
  have hne1 : n5 ≠ n8 := by have := hne.out; omega
  have Y12 := e7_other X12.out hne1 a1 a2 a3 a4 a5
  have Y10 := e7_set X10.out a1 a2 a3 a4 a5
  have Z12 := Lib.hid (e7_set Y12 b1 b2 b3 b4 b5)
  have Z10 := Lib.hid (e7_other Y10 hne1.symm b1 b2 b3 b4 b5)
  have ZB := Lib.hid (setI_below (setI_below HB.out HS5.out a1 a2 a3 a4 a5) HS8.out b1 b2 b3 b4 b5)
  obtain ⟨c0, c1, c2, c3, c4, c5, c6⟩ := e7_cells X10.out
  obtain ⟨d0, d1, d2, d3, d4, d5, d6⟩ := e7_cells Y12
  simp only [Nat.zero_add] at c0 c1 c2 c3 c4 c5 c6 d0 d1 d2 d3 d4 d5 d6
  have f2 := e7_frozen X10.out 2
  have f3 := e7_frozen X10.out 3
  have f4 := e7_frozen X10.out 4
  have f5 := e7_frozen X10.out 5
  have f6 := e7_frozen X10.out 6
  have g2 := e7_frozen Y12 2
  have g3 := e7_frozen Y12 3
  have g4 := e7_frozen Y12 4
  have g5 := e7_frozen Y12 5
  have g6 := e7_frozen Y12 6
  unfold setI at d0 d1 d2 d3 d4 d5 d6 g2 g3 g4 g5 g6
  clear Y10 Y12
  unfold actE
  obtain ⟨e0, e1, e2, e3, e4, e5, e6⟩ := e7_cells Z10.out
  obtain ⟨p0, p1, p2, p3, p4, p5, p6⟩ := e7_cells Z12.out
  simp only [Nat.zero_add] at e0 e1 e2 e3 e4 e5 e6 p0 p1 p2 p3 p4 p5 p6
  unfold setI at e0 e1 e2 e3 e4 e5 e6 p0 p1 p2 p3 p4 p5 p6
  replace X10 := Z10
  replace X12 := Z12
  replace HB := ZB
  clear Z10 Z12 ZB
  go_wp2_with fail
  clear c0 c1 c2 c3 c4 c5 c6 d0 d1 d2 d3 d4 d5 d6 f2 f3 f4 f5 f6 g2 g3 g4 g5 g6 e0 e1 e2 e3 e4 e5 e6 p0 p1 p2 p3 p4 p5 p6 HA FI FJ FQ FQ' HM I1 I2 E1 E2
  refine (GA.out _).mono ?_
  rintro e w14 ⟨rfl, b⟩
  replace X10 := Lib.hid (heap_laterR X10.out b)
  replace X12 := Lib.hid (heap_laterR X12.out b)
  replace HB := Lib.hid (below2S HB.out b)
  clear b
  obtain ⟨e0, e1, e2, e3, e4, e5, e6⟩ := e7_cells X10.out
  obtain ⟨p0, p1, p2, p3, p4, p5, p6⟩ := e7_cells X12.out
  simp only [Nat.zero_add] at e0 e1 e2 e3 e4 e5 e6 p0 p1 p2 p3 p4 p5 p6
  go_wp2_with fail
  clear e0 e1 e2 e3 e4 e5 e6 p0 p1 p2 p3 p4 p5 p6
  refine (GB.out _).mono ?_
  rintro e w15 ⟨rfl, b⟩
  replace X10 := Lib.hid (heap_laterR X10.out b)
  replace X12 := Lib.hid (heap_laterR X12.out b)
  replace HB := Lib.hid (below2S HB.out b)
  clear b
  go_wp2_with fail
  have hS0 := two7 X10.out X12.out
  refine wp_region_held_drew (S := (fun W => ((W).cell? ⟨n5, 0, none⟩ = some (.string ⟨u.toArray⟩) ∧ (W).cell? ⟨n5, 1, none⟩ = some (.string ⟨o.toArray⟩) ∧ (W).cell? ⟨n5, 2, none⟩ = some (.bool a1) ∧ (W).cell? ⟨n5, 3, none⟩ = some (.bool a2) ∧ (W).cell? ⟨n5, 4, none⟩ = some (.bool a3) ∧ (W).cell? ⟨n5, 5, none⟩ = some (.bool a4) ∧ (W).cell? ⟨n5, 6, none⟩ = some (.bool a5) ∧ (W).cell? ⟨n8, 0, none⟩ = some (.string ⟨o.toArray⟩) ∧ (W).cell? ⟨n8, 1, none⟩ = some (.string ⟨u.toArray⟩) ∧ (W).cell? ⟨n8, 2, none⟩ = some (.bool b1) ∧ (W).cell? ⟨n8, 3, none⟩ = some (.bool b2) ∧ (W).cell? ⟨n8, 4, none⟩ = some (.bool b3) ∧ (W).cell? ⟨n8, 5, none⟩ = some (.bool b4) ∧ (W).cell? ⟨n8, 6, none⟩ = some (.bool b5)))) (by kernel_rfl) ?_ (fun hHeld => ?_)
  · exact two7 (heap_laterR X10.out (Below.refl _ _).drew) (heap_laterR X12.out (Below.refl _ _).drew)
  refine wpAnyH_take (i := 0) (oi := { dst := some 87, op := Op.move (Operand.tmp 0), type := 43, pos := "rost.go:51", after := #[], guard := none }) (v := ?_) rfl (by as_aux_lemma => kernel_rfl) (by as_aux_lemma => kernel_rfl) (by as_aux_lemma => kernel_rfl) (fun _ _ _ h => h) (Or.inl ⟨by rfl, ?_⟩) (by assumption) ?_
  rotate_left
  · intro w' hSw
    try dsimp only at hSw
    go_simp
    try with_reducible rfl
  try simp only [Act.put, List.setIfInBounds_toArray, List.set_cons_zero, List.set_cons_succ]
  refine wpAnyH_take (i := 1) (oi := { dst := some 88, op := Op.load 70 (Operand.tmp 10), type := 70, pos := "rost.go:51", after := #[], guard := none }) (v := ?_) rfl (by as_aux_lemma => kernel_rfl) (by as_aux_lemma => kernel_rfl) (by as_aux_lemma => kernel_rfl) (fun _ _ _ h => h) (Or.inl ⟨by rfl, ?_⟩) (by assumption) ?_
  rotate_left
  · intro w' hSw
    try dsimp only at hSw
    go_simp
    try with_reducible rfl
  try simp only [Act.put, List.setIfInBounds_toArray, List.set_cons_zero, List.set_cons_succ]
  refine wpAnyH_take (i := 3) (oi := { dst := some 90, op := Op.load 70 (Operand.tmp 12), type := 70, pos := "rost.go:51", after := #[], guard := none }) (v := ?_) rfl (by as_aux_lemma => kernel_rfl) (by as_aux_lemma => kernel_rfl) (by as_aux_lemma => kernel_rfl) (fun _ _ _ h => h) (Or.inl ⟨by rfl, ?_⟩) (by assumption) ?_
  rotate_left
  · intro w' hSw
    try dsimp only at hSw
    go_simp
    try with_reducible rfl
  try simp only [Act.put, List.setIfInBounds_toArray, List.set_cons_zero, List.set_cons_succ]
  refine wpAnyH_ready (rs := [2]) (by as_aux_lemma => kernel_rfl) (by simp) ?_
  refine AllReadyH.cons (o := { dst := some 89, op := Op.call { callee := Callee.value (Operand.func 41), args := #[Operand.tmp 87, Operand.tmp 88], argTypes := #[43, 70] }, type := 43, pos := "rost.go:51", after := #[{ on := 0, ground := Ground.data }, { on := 1, ground := Ground.data }], guard := none }) rfl (fun Kx hK => ?_) AllReadyH.nil
  go_simp
  refine (rwithout_any ((HV.out.later HB.out).later (Below.refl _ _).drew) (by omega) u o a1 a2 a3 a4 a5).mono ?_
  rintro e wA ⟨y, rfl, hy, bA⟩
  have bd := below2Z (Below.refl _ _).drew bA
  have HY := Lib.hid hy
  have YA := Lib.hid (hy.rd entOK).ents
  have X10A := Lib.hid (heap_laterR X10.out bd)
  have X12A := Lib.hid (heap_laterR X12.out bd)
  have HBA := Lib.hid (below2S HB.out bd)
  clear bd hy bA
  go_wp2_with fail
  refine hK.out _ _ ?_ (fun hHeld2 => ?_)
  · exact two7 X10A.out X12A.out
  clear hK Kx hHeld
  have hHeld := hHeld2
  clear hHeld2
  try simp only [Act.put, List.setIfInBounds_toArray, List.set_cons_zero, List.set_cons_succ]
  refine wpAnyH_ready (rs := [4]) (by as_aux_lemma => kernel_rfl) (by simp) ?_
  refine AllReadyH.cons (o := { dst := some 91, op := Op.call { callee := Callee.value (Operand.func 41), args := #[Operand.tmp 89, Operand.tmp 90], argTypes := #[43, 70] }, type := 43, pos := "rost.go:51", after := #[{ on := 2, ground := Ground.data }, { on := 3, ground := Ground.data }, { on := 2, ground := Ground.chain }], guard := none }) rfl (fun Kx hK => ?_) AllReadyH.nil
  go_simp
  refine (rwithout_any YA.out (by have := dropO_le l ⟨u, o, ⟨a1, a2, a3, a4, a5⟩⟩; omega) o u b1 b2 b3 b4 b5).mono ?_
  rintro e wB ⟨z, rfl, hz, bB⟩
  have ZE := Lib.hid (hz.rd entOK).ents
  have X10B := Lib.hid (heap_laterR X10A.out bB)
  have X12B := Lib.hid (heap_laterR X12A.out bB)
  have HBB := Lib.hid (below2S HBA.out bB)
  clear hz bB
  go_wp2_with fail
  refine hK.out _ _ ?_ (fun hHeld2 => ?_)
  · exact two7 X10B.out X12B.out
  clear hK Kx hHeld
  have hHeld := hHeld2
  clear hHeld2
  try simp only [Act.put, List.setIfInBounds_toArray, List.set_cons_zero, List.set_cons_succ]
  refine wpAnyH_take (i := 5) (oi := { dst := some 8, op := Op.assign (Operand.tmp 91), type := 43, pos := "rost.go:51", after := #[{ on := 4, ground := Ground.data }, { on := 4, ground := Ground.chain }, { on := 0, ground := Ground.phase }, { on := 1, ground := Ground.phase }, { on := 2, ground := Ground.phase }, { on := 3, ground := Ground.phase }, { on := 4, ground := Ground.phase }], guard := none }) (v := ?_) rfl (by as_aux_lemma => kernel_rfl) (by as_aux_lemma => kernel_rfl) (by as_aux_lemma => kernel_rfl) (fun _ _ _ h => h) (Or.inl ⟨by rfl, ?_⟩) (by assumption) ?_
  rotate_left
  · intro w' hSw
    try dsimp only at hSw
    go_simp
    try with_reducible rfl
  try simp only [Act.put, List.setIfInBounds_toArray, List.set_cons_zero, List.set_cons_succ]
  refine wpAnyH_take (i := 6) (oi := { dst := some 9, op := Op.assign (Operand.const (Value.int IntKind.i64 0)), type := 45, pos := "rost.go:51", after := #[{ on := 5, ground := Ground.chain }, { on := 0, ground := Ground.phase }, { on := 1, ground := Ground.phase }, { on := 2, ground := Ground.phase }, { on := 3, ground := Ground.phase }, { on := 4, ground := Ground.phase }, { on := 5, ground := Ground.phase }], guard := none }) (v := ?_) rfl (by as_aux_lemma => kernel_rfl) (by as_aux_lemma => kernel_rfl) (by as_aux_lemma => kernel_rfl) (fun _ _ _ h => h) (Or.inl ⟨by rfl, ?_⟩) (by assumption) ?_
  rotate_left
  · intro w' hSw
    try dsimp only at hSw
    go_simp
    try with_reducible rfl
  try simp only [Act.put, List.setIfInBounds_toArray, List.set_cons_zero, List.set_cons_succ]
  refine wpAnyH_done (by kernel_rfl) ?_ _
  go_wp2_with fail
  go_ret2
  exact ⟨_, rfl, ZE.out, HBB.out⟩

set_option maxHeartbeats 3200000 in
set_option maxRecDepth 100000 in
theorem rdoG2 {w : World} {v : Value} {l : List Ent} (hv : Ents w v l) (hs : ShortE l) (hl : l.length ≤ 900) (u o : List UInt8) (hu : u.length ≤ 4294967296) (ho : o.length ≤ 4294967296) (k : Int) (hm : roMayC l = true) (h1 : idIs u = true) (h2 : idIs o = true) (h3 : (u == o) = false) {i1 i2 i3 i4 i5 j1 j2 j3 j4 j5 q q' a1 a2 a3 a4 a5 b1 b2 b3 b4 b5 : Bool} (hi : roIt l u o = ⟨i1, i2, i3, i4, i5⟩) (hj : roIt l o u = ⟨j1, j2, j3, j4, j5⟩) (hq : (l.any fun x => entIs x ⟨u, o, It.zero⟩) = q) (hq' : (l.any fun x => entIs x ⟨o, u, It.zero⟩) = q') (hk : (Lit.int .i64 k).wf = true) (hact : suAct ⟨i1, i2, i3, i4, i5⟩ ⟨j1, j2, j3, j4, j5⟩ k = (⟨a1, a2, a3, a4, a5⟩, ⟨b1, b2, b3, b4, b5⟩, 0)) (hf : q = false) (gu : decide (16 ≤ (roOf l u).length) = false) (go : decide (16 ≤ (roOf l o).length) = false) (ga : suEmpty ⟨a1, a2, a3, a4, a5⟩ = true) (gb : suEmpty ⟨b1, b2, b3, b4, b5⟩ = true) :
    Calls Try.prog 26 #[v, .int .i64 k, .string ⟨u.toArray⟩, .string ⟨o.toArray⟩] w fun e w' => ∃ v', e = .returned (.tuple #[v', .int .i64 0]) ∧ Ents w' v' (dropO entIs (dropO entIs l ⟨u, o, ⟨a1, a2, a3, a4, a5⟩⟩) ⟨o, u, ⟨b1, b2, b3, b4, b5⟩⟩) ∧ Below w.heap.size w w' := by
  subst hf
  have GU := Lib.hid gu
  have GO := Lib.hid go
  clear gu go
  have GA := Lib.hid (sempty_eq a1 a2 a3 a4 a5 ga)
  have GB := Lib.hid (sempty_eq b1 b2 b3 b4 b5 gb)
  clear ga gb
  have HV := Lib.hid hv
  have HM := Lib.hid (romay_any hv hs (Lib.hid hm))
  have HR := Lib.hid (roMay_rise hm)
  have I1 := Lib.hid (is_eq u hu (Lib.hid h1))
  have I2 := Lib.hid (is_eq o ho (Lib.hid h2))
  have E1 := Lib.hid (entry_any u o)
  have E2 := Lib.hid (entry_any o u)
  have FI := Lib.hid hi
  have FJ := Lib.hid hj
  have FQ := Lib.hid hq
  have FQ' := Lib.hid hq'
  have HA := Lib.hid (sact_any i1 i2 i3 i4 i5 j1 j2 j3 j4 j5 k hk)
  rw [hact] at HA
  obtain ⟨a, cap, rfl, hmx⟩ := hv.open'
  clear hv hs hm h1 h2 hi hj hq hq' hk hact
  go_enter Try.func26, Try.ntmps26
  go_wp2_with fail
  refine HM.out.mono ?_
  rintro e w1 ⟨rfl, b1⟩
  have HB := Lib.hid b1
  clear b1
  go_wp2_with fail
  refine (I1.out _).mono ?_
  rintro e w2 ⟨rfl, b⟩
  replace HB := Lib.hid (below2S HB.out b)
  clear b
  go_wp2_with fail
  refine (I2.out _).mono ?_
  rintro e w3 ⟨rfl, b⟩
  replace HB := Lib.hid (below2S HB.out b)
  clear b
  go_wp2_with fail
  refine (E1.out _).mono ?_
  rintro e w4 ⟨rfl, b⟩
  replace HB := Lib.hid (below2S HB.out b)
  clear b
  go_wp2_with fail
  refine (rfind_eq (HV.out.later HB.out) HR.out u o FI FQ).mono ?_
  rintro e w5 ⟨rfl, b⟩
  have bb := bl_newZ w5 (.cells #[.string ⟨u.toArray⟩, .string ⟨o.toArray⟩, .bool i1, .bool i2, .bool i3, .bool i4, .bool i5] 70)
  have X10 := Lib.hid (heap_newR w5 (.cells #[.string ⟨u.toArray⟩, .string ⟨o.toArray⟩, .bool i1, .bool i2, .bool i3, .bool i4, .bool i5] 70) rfl)
  have HS5 := Lib.hid (below2S HB.out b).size
  replace HB := Lib.hid (below2S (below2S HB.out b) bb)
  clear b bb
  go_wp2_with fail
  generalize hW : w5.alloc (.cells #[.string ⟨u.toArray⟩, .string ⟨o.toArray⟩, .bool i1, .bool i2, .bool i3, .bool i4, .bool i5] 70) = w6 at HB X10 ⊢
  generalize hN : w5.heap.size = n5 at X10 HS5 ⊢
  clear hW hN
  refine (E2.out _).mono ?_
  rintro e w7 ⟨rfl, b⟩
  replace X10 := Lib.hid (heap_laterR X10.out b)
  replace HB := Lib.hid (below2S HB.out b)
  clear b
  go_wp2_with fail
  refine (rfind_eq (HV.out.later HB.out) HR.out o u FJ FQ').mono ?_
  rintro e w8 ⟨rfl, b⟩
  have bb := bl_newZ w8 (.cells #[.string ⟨o.toArray⟩, .string ⟨u.toArray⟩, .bool j1, .bool j2, .bool j3, .bool j4, .bool j5] 70)
  have X12 := Lib.hid (heap_newR w8 (.cells #[.string ⟨o.toArray⟩, .string ⟨u.toArray⟩, .bool j1, .bool j2, .bool j3, .bool j4, .bool j5] 70) rfl)
  have HS8 := Lib.hid (below2S HB.out b).size
  replace X10 := Lib.hid (heap_laterR X10.out b)
  have hne := Lib.hid (heap_ltR X10.out)
  replace X10 := Lib.hid (heap_laterR X10.out bb)
  replace HB := Lib.hid (below2S (below2S HB.out b) bb)
  clear b bb
  obtain ⟨c0, c1, c2, c3, c4, c5, c6⟩ := e7_cells X10.out
  obtain ⟨d0, d1, d2, d3, d4, d5, d6⟩ := e7_cells X12.out
  simp only [Nat.zero_add] at c0 c1 c2 c3 c4 c5 c6 d0 d1 d2 d3 d4 d5 d6
  go_wp2_with fail
  generalize hW : w8.alloc (.cells #[.string ⟨o.toArray⟩, .string ⟨u.toArray⟩, .bool j1, .bool j2, .bool j3, .bool j4, .bool j5] 70) = w9 at HB X10 X12 c0 c1 c2 c3 c4 c5 c6 d0 d1 d2 d3 d4 d5 d6 ⊢
  generalize hN : w8.heap.size = n8 at X12 HS8 hne d0 d1 d2 d3 d4 d5 d6 ⊢
  clear hW hN c0 c1 c2 c3 c4 c5 c6 d0 d1 d2 d3 d4 d5 d6
  refine (HA.out _).mono ?_
  rintro e w10 ⟨rfl, b⟩
  replace X10 := Lib.hid (heap_laterR X10.out b)
  replace X12 := Lib.hid (heap_laterR X12.out b)
  replace HB := Lib.hid (below2S HB.out b)
  clear b
  have hne1 : n5 ≠ n8 := by have := hne.out; omega
  have Y12 := e7_other X12.out hne1 a1 a2 a3 a4 a5
  have Y10 := e7_set X10.out a1 a2 a3 a4 a5
  have Z12 := Lib.hid (e7_set Y12 b1 b2 b3 b4 b5)
  have Z10 := Lib.hid (e7_other Y10 hne1.symm b1 b2 b3 b4 b5)
  have ZB := Lib.hid (setI_below (setI_below HB.out HS5.out a1 a2 a3 a4 a5) HS8.out b1 b2 b3 b4 b5)
  obtain ⟨c0, c1, c2, c3, c4, c5, c6⟩ := e7_cells X10.out
  obtain ⟨d0, d1, d2, d3, d4, d5, d6⟩ := e7_cells Y12
  simp only [Nat.zero_add] at c0 c1 c2 c3 c4 c5 c6 d0 d1 d2 d3 d4 d5 d6
  have f2 := e7_frozen X10.out 2
  have f3 := e7_frozen X10.out 3
  have f4 := e7_frozen X10.out 4
  have f5 := e7_frozen X10.out 5
  have f6 := e7_frozen X10.out 6
  have g2 := e7_frozen Y12 2
  have g3 := e7_frozen Y12 3
  have g4 := e7_frozen Y12 4
  have g5 := e7_frozen Y12 5
  have g6 := e7_frozen Y12 6
  unfold setI at d0 d1 d2 d3 d4 d5 d6 g2 g3 g4 g5 g6
  clear Y10 Y12
  unfold actE
  obtain ⟨e0, e1, e2, e3, e4, e5, e6⟩ := e7_cells Z10.out
  obtain ⟨p0, p1, p2, p3, p4, p5, p6⟩ := e7_cells Z12.out
  simp only [Nat.zero_add] at e0 e1 e2 e3 e4 e5 e6 p0 p1 p2 p3 p4 p5 p6
  unfold setI at e0 e1 e2 e3 e4 e5 e6 p0 p1 p2 p3 p4 p5 p6
  replace X10 := Z10
  replace X12 := Z12
  replace HB := ZB
  clear Z10 Z12 ZB
  go_wp2_with fail
  clear c0 c1 c2 c3 c4 c5 c6 d0 d1 d2 d3 d4 d5 d6 f2 f3 f4 f5 f6 g2 g3 g4 g5 g6 e0 e1 e2 e3 e4 e5 e6 p0 p1 p2 p3 p4 p5 p6 HA FI FJ FQ FQ' HM I1 I2 E1 E2
  refine (risFull_any (HV.out.later HB.out) (by omega) u GU).mono ?_
  rintro e w12 ⟨rfl, b⟩
  replace X10 := Lib.hid (heap_laterR X10.out b)
  replace X12 := Lib.hid (heap_laterR X12.out b)
  replace HB := Lib.hid (below2S HB.out b)
  clear b
  go_wp2_with fail
  refine (risFull_any (HV.out.later HB.out) (by omega) o GO).mono ?_
  rintro e w13 ⟨rfl, b⟩
  replace X10 := Lib.hid (heap_laterR X10.out b)
  replace X12 := Lib.hid (heap_laterR X12.out b)
  replace HB := Lib.hid (below2S HB.out b)
  clear b
  obtain ⟨e0, e1, e2, e3, e4, e5, e6⟩ := e7_cells X10.out
  obtain ⟨p0, p1, p2, p3, p4, p5, p6⟩ := e7_cells X12.out
  simp only [Nat.zero_add] at e0 e1 e2 e3 e4 e5 e6 p0 p1 p2 p3 p4 p5 p6
  go_wp2_with fail
  clear e0 e1 e2 e3 e4 e5 e6 p0 p1 p2 p3 p4 p5 p6
  refine (GA.out _).mono ?_
  rintro e w14 ⟨rfl, b⟩
  replace X10 := Lib.hid (heap_laterR X10.out b)
  replace X12 := Lib.hid (heap_laterR X12.out b)
  replace HB := Lib.hid (below2S HB.out b)
  clear b
  obtain ⟨e0, e1, e2, e3, e4, e5, e6⟩ := e7_cells X10.out
  obtain ⟨p0, p1, p2, p3, p4, p5, p6⟩ := e7_cells X12.out
  simp only [Nat.zero_add] at e0 e1 e2 e3 e4 e5 e6 p0 p1 p2 p3 p4 p5 p6
  go_wp2_with fail
  clear e0 e1 e2 e3 e4 e5 e6 p0 p1 p2 p3 p4 p5 p6
  refine (GB.out _).mono ?_
  rintro e w15 ⟨rfl, b⟩
  replace X10 := Lib.hid (heap_laterR X10.out b)
  replace X12 := Lib.hid (heap_laterR X12.out b)
  replace HB := Lib.hid (below2S HB.out b)
  clear b
  go_wp2_with fail
  have hS0 := two7 X10.out X12.out
  refine wp_region_held_drew (S := (fun W => ((W).cell? ⟨n5, 0, none⟩ = some (.string ⟨u.toArray⟩) ∧ (W).cell? ⟨n5, 1, none⟩ = some (.string ⟨o.toArray⟩) ∧ (W).cell? ⟨n5, 2, none⟩ = some (.bool a1) ∧ (W).cell? ⟨n5, 3, none⟩ = some (.bool a2) ∧ (W).cell? ⟨n5, 4, none⟩ = some (.bool a3) ∧ (W).cell? ⟨n5, 5, none⟩ = some (.bool a4) ∧ (W).cell? ⟨n5, 6, none⟩ = some (.bool a5) ∧ (W).cell? ⟨n8, 0, none⟩ = some (.string ⟨o.toArray⟩) ∧ (W).cell? ⟨n8, 1, none⟩ = some (.string ⟨u.toArray⟩) ∧ (W).cell? ⟨n8, 2, none⟩ = some (.bool b1) ∧ (W).cell? ⟨n8, 3, none⟩ = some (.bool b2) ∧ (W).cell? ⟨n8, 4, none⟩ = some (.bool b3) ∧ (W).cell? ⟨n8, 5, none⟩ = some (.bool b4) ∧ (W).cell? ⟨n8, 6, none⟩ = some (.bool b5)))) (by kernel_rfl) ?_ (fun hHeld => ?_)
  · exact two7 (heap_laterR X10.out (Below.refl _ _).drew) (heap_laterR X12.out (Below.refl _ _).drew)
  refine wpAnyH_take (i := 0) (oi := { dst := some 87, op := Op.move (Operand.tmp 0), type := 43, pos := "rost.go:51", after := #[], guard := none }) (v := ?_) rfl (by as_aux_lemma => kernel_rfl) (by as_aux_lemma => kernel_rfl) (by as_aux_lemma => kernel_rfl) (fun _ _ _ h => h) (Or.inl ⟨by rfl, ?_⟩) (by assumption) ?_
  rotate_left
  · intro w' hSw
    try dsimp only at hSw
    go_simp
    try with_reducible rfl
  try simp only [Act.put, List.setIfInBounds_toArray, List.set_cons_zero, List.set_cons_succ]
  refine wpAnyH_take (i := 1) (oi := { dst := some 88, op := Op.load 70 (Operand.tmp 10), type := 70, pos := "rost.go:51", after := #[], guard := none }) (v := ?_) rfl (by as_aux_lemma => kernel_rfl) (by as_aux_lemma => kernel_rfl) (by as_aux_lemma => kernel_rfl) (fun _ _ _ h => h) (Or.inl ⟨by rfl, ?_⟩) (by assumption) ?_
  rotate_left
  · intro w' hSw
    try dsimp only at hSw
    go_simp
    try with_reducible rfl
  try simp only [Act.put, List.setIfInBounds_toArray, List.set_cons_zero, List.set_cons_succ]
  refine wpAnyH_take (i := 3) (oi := { dst := some 90, op := Op.load 70 (Operand.tmp 12), type := 70, pos := "rost.go:51", after := #[], guard := none }) (v := ?_) rfl (by as_aux_lemma => kernel_rfl) (by as_aux_lemma => kernel_rfl) (by as_aux_lemma => kernel_rfl) (fun _ _ _ h => h) (Or.inl ⟨by rfl, ?_⟩) (by assumption) ?_
  rotate_left
  · intro w' hSw
    try dsimp only at hSw
    go_simp
    try with_reducible rfl
  try simp only [Act.put, List.setIfInBounds_toArray, List.set_cons_zero, List.set_cons_succ]
  refine wpAnyH_ready (rs := [2]) (by as_aux_lemma => kernel_rfl) (by simp) ?_
  refine AllReadyH.cons (o := { dst := some 89, op := Op.call { callee := Callee.value (Operand.func 41), args := #[Operand.tmp 87, Operand.tmp 88], argTypes := #[43, 70] }, type := 43, pos := "rost.go:51", after := #[{ on := 0, ground := Ground.data }, { on := 1, ground := Ground.data }], guard := none }) rfl (fun Kx hK => ?_) AllReadyH.nil
  go_simp
  refine (rwithout_any ((HV.out.later HB.out).later (Below.refl _ _).drew) (by omega) u o a1 a2 a3 a4 a5).mono ?_
  rintro e wA ⟨y, rfl, hy, bA⟩
  have bd := below2Z (Below.refl _ _).drew bA
  have HY := Lib.hid hy
  have YA := Lib.hid (hy.rd entOK).ents
  have X10A := Lib.hid (heap_laterR X10.out bd)
  have X12A := Lib.hid (heap_laterR X12.out bd)
  have HBA := Lib.hid (below2S HB.out bd)
  clear bd hy bA
  go_wp2_with fail
  refine hK.out _ _ ?_ (fun hHeld2 => ?_)
  · exact two7 X10A.out X12A.out
  clear hK Kx hHeld
  have hHeld := hHeld2
  clear hHeld2
  try simp only [Act.put, List.setIfInBounds_toArray, List.set_cons_zero, List.set_cons_succ]
  refine wpAnyH_ready (rs := [4]) (by as_aux_lemma => kernel_rfl) (by simp) ?_
  refine AllReadyH.cons (o := { dst := some 91, op := Op.call { callee := Callee.value (Operand.func 41), args := #[Operand.tmp 89, Operand.tmp 90], argTypes := #[43, 70] }, type := 43, pos := "rost.go:51", after := #[{ on := 2, ground := Ground.data }, { on := 3, ground := Ground.data }, { on := 2, ground := Ground.chain }], guard := none }) rfl (fun Kx hK => ?_) AllReadyH.nil
  go_simp
  refine (rwithout_any YA.out (by have := dropO_le l ⟨u, o, ⟨a1, a2, a3, a4, a5⟩⟩; omega) o u b1 b2 b3 b4 b5).mono ?_
  rintro e wB ⟨z, rfl, hz, bB⟩
  have ZE := Lib.hid (hz.rd entOK).ents
  have X10B := Lib.hid (heap_laterR X10A.out bB)
  have X12B := Lib.hid (heap_laterR X12A.out bB)
  have HBB := Lib.hid (below2S HBA.out bB)
  clear hz bB
  go_wp2_with fail
  refine hK.out _ _ ?_ (fun hHeld2 => ?_)
  · exact two7 X10B.out X12B.out
  clear hK Kx hHeld
  have hHeld := hHeld2
  clear hHeld2
  try simp only [Act.put, List.setIfInBounds_toArray, List.set_cons_zero, List.set_cons_succ]
  refine wpAnyH_take (i := 5) (oi := { dst := some 8, op := Op.assign (Operand.tmp 91), type := 43, pos := "rost.go:51", after := #[{ on := 4, ground := Ground.data }, { on := 4, ground := Ground.chain }, { on := 0, ground := Ground.phase }, { on := 1, ground := Ground.phase }, { on := 2, ground := Ground.phase }, { on := 3, ground := Ground.phase }, { on := 4, ground := Ground.phase }], guard := none }) (v := ?_) rfl (by as_aux_lemma => kernel_rfl) (by as_aux_lemma => kernel_rfl) (by as_aux_lemma => kernel_rfl) (fun _ _ _ h => h) (Or.inl ⟨by rfl, ?_⟩) (by assumption) ?_
  rotate_left
  · intro w' hSw
    try dsimp only at hSw
    go_simp
    try with_reducible rfl
  try simp only [Act.put, List.setIfInBounds_toArray, List.set_cons_zero, List.set_cons_succ]
  refine wpAnyH_take (i := 6) (oi := { dst := some 9, op := Op.assign (Operand.const (Value.int IntKind.i64 0)), type := 45, pos := "rost.go:51", after := #[{ on := 5, ground := Ground.chain }, { on := 0, ground := Ground.phase }, { on := 1, ground := Ground.phase }, { on := 2, ground := Ground.phase }, { on := 3, ground := Ground.phase }, { on := 4, ground := Ground.phase }, { on := 5, ground := Ground.phase }], guard := none }) (v := ?_) rfl (by as_aux_lemma => kernel_rfl) (by as_aux_lemma => kernel_rfl) (by as_aux_lemma => kernel_rfl) (fun _ _ _ h => h) (Or.inl ⟨by rfl, ?_⟩) (by assumption) ?_
  rotate_left
  · intro w' hSw
    try dsimp only at hSw
    go_simp
    try with_reducible rfl
  try simp only [Act.put, List.setIfInBounds_toArray, List.set_cons_zero, List.set_cons_succ]
  refine wpAnyH_done (by kernel_rfl) ?_ _
  go_wp2_with fail
  go_ret2
  exact ⟨_, rfl, ZE.out, HBB.out⟩

set_option maxHeartbeats 3200000 in
set_option maxRecDepth 100000 in
theorem rdoH1 {w : World} {v : Value} {l : List Ent} (hv : Ents w v l) (hs : ShortE l) (hl : l.length ≤ 900) (u o : List UInt8) (hu : u.length ≤ 4294967296) (ho : o.length ≤ 4294967296) (k : Int) (hm : roMayC l = true) (h1 : idIs u = true) (h2 : idIs o = true) (h3 : (u == o) = false) {i1 i2 i3 i4 i5 j1 j2 j3 j4 j5 q q' a1 a2 a3 a4 a5 b1 b2 b3 b4 b5 : Bool} (hi : roIt l u o = ⟨i1, i2, i3, i4, i5⟩) (hj : roIt l o u = ⟨j1, j2, j3, j4, j5⟩) (hq : (l.any fun x => entIs x ⟨u, o, It.zero⟩) = q) (hq' : (l.any fun x => entIs x ⟨o, u, It.zero⟩) = q') (hk : (Lit.int .i64 k).wf = true) (hact : suAct ⟨i1, i2, i3, i4, i5⟩ ⟨j1, j2, j3, j4, j5⟩ k = (⟨a1, a2, a3, a4, a5⟩, ⟨b1, b2, b3, b4, b5⟩, 0)) (hf : q = true) (ga : suEmpty ⟨a1, a2, a3, a4, a5⟩ = false) :
    Calls Try.prog 26 #[v, .int .i64 k, .string ⟨u.toArray⟩, .string ⟨o.toArray⟩] w fun e w' => ∃ v', e = .returned (.tuple #[v', .int .i64 0]) ∧ Ents w' v' (putO entLt entIs (putO entLt entIs l ⟨u, o, ⟨a1, a2, a3, a4, a5⟩⟩) ⟨o, u, ⟨b1, b2, b3, b4, b5⟩⟩) ∧ Below w.heap.size w w' := by
  subst hf
  have GA := Lib.hid (sempty_eq a1 a2 a3 a4 a5 ga)
  clear ga
  have HV := Lib.hid hv
  have HM := Lib.hid (romay_any hv hs (Lib.hid hm))
  have HR := Lib.hid (roMay_rise hm)
  have I1 := Lib.hid (is_eq u hu (Lib.hid h1))
  have I2 := Lib.hid (is_eq o ho (Lib.hid h2))
  have E1 := Lib.hid (entry_any u o)
  have E2 := Lib.hid (entry_any o u)
  have FI := Lib.hid hi
  have FJ := Lib.hid hj
  have FQ := Lib.hid hq
  have FQ' := Lib.hid hq'
  have HA := Lib.hid (sact_any i1 i2 i3 i4 i5 j1 j2 j3 j4 j5 k hk)
  rw [hact] at HA
  obtain ⟨a, cap, rfl, hmx⟩ := hv.open'
  clear hv hs hm h1 h2 hi hj hq hq' hk hact
  go_enter Try.func26, Try.ntmps26
  go_wp2_with fail
  refine HM.out.mono ?_
  rintro e w1 ⟨rfl, b1⟩
  have HB := Lib.hid b1
  clear b1
  go_wp2_with fail
  refine (I1.out _).mono ?_
  rintro e w2 ⟨rfl, b⟩
  replace HB := Lib.hid (below2S HB.out b)
  clear b
  go_wp2_with fail
  refine (I2.out _).mono ?_
  rintro e w3 ⟨rfl, b⟩
  replace HB := Lib.hid (below2S HB.out b)
  clear b
  go_wp2_with fail
  refine (E1.out _).mono ?_
  rintro e w4 ⟨rfl, b⟩
  replace HB := Lib.hid (below2S HB.out b)
  clear b
  go_wp2_with fail
  refine (rfind_eq (HV.out.later HB.out) HR.out u o FI FQ).mono ?_
  rintro e w5 ⟨rfl, b⟩
  have bb := bl_newZ w5 (.cells #[.string ⟨u.toArray⟩, .string ⟨o.toArray⟩, .bool i1, .bool i2, .bool i3, .bool i4, .bool i5] 70)
  have X10 := Lib.hid (heap_newR w5 (.cells #[.string ⟨u.toArray⟩, .string ⟨o.toArray⟩, .bool i1, .bool i2, .bool i3, .bool i4, .bool i5] 70) rfl)
  have HS5 := Lib.hid (below2S HB.out b).size
  replace HB := Lib.hid (below2S (below2S HB.out b) bb)
  clear b bb
  go_wp2_with fail
  generalize hW : w5.alloc (.cells #[.string ⟨u.toArray⟩, .string ⟨o.toArray⟩, .bool i1, .bool i2, .bool i3, .bool i4, .bool i5] 70) = w6 at HB X10 ⊢
  generalize hN : w5.heap.size = n5 at X10 HS5 ⊢
  clear hW hN
  refine (E2.out _).mono ?_
  rintro e w7 ⟨rfl, b⟩
  replace X10 := Lib.hid (heap_laterR X10.out b)
  replace HB := Lib.hid (below2S HB.out b)
  clear b
  go_wp2_with fail
  refine (rfind_eq (HV.out.later HB.out) HR.out o u FJ FQ').mono ?_
  rintro e w8 ⟨rfl, b⟩
  have bb := bl_newZ w8 (.cells #[.string ⟨o.toArray⟩, .string ⟨u.toArray⟩, .bool j1, .bool j2, .bool j3, .bool j4, .bool j5] 70)
  have X12 := Lib.hid (heap_newR w8 (.cells #[.string ⟨o.toArray⟩, .string ⟨u.toArray⟩, .bool j1, .bool j2, .bool j3, .bool j4, .bool j5] 70) rfl)
  have HS8 := Lib.hid (below2S HB.out b).size
  replace X10 := Lib.hid (heap_laterR X10.out b)
  have hne := Lib.hid (heap_ltR X10.out)
  replace X10 := Lib.hid (heap_laterR X10.out bb)
  replace HB := Lib.hid (below2S (below2S HB.out b) bb)
  clear b bb
  obtain ⟨c0, c1, c2, c3, c4, c5, c6⟩ := e7_cells X10.out
  obtain ⟨d0, d1, d2, d3, d4, d5, d6⟩ := e7_cells X12.out
  simp only [Nat.zero_add] at c0 c1 c2 c3 c4 c5 c6 d0 d1 d2 d3 d4 d5 d6
  go_wp2_with fail
  generalize hW : w8.alloc (.cells #[.string ⟨o.toArray⟩, .string ⟨u.toArray⟩, .bool j1, .bool j2, .bool j3, .bool j4, .bool j5] 70) = w9 at HB X10 X12 c0 c1 c2 c3 c4 c5 c6 d0 d1 d2 d3 d4 d5 d6 ⊢
  generalize hN : w8.heap.size = n8 at X12 HS8 hne d0 d1 d2 d3 d4 d5 d6 ⊢
  clear hW hN c0 c1 c2 c3 c4 c5 c6 d0 d1 d2 d3 d4 d5 d6
  refine (HA.out _).mono ?_
  rintro e w10 ⟨rfl, b⟩
  replace X10 := Lib.hid (heap_laterR X10.out b)
  replace X12 := Lib.hid (heap_laterR X12.out b)
  replace HB := Lib.hid (below2S HB.out b)
  clear b
  have hne1 : n5 ≠ n8 := by have := hne.out; omega
  have Y12 := e7_other X12.out hne1 a1 a2 a3 a4 a5
  have Y10 := e7_set X10.out a1 a2 a3 a4 a5
  have Z12 := Lib.hid (e7_set Y12 b1 b2 b3 b4 b5)
  have Z10 := Lib.hid (e7_other Y10 hne1.symm b1 b2 b3 b4 b5)
  have ZB := Lib.hid (setI_below (setI_below HB.out HS5.out a1 a2 a3 a4 a5) HS8.out b1 b2 b3 b4 b5)
  obtain ⟨c0, c1, c2, c3, c4, c5, c6⟩ := e7_cells X10.out
  obtain ⟨d0, d1, d2, d3, d4, d5, d6⟩ := e7_cells Y12
  simp only [Nat.zero_add] at c0 c1 c2 c3 c4 c5 c6 d0 d1 d2 d3 d4 d5 d6
  have f2 := e7_frozen X10.out 2
  have f3 := e7_frozen X10.out 3
  have f4 := e7_frozen X10.out 4
  have f5 := e7_frozen X10.out 5
  have f6 := e7_frozen X10.out 6
  have g2 := e7_frozen Y12 2
  have g3 := e7_frozen Y12 3
  have g4 := e7_frozen Y12 4
  have g5 := e7_frozen Y12 5
  have g6 := e7_frozen Y12 6
  unfold setI at d0 d1 d2 d3 d4 d5 d6 g2 g3 g4 g5 g6
  clear Y10 Y12
  unfold actE
  obtain ⟨e0, e1, e2, e3, e4, e5, e6⟩ := e7_cells Z10.out
  obtain ⟨p0, p1, p2, p3, p4, p5, p6⟩ := e7_cells Z12.out
  simp only [Nat.zero_add] at e0 e1 e2 e3 e4 e5 e6 p0 p1 p2 p3 p4 p5 p6
  unfold setI at e0 e1 e2 e3 e4 e5 e6 p0 p1 p2 p3 p4 p5 p6
  replace X10 := Z10
  replace X12 := Z12
  replace HB := ZB
  clear Z10 Z12 ZB
  go_wp2_with fail
  clear c0 c1 c2 c3 c4 c5 c6 d0 d1 d2 d3 d4 d5 d6 f2 f3 f4 f5 f6 g2 g3 g4 g5 g6 e0 e1 e2 e3 e4 e5 e6 p0 p1 p2 p3 p4 p5 p6 HA FI FJ FQ FQ' HM I1 I2 E1 E2
  refine (GA.out _).mono ?_
  rintro e w14 ⟨rfl, b⟩
  replace X10 := Lib.hid (heap_laterR X10.out b)
  replace X12 := Lib.hid (heap_laterR X12.out b)
  replace HB := Lib.hid (below2S HB.out b)
  clear b
  obtain ⟨e0, e1, e2, e3, e4, e5, e6⟩ := e7_cells X10.out
  obtain ⟨p0, p1, p2, p3, p4, p5, p6⟩ := e7_cells X12.out
  simp only [Nat.zero_add] at e0 e1 e2 e3 e4 e5 e6 p0 p1 p2 p3 p4 p5 p6
  go_wp2_with fail
  clear e0 e1 e2 e3 e4 e5 e6 p0 p1 p2 p3 p4 p5 p6
  have hS0 := two7 X10.out X12.out
  refine wp_region_held_drew (S := (fun W => ((W).cell? ⟨n5, 0, none⟩ = some (.string ⟨u.toArray⟩) ∧ (W).cell? ⟨n5, 1, none⟩ = some (.string ⟨o.toArray⟩) ∧ (W).cell? ⟨n5, 2, none⟩ = some (.bool a1) ∧ (W).cell? ⟨n5, 3, none⟩ = some (.bool a2) ∧ (W).cell? ⟨n5, 4, none⟩ = some (.bool a3) ∧ (W).cell? ⟨n5, 5, none⟩ = some (.bool a4) ∧ (W).cell? ⟨n5, 6, none⟩ = some (.bool a5) ∧ (W).cell? ⟨n8, 0, none⟩ = some (.string ⟨o.toArray⟩) ∧ (W).cell? ⟨n8, 1, none⟩ = some (.string ⟨u.toArray⟩) ∧ (W).cell? ⟨n8, 2, none⟩ = some (.bool b1) ∧ (W).cell? ⟨n8, 3, none⟩ = some (.bool b2) ∧ (W).cell? ⟨n8, 4, none⟩ = some (.bool b3) ∧ (W).cell? ⟨n8, 5, none⟩ = some (.bool b4) ∧ (W).cell? ⟨n8, 6, none⟩ = some (.bool b5)))) (by kernel_rfl) ?_ (fun hHeld => ?_)
  · exact two7 (heap_laterR X10.out (Below.refl _ _).drew) (heap_laterR X12.out (Below.refl _ _).drew)
  refine wpAnyH_take (i := 0) (oi := { dst := some 92, op := Op.move (Operand.tmp 0), type := 43, pos := "rost.go:53", after := #[], guard := none }) (v := ?_) rfl (by as_aux_lemma => kernel_rfl) (by as_aux_lemma => kernel_rfl) (by as_aux_lemma => kernel_rfl) (fun _ _ _ h => h) (Or.inl ⟨by rfl, ?_⟩) (by assumption) ?_
  rotate_left
  · intro w' hSw
    try dsimp only at hSw
    go_simp
    try with_reducible rfl
  try simp only [Act.put, List.setIfInBounds_toArray, List.set_cons_zero, List.set_cons_succ]
  refine wpAnyH_take (i := 1) (oi := { dst := some 93, op := Op.load 70 (Operand.tmp 10), type := 70, pos := "rost.go:53", after := #[], guard := none }) (v := ?_) rfl (by as_aux_lemma => kernel_rfl) (by as_aux_lemma => kernel_rfl) (by as_aux_lemma => kernel_rfl) (fun _ _ _ h => h) (Or.inl ⟨by rfl, ?_⟩) (by assumption) ?_
  rotate_left
  · intro w' hSw
    try dsimp only at hSw
    go_simp
    try with_reducible rfl
  try simp only [Act.put, List.setIfInBounds_toArray, List.set_cons_zero, List.set_cons_succ]
  refine wpAnyH_take (i := 3) (oi := { dst := some 95, op := Op.load 70 (Operand.tmp 12), type := 70, pos := "rost.go:53", after := #[], guard := none }) (v := ?_) rfl (by as_aux_lemma => kernel_rfl) (by as_aux_lemma => kernel_rfl) (by as_aux_lemma => kernel_rfl) (fun _ _ _ h => h) (Or.inl ⟨by rfl, ?_⟩) (by assumption) ?_
  rotate_left
  · intro w' hSw
    try dsimp only at hSw
    go_simp
    try with_reducible rfl
  try simp only [Act.put, List.setIfInBounds_toArray, List.set_cons_zero, List.set_cons_succ]
  refine wpAnyH_ready (rs := [2]) (by as_aux_lemma => kernel_rfl) (by simp) ?_
  refine AllReadyH.cons (o := { dst := some 94, op := Op.call { callee := Callee.value (Operand.func 42), args := #[Operand.tmp 92, Operand.tmp 93], argTypes := #[43, 70] }, type := 43, pos := "rost.go:53", after := #[{ on := 0, ground := Ground.data }, { on := 1, ground := Ground.data }], guard := none }) rfl (fun Kx hK => ?_) AllReadyH.nil
  go_simp
  refine (rwith_any ((HV.out.later HB.out).later (Below.refl _ _).drew) HR.out (by omega) u o a1 a2 a3 a4 a5).mono ?_
  rintro e wA ⟨y, rfl, hy, bA⟩
  have bd := below2Z (Below.refl _ _).drew bA
  have HY := Lib.hid hy
  have YA := Lib.hid (hy.rd entOK).ents
  have X10A := Lib.hid (heap_laterR X10.out bd)
  have X12A := Lib.hid (heap_laterR X12.out bd)
  have HBA := Lib.hid (below2S HB.out bd)
  clear bd hy bA
  go_wp2_with fail
  refine hK.out _ _ ?_ (fun hHeld2 => ?_)
  · exact two7 X10A.out X12A.out
  clear hK Kx hHeld
  have hHeld := hHeld2
  clear hHeld2
  try simp only [Act.put, List.setIfInBounds_toArray, List.set_cons_zero, List.set_cons_succ]
  refine wpAnyH_ready (rs := [4]) (by as_aux_lemma => kernel_rfl) (by simp) ?_
  refine AllReadyH.cons (o := { dst := some 96, op := Op.call { callee := Callee.value (Operand.func 42), args := #[Operand.tmp 94, Operand.tmp 95], argTypes := #[43, 70] }, type := 43, pos := "rost.go:53", after := #[{ on := 2, ground := Ground.data }, { on := 3, ground := Ground.data }, { on := 2, ground := Ground.chain }], guard := none }) rfl (fun Kx hK => ?_) AllReadyH.nil
  go_simp
  refine (rwith_any YA.out (rise_putO entOrd HR.out ⟨u, o, ⟨a1, a2, a3, a4, a5⟩⟩) (by have := putO_le l ⟨u, o, ⟨a1, a2, a3, a4, a5⟩⟩; omega) o u b1 b2 b3 b4 b5).mono ?_
  rintro e wB ⟨z, rfl, hz, bB⟩
  have ZE := Lib.hid (hz.rd entOK).ents
  have X10B := Lib.hid (heap_laterR X10A.out bB)
  have X12B := Lib.hid (heap_laterR X12A.out bB)
  have HBB := Lib.hid (below2S HBA.out bB)
  clear hz bB
  go_wp2_with fail
  refine hK.out _ _ ?_ (fun hHeld2 => ?_)
  · exact two7 X10B.out X12B.out
  clear hK Kx hHeld
  have hHeld := hHeld2
  clear hHeld2
  try simp only [Act.put, List.setIfInBounds_toArray, List.set_cons_zero, List.set_cons_succ]
  refine wpAnyH_take (i := 5) (oi := { dst := some 8, op := Op.assign (Operand.tmp 96), type := 43, pos := "rost.go:53", after := #[{ on := 4, ground := Ground.data }, { on := 4, ground := Ground.chain }, { on := 0, ground := Ground.phase }, { on := 1, ground := Ground.phase }, { on := 2, ground := Ground.phase }, { on := 3, ground := Ground.phase }, { on := 4, ground := Ground.phase }], guard := none }) (v := ?_) rfl (by as_aux_lemma => kernel_rfl) (by as_aux_lemma => kernel_rfl) (by as_aux_lemma => kernel_rfl) (fun _ _ _ h => h) (Or.inl ⟨by rfl, ?_⟩) (by assumption) ?_
  rotate_left
  · intro w' hSw
    try dsimp only at hSw
    go_simp
    try with_reducible rfl
  try simp only [Act.put, List.setIfInBounds_toArray, List.set_cons_zero, List.set_cons_succ]
  refine wpAnyH_take (i := 6) (oi := { dst := some 9, op := Op.assign (Operand.const (Value.int IntKind.i64 0)), type := 45, pos := "rost.go:53", after := #[{ on := 5, ground := Ground.chain }, { on := 0, ground := Ground.phase }, { on := 1, ground := Ground.phase }, { on := 2, ground := Ground.phase }, { on := 3, ground := Ground.phase }, { on := 4, ground := Ground.phase }, { on := 5, ground := Ground.phase }], guard := none }) (v := ?_) rfl (by as_aux_lemma => kernel_rfl) (by as_aux_lemma => kernel_rfl) (by as_aux_lemma => kernel_rfl) (fun _ _ _ h => h) (Or.inl ⟨by rfl, ?_⟩) (by assumption) ?_
  rotate_left
  · intro w' hSw
    try dsimp only at hSw
    go_simp
    try with_reducible rfl
  try simp only [Act.put, List.setIfInBounds_toArray, List.set_cons_zero, List.set_cons_succ]
  refine wpAnyH_done (by kernel_rfl) ?_ _
  go_wp2_with fail
  go_ret2
  exact ⟨_, rfl, ZE.out, HBB.out⟩

set_option maxHeartbeats 3200000 in
set_option maxRecDepth 100000 in
theorem rdoH2 {w : World} {v : Value} {l : List Ent} (hv : Ents w v l) (hs : ShortE l) (hl : l.length ≤ 900) (u o : List UInt8) (hu : u.length ≤ 4294967296) (ho : o.length ≤ 4294967296) (k : Int) (hm : roMayC l = true) (h1 : idIs u = true) (h2 : idIs o = true) (h3 : (u == o) = false) {i1 i2 i3 i4 i5 j1 j2 j3 j4 j5 q q' a1 a2 a3 a4 a5 b1 b2 b3 b4 b5 : Bool} (hi : roIt l u o = ⟨i1, i2, i3, i4, i5⟩) (hj : roIt l o u = ⟨j1, j2, j3, j4, j5⟩) (hq : (l.any fun x => entIs x ⟨u, o, It.zero⟩) = q) (hq' : (l.any fun x => entIs x ⟨o, u, It.zero⟩) = q') (hk : (Lit.int .i64 k).wf = true) (hact : suAct ⟨i1, i2, i3, i4, i5⟩ ⟨j1, j2, j3, j4, j5⟩ k = (⟨a1, a2, a3, a4, a5⟩, ⟨b1, b2, b3, b4, b5⟩, 0)) (hf : q = true) (ga : suEmpty ⟨a1, a2, a3, a4, a5⟩ = true) (gb : suEmpty ⟨b1, b2, b3, b4, b5⟩ = false) :
    Calls Try.prog 26 #[v, .int .i64 k, .string ⟨u.toArray⟩, .string ⟨o.toArray⟩] w fun e w' => ∃ v', e = .returned (.tuple #[v', .int .i64 0]) ∧ Ents w' v' (putO entLt entIs (putO entLt entIs l ⟨u, o, ⟨a1, a2, a3, a4, a5⟩⟩) ⟨o, u, ⟨b1, b2, b3, b4, b5⟩⟩) ∧ Below w.heap.size w w' := by
  subst hf
  have GA := Lib.hid (sempty_eq a1 a2 a3 a4 a5 ga)
  have GB := Lib.hid (sempty_eq b1 b2 b3 b4 b5 gb)
  clear ga gb
  have HV := Lib.hid hv
  have HM := Lib.hid (romay_any hv hs (Lib.hid hm))
  have HR := Lib.hid (roMay_rise hm)
  have I1 := Lib.hid (is_eq u hu (Lib.hid h1))
  have I2 := Lib.hid (is_eq o ho (Lib.hid h2))
  have E1 := Lib.hid (entry_any u o)
  have E2 := Lib.hid (entry_any o u)
  have FI := Lib.hid hi
  have FJ := Lib.hid hj
  have FQ := Lib.hid hq
  have FQ' := Lib.hid hq'
  have HA := Lib.hid (sact_any i1 i2 i3 i4 i5 j1 j2 j3 j4 j5 k hk)
  rw [hact] at HA
  obtain ⟨a, cap, rfl, hmx⟩ := hv.open'
  clear hv hs hm h1 h2 hi hj hq hq' hk hact
  go_enter Try.func26, Try.ntmps26
  go_wp2_with fail
  refine HM.out.mono ?_
  rintro e w1 ⟨rfl, b1⟩
  have HB := Lib.hid b1
  clear b1
  go_wp2_with fail
  refine (I1.out _).mono ?_
  rintro e w2 ⟨rfl, b⟩
  replace HB := Lib.hid (below2S HB.out b)
  clear b
  go_wp2_with fail
  refine (I2.out _).mono ?_
  rintro e w3 ⟨rfl, b⟩
  replace HB := Lib.hid (below2S HB.out b)
  clear b
  go_wp2_with fail
  refine (E1.out _).mono ?_
  rintro e w4 ⟨rfl, b⟩
  replace HB := Lib.hid (below2S HB.out b)
  clear b
  go_wp2_with fail
  refine (rfind_eq (HV.out.later HB.out) HR.out u o FI FQ).mono ?_
  rintro e w5 ⟨rfl, b⟩
  have bb := bl_newZ w5 (.cells #[.string ⟨u.toArray⟩, .string ⟨o.toArray⟩, .bool i1, .bool i2, .bool i3, .bool i4, .bool i5] 70)
  have X10 := Lib.hid (heap_newR w5 (.cells #[.string ⟨u.toArray⟩, .string ⟨o.toArray⟩, .bool i1, .bool i2, .bool i3, .bool i4, .bool i5] 70) rfl)
  have HS5 := Lib.hid (below2S HB.out b).size
  replace HB := Lib.hid (below2S (below2S HB.out b) bb)
  clear b bb
  go_wp2_with fail
  generalize hW : w5.alloc (.cells #[.string ⟨u.toArray⟩, .string ⟨o.toArray⟩, .bool i1, .bool i2, .bool i3, .bool i4, .bool i5] 70) = w6 at HB X10 ⊢
  generalize hN : w5.heap.size = n5 at X10 HS5 ⊢
  clear hW hN
  refine (E2.out _).mono ?_
  rintro e w7 ⟨rfl, b⟩
  replace X10 := Lib.hid (heap_laterR X10.out b)
  replace HB := Lib.hid (below2S HB.out b)
  clear b
  go_wp2_with fail
  refine (rfind_eq (HV.out.later HB.out) HR.out o u FJ FQ').mono ?_
  rintro e w8 ⟨rfl, b⟩
  have bb := bl_newZ w8 (.cells #[.string ⟨o.toArray⟩, .string ⟨u.toArray⟩, .bool j1, .bool j2, .bool j3, .bool j4, .bool j5] 70)
  have X12 := Lib.hid (heap_newR w8 (.cells #[.string ⟨o.toArray⟩, .string ⟨u.toArray⟩, .bool j1, .bool j2, .bool j3, .bool j4, .bool j5] 70) rfl)
  have HS8 := Lib.hid (below2S HB.out b).size
  replace X10 := Lib.hid (heap_laterR X10.out b)
  have hne := Lib.hid (heap_ltR X10.out)
  replace X10 := Lib.hid (heap_laterR X10.out bb)
  replace HB := Lib.hid (below2S (below2S HB.out b) bb)
  clear b bb
  obtain ⟨c0, c1, c2, c3, c4, c5, c6⟩ := e7_cells X10.out
  obtain ⟨d0, d1, d2, d3, d4, d5, d6⟩ := e7_cells X12.out
  simp only [Nat.zero_add] at c0 c1 c2 c3 c4 c5 c6 d0 d1 d2 d3 d4 d5 d6
  go_wp2_with fail
  generalize hW : w8.alloc (.cells #[.string ⟨o.toArray⟩, .string ⟨u.toArray⟩, .bool j1, .bool j2, .bool j3, .bool j4, .bool j5] 70) = w9 at HB X10 X12 c0 c1 c2 c3 c4 c5 c6 d0 d1 d2 d3 d4 d5 d6 ⊢
  generalize hN : w8.heap.size = n8 at X12 HS8 hne d0 d1 d2 d3 d4 d5 d6 ⊢
  clear hW hN c0 c1 c2 c3 c4 c5 c6 d0 d1 d2 d3 d4 d5 d6
  refine (HA.out _).mono ?_
  rintro e w10 ⟨rfl, b⟩
  replace X10 := Lib.hid (heap_laterR X10.out b)
  replace X12 := Lib.hid (heap_laterR X12.out b)
  replace HB := Lib.hid (below2S HB.out b)
  clear b
  have hne1 : n5 ≠ n8 := by have := hne.out; omega
  have Y12 := e7_other X12.out hne1 a1 a2 a3 a4 a5
  have Y10 := e7_set X10.out a1 a2 a3 a4 a5
  have Z12 := Lib.hid (e7_set Y12 b1 b2 b3 b4 b5)
  have Z10 := Lib.hid (e7_other Y10 hne1.symm b1 b2 b3 b4 b5)
  have ZB := Lib.hid (setI_below (setI_below HB.out HS5.out a1 a2 a3 a4 a5) HS8.out b1 b2 b3 b4 b5)
  obtain ⟨c0, c1, c2, c3, c4, c5, c6⟩ := e7_cells X10.out
  obtain ⟨d0, d1, d2, d3, d4, d5, d6⟩ := e7_cells Y12
  simp only [Nat.zero_add] at c0 c1 c2 c3 c4 c5 c6 d0 d1 d2 d3 d4 d5 d6
  have f2 := e7_frozen X10.out 2
  have f3 := e7_frozen X10.out 3
  have f4 := e7_frozen X10.out 4
  have f5 := e7_frozen X10.out 5
  have f6 := e7_frozen X10.out 6
  have g2 := e7_frozen Y12 2
  have g3 := e7_frozen Y12 3
  have g4 := e7_frozen Y12 4
  have g5 := e7_frozen Y12 5
  have g6 := e7_frozen Y12 6
  unfold setI at d0 d1 d2 d3 d4 d5 d6 g2 g3 g4 g5 g6
  clear Y10 Y12
  unfold actE
  obtain ⟨e0, e1, e2, e3, e4, e5, e6⟩ := e7_cells Z10.out
  obtain ⟨p0, p1, p2, p3, p4, p5, p6⟩ := e7_cells Z12.out
  simp only [Nat.zero_add] at e0 e1 e2 e3 e4 e5 e6 p0 p1 p2 p3 p4 p5 p6
  unfold setI at e0 e1 e2 e3 e4 e5 e6 p0 p1 p2 p3 p4 p5 p6
  replace X10 := Z10
  replace X12 := Z12
  replace HB := ZB
  clear Z10 Z12 ZB
  go_wp2_with fail
  clear c0 c1 c2 c3 c4 c5 c6 d0 d1 d2 d3 d4 d5 d6 f2 f3 f4 f5 f6 g2 g3 g4 g5 g6 e0 e1 e2 e3 e4 e5 e6 p0 p1 p2 p3 p4 p5 p6 HA FI FJ FQ FQ' HM I1 I2 E1 E2
  refine (GA.out _).mono ?_
  rintro e w14 ⟨rfl, b⟩
  replace X10 := Lib.hid (heap_laterR X10.out b)
  replace X12 := Lib.hid (heap_laterR X12.out b)
  replace HB := Lib.hid (below2S HB.out b)
  clear b
  obtain ⟨e0, e1, e2, e3, e4, e5, e6⟩ := e7_cells X10.out
  obtain ⟨p0, p1, p2, p3, p4, p5, p6⟩ := e7_cells X12.out
  simp only [Nat.zero_add] at e0 e1 e2 e3 e4 e5 e6 p0 p1 p2 p3 p4 p5 p6
  go_wp2_with fail
  clear e0 e1 e2 e3 e4 e5 e6 p0 p1 p2 p3 p4 p5 p6
  refine (GB.out _).mono ?_
  rintro e w15 ⟨rfl, b⟩
  replace X10 := Lib.hid (heap_laterR X10.out b)
  replace X12 := Lib.hid (heap_laterR X12.out b)
  replace HB := Lib.hid (below2S HB.out b)
  clear b
  go_wp2_with fail
  have hS0 := two7 X10.out X12.out
  refine wp_region_held_drew (S := (fun W => ((W).cell? ⟨n5, 0, none⟩ = some (.string ⟨u.toArray⟩) ∧ (W).cell? ⟨n5, 1, none⟩ = some (.string ⟨o.toArray⟩) ∧ (W).cell? ⟨n5, 2, none⟩ = some (.bool a1) ∧ (W).cell? ⟨n5, 3, none⟩ = some (.bool a2) ∧ (W).cell? ⟨n5, 4, none⟩ = some (.bool a3) ∧ (W).cell? ⟨n5, 5, none⟩ = some (.bool a4) ∧ (W).cell? ⟨n5, 6, none⟩ = some (.bool a5) ∧ (W).cell? ⟨n8, 0, none⟩ = some (.string ⟨o.toArray⟩) ∧ (W).cell? ⟨n8, 1, none⟩ = some (.string ⟨u.toArray⟩) ∧ (W).cell? ⟨n8, 2, none⟩ = some (.bool b1) ∧ (W).cell? ⟨n8, 3, none⟩ = some (.bool b2) ∧ (W).cell? ⟨n8, 4, none⟩ = some (.bool b3) ∧ (W).cell? ⟨n8, 5, none⟩ = some (.bool b4) ∧ (W).cell? ⟨n8, 6, none⟩ = some (.bool b5)))) (by kernel_rfl) ?_ (fun hHeld => ?_)
  · exact two7 (heap_laterR X10.out (Below.refl _ _).drew) (heap_laterR X12.out (Below.refl _ _).drew)
  refine wpAnyH_take (i := 0) (oi := { dst := some 92, op := Op.move (Operand.tmp 0), type := 43, pos := "rost.go:53", after := #[], guard := none }) (v := ?_) rfl (by as_aux_lemma => kernel_rfl) (by as_aux_lemma => kernel_rfl) (by as_aux_lemma => kernel_rfl) (fun _ _ _ h => h) (Or.inl ⟨by rfl, ?_⟩) (by assumption) ?_
  rotate_left
  · intro w' hSw
    try dsimp only at hSw
    go_simp
    try with_reducible rfl
  try simp only [Act.put, List.setIfInBounds_toArray, List.set_cons_zero, List.set_cons_succ]
  refine wpAnyH_take (i := 1) (oi := { dst := some 93, op := Op.load 70 (Operand.tmp 10), type := 70, pos := "rost.go:53", after := #[], guard := none }) (v := ?_) rfl (by as_aux_lemma => kernel_rfl) (by as_aux_lemma => kernel_rfl) (by as_aux_lemma => kernel_rfl) (fun _ _ _ h => h) (Or.inl ⟨by rfl, ?_⟩) (by assumption) ?_
  rotate_left
  · intro w' hSw
    try dsimp only at hSw
    go_simp
    try with_reducible rfl
  try simp only [Act.put, List.setIfInBounds_toArray, List.set_cons_zero, List.set_cons_succ]
  refine wpAnyH_take (i := 3) (oi := { dst := some 95, op := Op.load 70 (Operand.tmp 12), type := 70, pos := "rost.go:53", after := #[], guard := none }) (v := ?_) rfl (by as_aux_lemma => kernel_rfl) (by as_aux_lemma => kernel_rfl) (by as_aux_lemma => kernel_rfl) (fun _ _ _ h => h) (Or.inl ⟨by rfl, ?_⟩) (by assumption) ?_
  rotate_left
  · intro w' hSw
    try dsimp only at hSw
    go_simp
    try with_reducible rfl
  try simp only [Act.put, List.setIfInBounds_toArray, List.set_cons_zero, List.set_cons_succ]
  refine wpAnyH_ready (rs := [2]) (by as_aux_lemma => kernel_rfl) (by simp) ?_
  refine AllReadyH.cons (o := { dst := some 94, op := Op.call { callee := Callee.value (Operand.func 42), args := #[Operand.tmp 92, Operand.tmp 93], argTypes := #[43, 70] }, type := 43, pos := "rost.go:53", after := #[{ on := 0, ground := Ground.data }, { on := 1, ground := Ground.data }], guard := none }) rfl (fun Kx hK => ?_) AllReadyH.nil
  go_simp
  refine (rwith_any ((HV.out.later HB.out).later (Below.refl _ _).drew) HR.out (by omega) u o a1 a2 a3 a4 a5).mono ?_
  rintro e wA ⟨y, rfl, hy, bA⟩
  have bd := below2Z (Below.refl _ _).drew bA
  have HY := Lib.hid hy
  have YA := Lib.hid (hy.rd entOK).ents
  have X10A := Lib.hid (heap_laterR X10.out bd)
  have X12A := Lib.hid (heap_laterR X12.out bd)
  have HBA := Lib.hid (below2S HB.out bd)
  clear bd hy bA
  go_wp2_with fail
  refine hK.out _ _ ?_ (fun hHeld2 => ?_)
  · exact two7 X10A.out X12A.out
  clear hK Kx hHeld
  have hHeld := hHeld2
  clear hHeld2
  try simp only [Act.put, List.setIfInBounds_toArray, List.set_cons_zero, List.set_cons_succ]
  refine wpAnyH_ready (rs := [4]) (by as_aux_lemma => kernel_rfl) (by simp) ?_
  refine AllReadyH.cons (o := { dst := some 96, op := Op.call { callee := Callee.value (Operand.func 42), args := #[Operand.tmp 94, Operand.tmp 95], argTypes := #[43, 70] }, type := 43, pos := "rost.go:53", after := #[{ on := 2, ground := Ground.data }, { on := 3, ground := Ground.data }, { on := 2, ground := Ground.chain }], guard := none }) rfl (fun Kx hK => ?_) AllReadyH.nil
  go_simp
  refine (rwith_any YA.out (rise_putO entOrd HR.out ⟨u, o, ⟨a1, a2, a3, a4, a5⟩⟩) (by have := putO_le l ⟨u, o, ⟨a1, a2, a3, a4, a5⟩⟩; omega) o u b1 b2 b3 b4 b5).mono ?_
  rintro e wB ⟨z, rfl, hz, bB⟩
  have ZE := Lib.hid (hz.rd entOK).ents
  have X10B := Lib.hid (heap_laterR X10A.out bB)
  have X12B := Lib.hid (heap_laterR X12A.out bB)
  have HBB := Lib.hid (below2S HBA.out bB)
  clear hz bB
  go_wp2_with fail
  refine hK.out _ _ ?_ (fun hHeld2 => ?_)
  · exact two7 X10B.out X12B.out
  clear hK Kx hHeld
  have hHeld := hHeld2
  clear hHeld2
  try simp only [Act.put, List.setIfInBounds_toArray, List.set_cons_zero, List.set_cons_succ]
  refine wpAnyH_take (i := 5) (oi := { dst := some 8, op := Op.assign (Operand.tmp 96), type := 43, pos := "rost.go:53", after := #[{ on := 4, ground := Ground.data }, { on := 4, ground := Ground.chain }, { on := 0, ground := Ground.phase }, { on := 1, ground := Ground.phase }, { on := 2, ground := Ground.phase }, { on := 3, ground := Ground.phase }, { on := 4, ground := Ground.phase }], guard := none }) (v := ?_) rfl (by as_aux_lemma => kernel_rfl) (by as_aux_lemma => kernel_rfl) (by as_aux_lemma => kernel_rfl) (fun _ _ _ h => h) (Or.inl ⟨by rfl, ?_⟩) (by assumption) ?_
  rotate_left
  · intro w' hSw
    try dsimp only at hSw
    go_simp
    try with_reducible rfl
  try simp only [Act.put, List.setIfInBounds_toArray, List.set_cons_zero, List.set_cons_succ]
  refine wpAnyH_take (i := 6) (oi := { dst := some 9, op := Op.assign (Operand.const (Value.int IntKind.i64 0)), type := 45, pos := "rost.go:53", after := #[{ on := 5, ground := Ground.chain }, { on := 0, ground := Ground.phase }, { on := 1, ground := Ground.phase }, { on := 2, ground := Ground.phase }, { on := 3, ground := Ground.phase }, { on := 4, ground := Ground.phase }, { on := 5, ground := Ground.phase }], guard := none }) (v := ?_) rfl (by as_aux_lemma => kernel_rfl) (by as_aux_lemma => kernel_rfl) (by as_aux_lemma => kernel_rfl) (fun _ _ _ h => h) (Or.inl ⟨by rfl, ?_⟩) (by assumption) ?_
  rotate_left
  · intro w' hSw
    try dsimp only at hSw
    go_simp
    try with_reducible rfl
  try simp only [Act.put, List.setIfInBounds_toArray, List.set_cons_zero, List.set_cons_succ]
  refine wpAnyH_done (by kernel_rfl) ?_ _
  go_wp2_with fail
  go_ret2
  exact ⟨_, rfl, ZE.out, HBB.out⟩

set_option maxHeartbeats 3200000 in
set_option maxRecDepth 100000 in
theorem rdoH3 {w : World} {v : Value} {l : List Ent} (hv : Ents w v l) (hs : ShortE l) (hl : l.length ≤ 900) (u o : List UInt8) (hu : u.length ≤ 4294967296) (ho : o.length ≤ 4294967296) (k : Int) (hm : roMayC l = true) (h1 : idIs u = true) (h2 : idIs o = true) (h3 : (u == o) = false) {i1 i2 i3 i4 i5 j1 j2 j3 j4 j5 q q' a1 a2 a3 a4 a5 b1 b2 b3 b4 b5 : Bool} (hi : roIt l u o = ⟨i1, i2, i3, i4, i5⟩) (hj : roIt l o u = ⟨j1, j2, j3, j4, j5⟩) (hq : (l.any fun x => entIs x ⟨u, o, It.zero⟩) = q) (hq' : (l.any fun x => entIs x ⟨o, u, It.zero⟩) = q') (hk : (Lit.int .i64 k).wf = true) (hact : suAct ⟨i1, i2, i3, i4, i5⟩ ⟨j1, j2, j3, j4, j5⟩ k = (⟨a1, a2, a3, a4, a5⟩, ⟨b1, b2, b3, b4, b5⟩, 0)) (hf : q = false) (gu : decide (16 ≤ (roOf l u).length) = false) (go : decide (16 ≤ (roOf l o).length) = false) (ga : suEmpty ⟨a1, a2, a3, a4, a5⟩ = false) :
    Calls Try.prog 26 #[v, .int .i64 k, .string ⟨u.toArray⟩, .string ⟨o.toArray⟩] w fun e w' => ∃ v', e = .returned (.tuple #[v', .int .i64 0]) ∧ Ents w' v' (putO entLt entIs (putO entLt entIs l ⟨u, o, ⟨a1, a2, a3, a4, a5⟩⟩) ⟨o, u, ⟨b1, b2, b3, b4, b5⟩⟩) ∧ Below w.heap.size w w' := by
  subst hf
  have GU := Lib.hid gu
  have GO := Lib.hid go
  clear gu go
  have GA := Lib.hid (sempty_eq a1 a2 a3 a4 a5 ga)
  clear ga
  have HV := Lib.hid hv
  have HM := Lib.hid (romay_any hv hs (Lib.hid hm))
  have HR := Lib.hid (roMay_rise hm)
  have I1 := Lib.hid (is_eq u hu (Lib.hid h1))
  have I2 := Lib.hid (is_eq o ho (Lib.hid h2))
  have E1 := Lib.hid (entry_any u o)
  have E2 := Lib.hid (entry_any o u)
  have FI := Lib.hid hi
  have FJ := Lib.hid hj
  have FQ := Lib.hid hq
  have FQ' := Lib.hid hq'
  have HA := Lib.hid (sact_any i1 i2 i3 i4 i5 j1 j2 j3 j4 j5 k hk)
  rw [hact] at HA
  obtain ⟨a, cap, rfl, hmx⟩ := hv.open'
  clear hv hs hm h1 h2 hi hj hq hq' hk hact
  go_enter Try.func26, Try.ntmps26
  go_wp2_with fail
  refine HM.out.mono ?_
  rintro e w1 ⟨rfl, b1⟩
  have HB := Lib.hid b1
  clear b1
  go_wp2_with fail
  refine (I1.out _).mono ?_
  rintro e w2 ⟨rfl, b⟩
  replace HB := Lib.hid (below2S HB.out b)
  clear b
  go_wp2_with fail
  refine (I2.out _).mono ?_
  rintro e w3 ⟨rfl, b⟩
  replace HB := Lib.hid (below2S HB.out b)
  clear b
  go_wp2_with fail
  refine (E1.out _).mono ?_
  rintro e w4 ⟨rfl, b⟩
  replace HB := Lib.hid (below2S HB.out b)
  clear b
  go_wp2_with fail
  refine (rfind_eq (HV.out.later HB.out) HR.out u o FI FQ).mono ?_
  rintro e w5 ⟨rfl, b⟩
  have bb := bl_newZ w5 (.cells #[.string ⟨u.toArray⟩, .string ⟨o.toArray⟩, .bool i1, .bool i2, .bool i3, .bool i4, .bool i5] 70)
  have X10 := Lib.hid (heap_newR w5 (.cells #[.string ⟨u.toArray⟩, .string ⟨o.toArray⟩, .bool i1, .bool i2, .bool i3, .bool i4, .bool i5] 70) rfl)
  have HS5 := Lib.hid (below2S HB.out b).size
  replace HB := Lib.hid (below2S (below2S HB.out b) bb)
  clear b bb
  go_wp2_with fail
  generalize hW : w5.alloc (.cells #[.string ⟨u.toArray⟩, .string ⟨o.toArray⟩, .bool i1, .bool i2, .bool i3, .bool i4, .bool i5] 70) = w6 at HB X10 ⊢
  generalize hN : w5.heap.size = n5 at X10 HS5 ⊢
  clear hW hN
  refine (E2.out _).mono ?_
  rintro e w7 ⟨rfl, b⟩
  replace X10 := Lib.hid (heap_laterR X10.out b)
  replace HB := Lib.hid (below2S HB.out b)
  clear b
  go_wp2_with fail
  refine (rfind_eq (HV.out.later HB.out) HR.out o u FJ FQ').mono ?_
  rintro e w8 ⟨rfl, b⟩
  have bb := bl_newZ w8 (.cells #[.string ⟨o.toArray⟩, .string ⟨u.toArray⟩, .bool j1, .bool j2, .bool j3, .bool j4, .bool j5] 70)
  have X12 := Lib.hid (heap_newR w8 (.cells #[.string ⟨o.toArray⟩, .string ⟨u.toArray⟩, .bool j1, .bool j2, .bool j3, .bool j4, .bool j5] 70) rfl)
  have HS8 := Lib.hid (below2S HB.out b).size
  replace X10 := Lib.hid (heap_laterR X10.out b)
  have hne := Lib.hid (heap_ltR X10.out)
  replace X10 := Lib.hid (heap_laterR X10.out bb)
  replace HB := Lib.hid (below2S (below2S HB.out b) bb)
  clear b bb
  obtain ⟨c0, c1, c2, c3, c4, c5, c6⟩ := e7_cells X10.out
  obtain ⟨d0, d1, d2, d3, d4, d5, d6⟩ := e7_cells X12.out
  simp only [Nat.zero_add] at c0 c1 c2 c3 c4 c5 c6 d0 d1 d2 d3 d4 d5 d6
  go_wp2_with fail
  generalize hW : w8.alloc (.cells #[.string ⟨o.toArray⟩, .string ⟨u.toArray⟩, .bool j1, .bool j2, .bool j3, .bool j4, .bool j5] 70) = w9 at HB X10 X12 c0 c1 c2 c3 c4 c5 c6 d0 d1 d2 d3 d4 d5 d6 ⊢
  generalize hN : w8.heap.size = n8 at X12 HS8 hne d0 d1 d2 d3 d4 d5 d6 ⊢
  clear hW hN c0 c1 c2 c3 c4 c5 c6 d0 d1 d2 d3 d4 d5 d6
  refine (HA.out _).mono ?_
  rintro e w10 ⟨rfl, b⟩
  replace X10 := Lib.hid (heap_laterR X10.out b)
  replace X12 := Lib.hid (heap_laterR X12.out b)
  replace HB := Lib.hid (below2S HB.out b)
  clear b
  have hne1 : n5 ≠ n8 := by have := hne.out; omega
  have Y12 := e7_other X12.out hne1 a1 a2 a3 a4 a5
  have Y10 := e7_set X10.out a1 a2 a3 a4 a5
  have Z12 := Lib.hid (e7_set Y12 b1 b2 b3 b4 b5)
  have Z10 := Lib.hid (e7_other Y10 hne1.symm b1 b2 b3 b4 b5)
  have ZB := Lib.hid (setI_below (setI_below HB.out HS5.out a1 a2 a3 a4 a5) HS8.out b1 b2 b3 b4 b5)
  obtain ⟨c0, c1, c2, c3, c4, c5, c6⟩ := e7_cells X10.out
  obtain ⟨d0, d1, d2, d3, d4, d5, d6⟩ := e7_cells Y12
  simp only [Nat.zero_add] at c0 c1 c2 c3 c4 c5 c6 d0 d1 d2 d3 d4 d5 d6
  have f2 := e7_frozen X10.out 2
  have f3 := e7_frozen X10.out 3
  have f4 := e7_frozen X10.out 4
  have f5 := e7_frozen X10.out 5
  have f6 := e7_frozen X10.out 6
  have g2 := e7_frozen Y12 2
  have g3 := e7_frozen Y12 3
  have g4 := e7_frozen Y12 4
  have g5 := e7_frozen Y12 5
  have g6 := e7_frozen Y12 6
  unfold setI at d0 d1 d2 d3 d4 d5 d6 g2 g3 g4 g5 g6
  clear Y10 Y12
  unfold actE
  obtain ⟨e0, e1, e2, e3, e4, e5, e6⟩ := e7_cells Z10.out
  obtain ⟨p0, p1, p2, p3, p4, p5, p6⟩ := e7_cells Z12.out
  simp only [Nat.zero_add] at e0 e1 e2 e3 e4 e5 e6 p0 p1 p2 p3 p4 p5 p6
  unfold setI at e0 e1 e2 e3 e4 e5 e6 p0 p1 p2 p3 p4 p5 p6
  replace X10 := Z10
  replace X12 := Z12
  replace HB := ZB
  clear Z10 Z12 ZB
  go_wp2_with fail
  clear c0 c1 c2 c3 c4 c5 c6 d0 d1 d2 d3 d4 d5 d6 f2 f3 f4 f5 f6 g2 g3 g4 g5 g6 e0 e1 e2 e3 e4 e5 e6 p0 p1 p2 p3 p4 p5 p6 HA FI FJ FQ FQ' HM I1 I2 E1 E2
  refine (risFull_any (HV.out.later HB.out) (by omega) u GU).mono ?_
  rintro e w12 ⟨rfl, b⟩
  replace X10 := Lib.hid (heap_laterR X10.out b)
  replace X12 := Lib.hid (heap_laterR X12.out b)
  replace HB := Lib.hid (below2S HB.out b)
  clear b
  go_wp2_with fail
  refine (risFull_any (HV.out.later HB.out) (by omega) o GO).mono ?_
  rintro e w13 ⟨rfl, b⟩
  replace X10 := Lib.hid (heap_laterR X10.out b)
  replace X12 := Lib.hid (heap_laterR X12.out b)
  replace HB := Lib.hid (below2S HB.out b)
  clear b
  obtain ⟨e0, e1, e2, e3, e4, e5, e6⟩ := e7_cells X10.out
  obtain ⟨p0, p1, p2, p3, p4, p5, p6⟩ := e7_cells X12.out
  simp only [Nat.zero_add] at e0 e1 e2 e3 e4 e5 e6 p0 p1 p2 p3 p4 p5 p6
  go_wp2_with fail
  clear e0 e1 e2 e3 e4 e5 e6 p0 p1 p2 p3 p4 p5 p6
  refine (GA.out _).mono ?_
  rintro e w14 ⟨rfl, b⟩
  replace X10 := Lib.hid (heap_laterR X10.out b)
  replace X12 := Lib.hid (heap_laterR X12.out b)
  replace HB := Lib.hid (below2S HB.out b)
  clear b
  obtain ⟨e0, e1, e2, e3, e4, e5, e6⟩ := e7_cells X10.out
  obtain ⟨p0, p1, p2, p3, p4, p5, p6⟩ := e7_cells X12.out
  simp only [Nat.zero_add] at e0 e1 e2 e3 e4 e5 e6 p0 p1 p2 p3 p4 p5 p6
  go_wp2_with fail
  clear e0 e1 e2 e3 e4 e5 e6 p0 p1 p2 p3 p4 p5 p6
  have hS0 := two7 X10.out X12.out
  refine wp_region_held_drew (S := (fun W => ((W).cell? ⟨n5, 0, none⟩ = some (.string ⟨u.toArray⟩) ∧ (W).cell? ⟨n5, 1, none⟩ = some (.string ⟨o.toArray⟩) ∧ (W).cell? ⟨n5, 2, none⟩ = some (.bool a1) ∧ (W).cell? ⟨n5, 3, none⟩ = some (.bool a2) ∧ (W).cell? ⟨n5, 4, none⟩ = some (.bool a3) ∧ (W).cell? ⟨n5, 5, none⟩ = some (.bool a4) ∧ (W).cell? ⟨n5, 6, none⟩ = some (.bool a5) ∧ (W).cell? ⟨n8, 0, none⟩ = some (.string ⟨o.toArray⟩) ∧ (W).cell? ⟨n8, 1, none⟩ = some (.string ⟨u.toArray⟩) ∧ (W).cell? ⟨n8, 2, none⟩ = some (.bool b1) ∧ (W).cell? ⟨n8, 3, none⟩ = some (.bool b2) ∧ (W).cell? ⟨n8, 4, none⟩ = some (.bool b3) ∧ (W).cell? ⟨n8, 5, none⟩ = some (.bool b4) ∧ (W).cell? ⟨n8, 6, none⟩ = some (.bool b5)))) (by kernel_rfl) ?_ (fun hHeld => ?_)
  · exact two7 (heap_laterR X10.out (Below.refl _ _).drew) (heap_laterR X12.out (Below.refl _ _).drew)
  refine wpAnyH_take (i := 0) (oi := { dst := some 92, op := Op.move (Operand.tmp 0), type := 43, pos := "rost.go:53", after := #[], guard := none }) (v := ?_) rfl (by as_aux_lemma => kernel_rfl) (by as_aux_lemma => kernel_rfl) (by as_aux_lemma => kernel_rfl) (fun _ _ _ h => h) (Or.inl ⟨by rfl, ?_⟩) (by assumption) ?_
  rotate_left
  · intro w' hSw
    try dsimp only at hSw
    go_simp
    try with_reducible rfl
  try simp only [Act.put, List.setIfInBounds_toArray, List.set_cons_zero, List.set_cons_succ]
  refine wpAnyH_take (i := 1) (oi := { dst := some 93, op := Op.load 70 (Operand.tmp 10), type := 70, pos := "rost.go:53", after := #[], guard := none }) (v := ?_) rfl (by as_aux_lemma => kernel_rfl) (by as_aux_lemma => kernel_rfl) (by as_aux_lemma => kernel_rfl) (fun _ _ _ h => h) (Or.inl ⟨by rfl, ?_⟩) (by assumption) ?_
  rotate_left
  · intro w' hSw
    try dsimp only at hSw
    go_simp
    try with_reducible rfl
  try simp only [Act.put, List.setIfInBounds_toArray, List.set_cons_zero, List.set_cons_succ]
  refine wpAnyH_take (i := 3) (oi := { dst := some 95, op := Op.load 70 (Operand.tmp 12), type := 70, pos := "rost.go:53", after := #[], guard := none }) (v := ?_) rfl (by as_aux_lemma => kernel_rfl) (by as_aux_lemma => kernel_rfl) (by as_aux_lemma => kernel_rfl) (fun _ _ _ h => h) (Or.inl ⟨by rfl, ?_⟩) (by assumption) ?_
  rotate_left
  · intro w' hSw
    try dsimp only at hSw
    go_simp
    try with_reducible rfl
  try simp only [Act.put, List.setIfInBounds_toArray, List.set_cons_zero, List.set_cons_succ]
  refine wpAnyH_ready (rs := [2]) (by as_aux_lemma => kernel_rfl) (by simp) ?_
  refine AllReadyH.cons (o := { dst := some 94, op := Op.call { callee := Callee.value (Operand.func 42), args := #[Operand.tmp 92, Operand.tmp 93], argTypes := #[43, 70] }, type := 43, pos := "rost.go:53", after := #[{ on := 0, ground := Ground.data }, { on := 1, ground := Ground.data }], guard := none }) rfl (fun Kx hK => ?_) AllReadyH.nil
  go_simp
  refine (rwith_any ((HV.out.later HB.out).later (Below.refl _ _).drew) HR.out (by omega) u o a1 a2 a3 a4 a5).mono ?_
  rintro e wA ⟨y, rfl, hy, bA⟩
  have bd := below2Z (Below.refl _ _).drew bA
  have HY := Lib.hid hy
  have YA := Lib.hid (hy.rd entOK).ents
  have X10A := Lib.hid (heap_laterR X10.out bd)
  have X12A := Lib.hid (heap_laterR X12.out bd)
  have HBA := Lib.hid (below2S HB.out bd)
  clear bd hy bA
  go_wp2_with fail
  refine hK.out _ _ ?_ (fun hHeld2 => ?_)
  · exact two7 X10A.out X12A.out
  clear hK Kx hHeld
  have hHeld := hHeld2
  clear hHeld2
  try simp only [Act.put, List.setIfInBounds_toArray, List.set_cons_zero, List.set_cons_succ]
  refine wpAnyH_ready (rs := [4]) (by as_aux_lemma => kernel_rfl) (by simp) ?_
  refine AllReadyH.cons (o := { dst := some 96, op := Op.call { callee := Callee.value (Operand.func 42), args := #[Operand.tmp 94, Operand.tmp 95], argTypes := #[43, 70] }, type := 43, pos := "rost.go:53", after := #[{ on := 2, ground := Ground.data }, { on := 3, ground := Ground.data }, { on := 2, ground := Ground.chain }], guard := none }) rfl (fun Kx hK => ?_) AllReadyH.nil
  go_simp
  refine (rwith_any YA.out (rise_putO entOrd HR.out ⟨u, o, ⟨a1, a2, a3, a4, a5⟩⟩) (by have := putO_le l ⟨u, o, ⟨a1, a2, a3, a4, a5⟩⟩; omega) o u b1 b2 b3 b4 b5).mono ?_
  rintro e wB ⟨z, rfl, hz, bB⟩
  have ZE := Lib.hid (hz.rd entOK).ents
  have X10B := Lib.hid (heap_laterR X10A.out bB)
  have X12B := Lib.hid (heap_laterR X12A.out bB)
  have HBB := Lib.hid (below2S HBA.out bB)
  clear hz bB
  go_wp2_with fail
  refine hK.out _ _ ?_ (fun hHeld2 => ?_)
  · exact two7 X10B.out X12B.out
  clear hK Kx hHeld
  have hHeld := hHeld2
  clear hHeld2
  try simp only [Act.put, List.setIfInBounds_toArray, List.set_cons_zero, List.set_cons_succ]
  refine wpAnyH_take (i := 5) (oi := { dst := some 8, op := Op.assign (Operand.tmp 96), type := 43, pos := "rost.go:53", after := #[{ on := 4, ground := Ground.data }, { on := 4, ground := Ground.chain }, { on := 0, ground := Ground.phase }, { on := 1, ground := Ground.phase }, { on := 2, ground := Ground.phase }, { on := 3, ground := Ground.phase }, { on := 4, ground := Ground.phase }], guard := none }) (v := ?_) rfl (by as_aux_lemma => kernel_rfl) (by as_aux_lemma => kernel_rfl) (by as_aux_lemma => kernel_rfl) (fun _ _ _ h => h) (Or.inl ⟨by rfl, ?_⟩) (by assumption) ?_
  rotate_left
  · intro w' hSw
    try dsimp only at hSw
    go_simp
    try with_reducible rfl
  try simp only [Act.put, List.setIfInBounds_toArray, List.set_cons_zero, List.set_cons_succ]
  refine wpAnyH_take (i := 6) (oi := { dst := some 9, op := Op.assign (Operand.const (Value.int IntKind.i64 0)), type := 45, pos := "rost.go:53", after := #[{ on := 5, ground := Ground.chain }, { on := 0, ground := Ground.phase }, { on := 1, ground := Ground.phase }, { on := 2, ground := Ground.phase }, { on := 3, ground := Ground.phase }, { on := 4, ground := Ground.phase }, { on := 5, ground := Ground.phase }], guard := none }) (v := ?_) rfl (by as_aux_lemma => kernel_rfl) (by as_aux_lemma => kernel_rfl) (by as_aux_lemma => kernel_rfl) (fun _ _ _ h => h) (Or.inl ⟨by rfl, ?_⟩) (by assumption) ?_
  rotate_left
  · intro w' hSw
    try dsimp only at hSw
    go_simp
    try with_reducible rfl
  try simp only [Act.put, List.setIfInBounds_toArray, List.set_cons_zero, List.set_cons_succ]
  refine wpAnyH_done (by kernel_rfl) ?_ _
  go_wp2_with fail
  go_ret2
  exact ⟨_, rfl, ZE.out, HBB.out⟩

set_option maxHeartbeats 3200000 in
set_option maxRecDepth 100000 in
theorem rdoH4 {w : World} {v : Value} {l : List Ent} (hv : Ents w v l) (hs : ShortE l) (hl : l.length ≤ 900) (u o : List UInt8) (hu : u.length ≤ 4294967296) (ho : o.length ≤ 4294967296) (k : Int) (hm : roMayC l = true) (h1 : idIs u = true) (h2 : idIs o = true) (h3 : (u == o) = false) {i1 i2 i3 i4 i5 j1 j2 j3 j4 j5 q q' a1 a2 a3 a4 a5 b1 b2 b3 b4 b5 : Bool} (hi : roIt l u o = ⟨i1, i2, i3, i4, i5⟩) (hj : roIt l o u = ⟨j1, j2, j3, j4, j5⟩) (hq : (l.any fun x => entIs x ⟨u, o, It.zero⟩) = q) (hq' : (l.any fun x => entIs x ⟨o, u, It.zero⟩) = q') (hk : (Lit.int .i64 k).wf = true) (hact : suAct ⟨i1, i2, i3, i4, i5⟩ ⟨j1, j2, j3, j4, j5⟩ k = (⟨a1, a2, a3, a4, a5⟩, ⟨b1, b2, b3, b4, b5⟩, 0)) (hf : q = false) (gu : decide (16 ≤ (roOf l u).length) = false) (go : decide (16 ≤ (roOf l o).length) = false) (ga : suEmpty ⟨a1, a2, a3, a4, a5⟩ = true) (gb : suEmpty ⟨b1, b2, b3, b4, b5⟩ = false) :
    Calls Try.prog 26 #[v, .int .i64 k, .string ⟨u.toArray⟩, .string ⟨o.toArray⟩] w fun e w' => ∃ v', e = .returned (.tuple #[v', .int .i64 0]) ∧ Ents w' v' (putO entLt entIs (putO entLt entIs l ⟨u, o, ⟨a1, a2, a3, a4, a5⟩⟩) ⟨o, u, ⟨b1, b2, b3, b4, b5⟩⟩) ∧ Below w.heap.size w w' := by
  subst hf
  have GU := Lib.hid gu
  have GO := Lib.hid go
  clear gu go
  have GA := Lib.hid (sempty_eq a1 a2 a3 a4 a5 ga)
  have GB := Lib.hid (sempty_eq b1 b2 b3 b4 b5 gb)
  clear ga gb
  have HV := Lib.hid hv
  have HM := Lib.hid (romay_any hv hs (Lib.hid hm))
  have HR := Lib.hid (roMay_rise hm)
  have I1 := Lib.hid (is_eq u hu (Lib.hid h1))
  have I2 := Lib.hid (is_eq o ho (Lib.hid h2))
  have E1 := Lib.hid (entry_any u o)
  have E2 := Lib.hid (entry_any o u)
  have FI := Lib.hid hi
  have FJ := Lib.hid hj
  have FQ := Lib.hid hq
  have FQ' := Lib.hid hq'
  have HA := Lib.hid (sact_any i1 i2 i3 i4 i5 j1 j2 j3 j4 j5 k hk)
  rw [hact] at HA
  obtain ⟨a, cap, rfl, hmx⟩ := hv.open'
  clear hv hs hm h1 h2 hi hj hq hq' hk hact
  go_enter Try.func26, Try.ntmps26
  go_wp2_with fail
  refine HM.out.mono ?_
  rintro e w1 ⟨rfl, b1⟩
  have HB := Lib.hid b1
  clear b1
  go_wp2_with fail
  refine (I1.out _).mono ?_
  rintro e w2 ⟨rfl, b⟩
  replace HB := Lib.hid (below2S HB.out b)
  clear b
  go_wp2_with fail
  refine (I2.out _).mono ?_
  rintro e w3 ⟨rfl, b⟩
  replace HB := Lib.hid (below2S HB.out b)
  clear b
  go_wp2_with fail
  refine (E1.out _).mono ?_
  rintro e w4 ⟨rfl, b⟩
  replace HB := Lib.hid (below2S HB.out b)
  clear b
  go_wp2_with fail
  refine (rfind_eq (HV.out.later HB.out) HR.out u o FI FQ).mono ?_
  rintro e w5 ⟨rfl, b⟩
  have bb := bl_newZ w5 (.cells #[.string ⟨u.toArray⟩, .string ⟨o.toArray⟩, .bool i1, .bool i2, .bool i3, .bool i4, .bool i5] 70)
  have X10 := Lib.hid (heap_newR w5 (.cells #[.string ⟨u.toArray⟩, .string ⟨o.toArray⟩, .bool i1, .bool i2, .bool i3, .bool i4, .bool i5] 70) rfl)
  have HS5 := Lib.hid (below2S HB.out b).size
  replace HB := Lib.hid (below2S (below2S HB.out b) bb)
  clear b bb
  go_wp2_with fail
  generalize hW : w5.alloc (.cells #[.string ⟨u.toArray⟩, .string ⟨o.toArray⟩, .bool i1, .bool i2, .bool i3, .bool i4, .bool i5] 70) = w6 at HB X10 ⊢
  generalize hN : w5.heap.size = n5 at X10 HS5 ⊢
  clear hW hN
  refine (E2.out _).mono ?_
  rintro e w7 ⟨rfl, b⟩
  replace X10 := Lib.hid (heap_laterR X10.out b)
  replace HB := Lib.hid (below2S HB.out b)
  clear b
  go_wp2_with fail
  refine (rfind_eq (HV.out.later HB.out) HR.out o u FJ FQ').mono ?_
  rintro e w8 ⟨rfl, b⟩
  have bb := bl_newZ w8 (.cells #[.string ⟨o.toArray⟩, .string ⟨u.toArray⟩, .bool j1, .bool j2, .bool j3, .bool j4, .bool j5] 70)
  have X12 := Lib.hid (heap_newR w8 (.cells #[.string ⟨o.toArray⟩, .string ⟨u.toArray⟩, .bool j1, .bool j2, .bool j3, .bool j4, .bool j5] 70) rfl)
  have HS8 := Lib.hid (below2S HB.out b).size
  replace X10 := Lib.hid (heap_laterR X10.out b)
  have hne := Lib.hid (heap_ltR X10.out)
  replace X10 := Lib.hid (heap_laterR X10.out bb)
  replace HB := Lib.hid (below2S (below2S HB.out b) bb)
  clear b bb
  obtain ⟨c0, c1, c2, c3, c4, c5, c6⟩ := e7_cells X10.out
  obtain ⟨d0, d1, d2, d3, d4, d5, d6⟩ := e7_cells X12.out
  simp only [Nat.zero_add] at c0 c1 c2 c3 c4 c5 c6 d0 d1 d2 d3 d4 d5 d6
  go_wp2_with fail
  generalize hW : w8.alloc (.cells #[.string ⟨o.toArray⟩, .string ⟨u.toArray⟩, .bool j1, .bool j2, .bool j3, .bool j4, .bool j5] 70) = w9 at HB X10 X12 c0 c1 c2 c3 c4 c5 c6 d0 d1 d2 d3 d4 d5 d6 ⊢
  generalize hN : w8.heap.size = n8 at X12 HS8 hne d0 d1 d2 d3 d4 d5 d6 ⊢
  clear hW hN c0 c1 c2 c3 c4 c5 c6 d0 d1 d2 d3 d4 d5 d6
  refine (HA.out _).mono ?_
  rintro e w10 ⟨rfl, b⟩
  replace X10 := Lib.hid (heap_laterR X10.out b)
  replace X12 := Lib.hid (heap_laterR X12.out b)
  replace HB := Lib.hid (below2S HB.out b)
  clear b
  have hne1 : n5 ≠ n8 := by have := hne.out; omega
  have Y12 := e7_other X12.out hne1 a1 a2 a3 a4 a5
  have Y10 := e7_set X10.out a1 a2 a3 a4 a5
  have Z12 := Lib.hid (e7_set Y12 b1 b2 b3 b4 b5)
  have Z10 := Lib.hid (e7_other Y10 hne1.symm b1 b2 b3 b4 b5)
  have ZB := Lib.hid (setI_below (setI_below HB.out HS5.out a1 a2 a3 a4 a5) HS8.out b1 b2 b3 b4 b5)
  obtain ⟨c0, c1, c2, c3, c4, c5, c6⟩ := e7_cells X10.out
  obtain ⟨d0, d1, d2, d3, d4, d5, d6⟩ := e7_cells Y12
  simp only [Nat.zero_add] at c0 c1 c2 c3 c4 c5 c6 d0 d1 d2 d3 d4 d5 d6
  have f2 := e7_frozen X10.out 2
  have f3 := e7_frozen X10.out 3
  have f4 := e7_frozen X10.out 4
  have f5 := e7_frozen X10.out 5
  have f6 := e7_frozen X10.out 6
  have g2 := e7_frozen Y12 2
  have g3 := e7_frozen Y12 3
  have g4 := e7_frozen Y12 4
  have g5 := e7_frozen Y12 5
  have g6 := e7_frozen Y12 6
  unfold setI at d0 d1 d2 d3 d4 d5 d6 g2 g3 g4 g5 g6
  clear Y10 Y12
  unfold actE
  obtain ⟨e0, e1, e2, e3, e4, e5, e6⟩ := e7_cells Z10.out
  obtain ⟨p0, p1, p2, p3, p4, p5, p6⟩ := e7_cells Z12.out
  simp only [Nat.zero_add] at e0 e1 e2 e3 e4 e5 e6 p0 p1 p2 p3 p4 p5 p6
  unfold setI at e0 e1 e2 e3 e4 e5 e6 p0 p1 p2 p3 p4 p5 p6
  replace X10 := Z10
  replace X12 := Z12
  replace HB := ZB
  clear Z10 Z12 ZB
  go_wp2_with fail
  clear c0 c1 c2 c3 c4 c5 c6 d0 d1 d2 d3 d4 d5 d6 f2 f3 f4 f5 f6 g2 g3 g4 g5 g6 e0 e1 e2 e3 e4 e5 e6 p0 p1 p2 p3 p4 p5 p6 HA FI FJ FQ FQ' HM I1 I2 E1 E2
  refine (risFull_any (HV.out.later HB.out) (by omega) u GU).mono ?_
  rintro e w12 ⟨rfl, b⟩
  replace X10 := Lib.hid (heap_laterR X10.out b)
  replace X12 := Lib.hid (heap_laterR X12.out b)
  replace HB := Lib.hid (below2S HB.out b)
  clear b
  go_wp2_with fail
  refine (risFull_any (HV.out.later HB.out) (by omega) o GO).mono ?_
  rintro e w13 ⟨rfl, b⟩
  replace X10 := Lib.hid (heap_laterR X10.out b)
  replace X12 := Lib.hid (heap_laterR X12.out b)
  replace HB := Lib.hid (below2S HB.out b)
  clear b
  obtain ⟨e0, e1, e2, e3, e4, e5, e6⟩ := e7_cells X10.out
  obtain ⟨p0, p1, p2, p3, p4, p5, p6⟩ := e7_cells X12.out
  simp only [Nat.zero_add] at e0 e1 e2 e3 e4 e5 e6 p0 p1 p2 p3 p4 p5 p6
  go_wp2_with fail
  clear e0 e1 e2 e3 e4 e5 e6 p0 p1 p2 p3 p4 p5 p6
  refine (GA.out _).mono ?_
  rintro e w14 ⟨rfl, b⟩
  replace X10 := Lib.hid (heap_laterR X10.out b)
  replace X12 := Lib.hid (heap_laterR X12.out b)
  replace HB := Lib.hid (below2S HB.out b)
  clear b
  obtain ⟨e0, e1, e2, e3, e4, e5, e6⟩ := e7_cells X10.out
  obtain ⟨p0, p1, p2, p3, p4, p5, p6⟩ := e7_cells X12.out
  simp only [Nat.zero_add] at e0 e1 e2 e3 e4 e5 e6 p0 p1 p2 p3 p4 p5 p6
  go_wp2_with fail
  clear e0 e1 e2 e3 e4 e5 e6 p0 p1 p2 p3 p4 p5 p6
  refine (GB.out _).mono ?_
  rintro e w15 ⟨rfl, b⟩
  replace X10 := Lib.hid (heap_laterR X10.out b)
  replace X12 := Lib.hid (heap_laterR X12.out b)
  replace HB := Lib.hid (below2S HB.out b)
  clear b
  go_wp2_with fail
  have hS0 := two7 X10.out X12.out
  refine wp_region_held_drew (S := (fun W => ((W).cell? ⟨n5, 0, none⟩ = some (.string ⟨u.toArray⟩) ∧ (W).cell? ⟨n5, 1, none⟩ = some (.string ⟨o.toArray⟩) ∧ (W).cell? ⟨n5, 2, none⟩ = some (.bool a1) ∧ (W).cell? ⟨n5, 3, none⟩ = some (.bool a2) ∧ (W).cell? ⟨n5, 4, none⟩ = some (.bool a3) ∧ (W).cell? ⟨n5, 5, none⟩ = some (.bool a4) ∧ (W).cell? ⟨n5, 6, none⟩ = some (.bool a5) ∧ (W).cell? ⟨n8, 0, none⟩ = some (.string ⟨o.toArray⟩) ∧ (W).cell? ⟨n8, 1, none⟩ = some (.string ⟨u.toArray⟩) ∧ (W).cell? ⟨n8, 2, none⟩ = some (.bool b1) ∧ (W).cell? ⟨n8, 3, none⟩ = some (.bool b2) ∧ (W).cell? ⟨n8, 4, none⟩ = some (.bool b3) ∧ (W).cell? ⟨n8, 5, none⟩ = some (.bool b4) ∧ (W).cell? ⟨n8, 6, none⟩ = some (.bool b5)))) (by kernel_rfl) ?_ (fun hHeld => ?_)
  · exact two7 (heap_laterR X10.out (Below.refl _ _).drew) (heap_laterR X12.out (Below.refl _ _).drew)
  refine wpAnyH_take (i := 0) (oi := { dst := some 92, op := Op.move (Operand.tmp 0), type := 43, pos := "rost.go:53", after := #[], guard := none }) (v := ?_) rfl (by as_aux_lemma => kernel_rfl) (by as_aux_lemma => kernel_rfl) (by as_aux_lemma => kernel_rfl) (fun _ _ _ h => h) (Or.inl ⟨by rfl, ?_⟩) (by assumption) ?_
  rotate_left
  · intro w' hSw
    try dsimp only at hSw
    go_simp
    try with_reducible rfl
  try simp only [Act.put, List.setIfInBounds_toArray, List.set_cons_zero, List.set_cons_succ]
  refine wpAnyH_take (i := 1) (oi := { dst := some 93, op := Op.load 70 (Operand.tmp 10), type := 70, pos := "rost.go:53", after := #[], guard := none }) (v := ?_) rfl (by as_aux_lemma => kernel_rfl) (by as_aux_lemma => kernel_rfl) (by as_aux_lemma => kernel_rfl) (fun _ _ _ h => h) (Or.inl ⟨by rfl, ?_⟩) (by assumption) ?_
  rotate_left
  · intro w' hSw
    try dsimp only at hSw
    go_simp
    try with_reducible rfl
  try simp only [Act.put, List.setIfInBounds_toArray, List.set_cons_zero, List.set_cons_succ]
  refine wpAnyH_take (i := 3) (oi := { dst := some 95, op := Op.load 70 (Operand.tmp 12), type := 70, pos := "rost.go:53", after := #[], guard := none }) (v := ?_) rfl (by as_aux_lemma => kernel_rfl) (by as_aux_lemma => kernel_rfl) (by as_aux_lemma => kernel_rfl) (fun _ _ _ h => h) (Or.inl ⟨by rfl, ?_⟩) (by assumption) ?_
  rotate_left
  · intro w' hSw
    try dsimp only at hSw
    go_simp
    try with_reducible rfl
  try simp only [Act.put, List.setIfInBounds_toArray, List.set_cons_zero, List.set_cons_succ]
  refine wpAnyH_ready (rs := [2]) (by as_aux_lemma => kernel_rfl) (by simp) ?_
  refine AllReadyH.cons (o := { dst := some 94, op := Op.call { callee := Callee.value (Operand.func 42), args := #[Operand.tmp 92, Operand.tmp 93], argTypes := #[43, 70] }, type := 43, pos := "rost.go:53", after := #[{ on := 0, ground := Ground.data }, { on := 1, ground := Ground.data }], guard := none }) rfl (fun Kx hK => ?_) AllReadyH.nil
  go_simp
  refine (rwith_any ((HV.out.later HB.out).later (Below.refl _ _).drew) HR.out (by omega) u o a1 a2 a3 a4 a5).mono ?_
  rintro e wA ⟨y, rfl, hy, bA⟩
  have bd := below2Z (Below.refl _ _).drew bA
  have HY := Lib.hid hy
  have YA := Lib.hid (hy.rd entOK).ents
  have X10A := Lib.hid (heap_laterR X10.out bd)
  have X12A := Lib.hid (heap_laterR X12.out bd)
  have HBA := Lib.hid (below2S HB.out bd)
  clear bd hy bA
  go_wp2_with fail
  refine hK.out _ _ ?_ (fun hHeld2 => ?_)
  · exact two7 X10A.out X12A.out
  clear hK Kx hHeld
  have hHeld := hHeld2
  clear hHeld2
  try simp only [Act.put, List.setIfInBounds_toArray, List.set_cons_zero, List.set_cons_succ]
  refine wpAnyH_ready (rs := [4]) (by as_aux_lemma => kernel_rfl) (by simp) ?_
  refine AllReadyH.cons (o := { dst := some 96, op := Op.call { callee := Callee.value (Operand.func 42), args := #[Operand.tmp 94, Operand.tmp 95], argTypes := #[43, 70] }, type := 43, pos := "rost.go:53", after := #[{ on := 2, ground := Ground.data }, { on := 3, ground := Ground.data }, { on := 2, ground := Ground.chain }], guard := none }) rfl (fun Kx hK => ?_) AllReadyH.nil
  go_simp
  refine (rwith_any YA.out (rise_putO entOrd HR.out ⟨u, o, ⟨a1, a2, a3, a4, a5⟩⟩) (by have := putO_le l ⟨u, o, ⟨a1, a2, a3, a4, a5⟩⟩; omega) o u b1 b2 b3 b4 b5).mono ?_
  rintro e wB ⟨z, rfl, hz, bB⟩
  have ZE := Lib.hid (hz.rd entOK).ents
  have X10B := Lib.hid (heap_laterR X10A.out bB)
  have X12B := Lib.hid (heap_laterR X12A.out bB)
  have HBB := Lib.hid (below2S HBA.out bB)
  clear hz bB
  go_wp2_with fail
  refine hK.out _ _ ?_ (fun hHeld2 => ?_)
  · exact two7 X10B.out X12B.out
  clear hK Kx hHeld
  have hHeld := hHeld2
  clear hHeld2
  try simp only [Act.put, List.setIfInBounds_toArray, List.set_cons_zero, List.set_cons_succ]
  refine wpAnyH_take (i := 5) (oi := { dst := some 8, op := Op.assign (Operand.tmp 96), type := 43, pos := "rost.go:53", after := #[{ on := 4, ground := Ground.data }, { on := 4, ground := Ground.chain }, { on := 0, ground := Ground.phase }, { on := 1, ground := Ground.phase }, { on := 2, ground := Ground.phase }, { on := 3, ground := Ground.phase }, { on := 4, ground := Ground.phase }], guard := none }) (v := ?_) rfl (by as_aux_lemma => kernel_rfl) (by as_aux_lemma => kernel_rfl) (by as_aux_lemma => kernel_rfl) (fun _ _ _ h => h) (Or.inl ⟨by rfl, ?_⟩) (by assumption) ?_
  rotate_left
  · intro w' hSw
    try dsimp only at hSw
    go_simp
    try with_reducible rfl
  try simp only [Act.put, List.setIfInBounds_toArray, List.set_cons_zero, List.set_cons_succ]
  refine wpAnyH_take (i := 6) (oi := { dst := some 9, op := Op.assign (Operand.const (Value.int IntKind.i64 0)), type := 45, pos := "rost.go:53", after := #[{ on := 5, ground := Ground.chain }, { on := 0, ground := Ground.phase }, { on := 1, ground := Ground.phase }, { on := 2, ground := Ground.phase }, { on := 3, ground := Ground.phase }, { on := 4, ground := Ground.phase }, { on := 5, ground := Ground.phase }], guard := none }) (v := ?_) rfl (by as_aux_lemma => kernel_rfl) (by as_aux_lemma => kernel_rfl) (by as_aux_lemma => kernel_rfl) (fun _ _ _ h => h) (Or.inl ⟨by rfl, ?_⟩) (by assumption) ?_
  rotate_left
  · intro w' hSw
    try dsimp only at hSw
    go_simp
    try with_reducible rfl
  try simp only [Act.put, List.setIfInBounds_toArray, List.set_cons_zero, List.set_cons_succ]
  refine wpAnyH_done (by kernel_rfl) ?_ _
  go_wp2_with fail
  go_ret2
  exact ⟨_, rfl, ZE.out, HBB.out⟩

set_option maxHeartbeats 3200000 in
set_option maxRecDepth 100000 in
theorem rdo_any {w : World} {v : Value} {l : List Ent} (hv : Ents w v l) (hs : ShortE l) (hl : l.length ≤ 900) (u o : List UInt8) (hu : u.length ≤ 4294967296) (ho : o.length ≤ 4294967296) (k : Int) (hk : (Lit.int .i64 k).wf = true) {R : List Ent} {n : Nat} (h : roDo l k u o = (R, n)) :
    Calls Try.prog 26 #[v, .int .i64 k, .string ⟨u.toArray⟩, .string ⟨o.toArray⟩] w fun e w' => ∃ v', e = .returned (.tuple #[v', .int .i64 (n : Int)]) ∧ Ents w' v' R ∧ Below w.heap.size w w' := by
  unfold roDo at h
  cases hm : roMayC l with
  | false =>
    rw [hm] at h
    simp only [Bool.false_and, Bool.false_eq_true, if_false, Prod.mk.injEq] at h
    obtain ⟨rfl, rfl⟩ := h
    exact rdoA hv hs (by omega) u o hu ho k hm
  | true =>
    cases h1 : idIs u with
    | false =>
      rw [hm, h1] at h
      simp only [Bool.false_and, Bool.true_and, Bool.false_eq_true, if_false, Prod.mk.injEq] at h
      obtain ⟨rfl, rfl⟩ := h
      exact rdoB hv hs (by omega) u o hu ho k hm h1
    | true =>
      cases h2 : idIs o with
      | false =>
        rw [hm, h1, h2] at h
        simp only [Bool.false_and, Bool.true_and, Bool.false_eq_true, if_false, Prod.mk.injEq] at h
        obtain ⟨rfl, rfl⟩ := h
        exact rdoC hv hs (by omega) u o hu ho k hm h1 h2
      | true =>
        by_cases h3 : u = o
        · rw [hm, h1, h2] at h
          simp only [h3, decide_true, Bool.not_true, Bool.false_and, Bool.true_and, Bool.false_eq_true, if_false, Prod.mk.injEq] at h
          obtain ⟨rfl, rfl⟩ := h
          exact rdoD hv hs (by omega) u o hu ho k hm h1 h2 (by simpa using h3)
        · have h3' : (u == o) = false := by rw [beq_eq_false_iff_ne]; exact h3
          obtain ⟨⟨i1, i2, i3, i4, i5⟩, hi⟩ : ∃ r, roIt l u o = r := ⟨_, rfl⟩
          obtain ⟨⟨j1, j2, j3, j4, j5⟩, hj⟩ : ∃ r, roIt l o u = r := ⟨_, rfl⟩
          obtain ⟨q, hq⟩ : ∃ q, (l.any fun x => entIs x ⟨u, o, It.zero⟩) = q := ⟨_, rfl⟩
          obtain ⟨⟨⟨a1, a2, a3, a4, a5⟩, ⟨b1, b2, b3, b4, b5⟩, er⟩, hact⟩ : ∃ r, suAct ⟨i1, i2, i3, i4, i5⟩ ⟨j1, j2, j3, j4, j5⟩ k = r := ⟨_, rfl⟩
          by_cases hr : 1 ≤ k ∧ k ≤ 6
          · rw [hm, h1, h2, hi, hj, hact, hq] at h
            simp only [h3, hr.1, hr.2, decide_false, decide_true, Bool.not_false, Bool.and_self, if_true] at h
            by_cases he : er = 0
            · subst he
              rw [if_neg (by simp)] at h
              have hmr := roMay_rise hm
              cases q with
              | false =>
                cases gu : decide (16 ≤ (roOf l u).length) with
                | true =>
                  rw [gu] at h
                  simp only [Bool.not_false, Bool.true_and, Bool.true_or, if_true, Prod.mk.injEq] at h
                  obtain ⟨rfl, rfl⟩ := h
                  exact rdoF1 hv hs hl u o hu ho k hm h1 h2 h3' hi hj hq rfl hk hact rfl gu
                | false =>
                  cases go : decide (16 ≤ (roOf l o).length) with
                  | true =>
                    rw [gu, go] at h
                    simp only [Bool.not_false, Bool.true_and, Bool.or_true, if_true, Prod.mk.injEq] at h
                    obtain ⟨rfl, rfl⟩ := h
                    exact rdoF2 hv hs hl u o hu ho k hm h1 h2 h3' hi hj hq rfl hk hact rfl gu go
                  | false =>
                    rw [gu, go] at h
                    simp only [Bool.or_self, Bool.and_false, Bool.false_eq_true, if_false, Prod.mk.injEq] at h
                    obtain ⟨rfl, rfl⟩ := h
                    cases ga : suEmpty ⟨a1, a2, a3, a4, a5⟩ with
                    | true =>
                      cases gb : suEmpty ⟨b1, b2, b3, b4, b5⟩ with
                      | true =>
                        simp only [Bool.and_self, Bool.not_true, roSet_drop]
                        exact rdoG2 hv hs hl u o hu ho k hm h1 h2 h3' hi hj hq rfl hk hact rfl gu go ga gb
                      | false =>
                        simp only [Bool.and_false, Bool.not_false]
                        rw [roSet_keep (roSet_rise hmr _ _), roSet_keep hmr]
                        exact rdoH4 hv hs hl u o hu ho k hm h1 h2 h3' hi hj hq rfl hk hact rfl gu go ga gb
                    | false =>
                      simp only [Bool.false_and, Bool.not_false]
                      rw [roSet_keep (roSet_rise hmr _ _), roSet_keep hmr]
                      exact rdoH3 hv hs hl u o hu ho k hm h1 h2 h3' hi hj hq rfl hk hact rfl gu go ga
              | true =>
                simp only [Bool.not_true, Bool.false_and, Bool.false_eq_true, if_false, Prod.mk.injEq] at h
                obtain ⟨rfl, rfl⟩ := h
                cases ga : suEmpty ⟨a1, a2, a3, a4, a5⟩ with
                | true =>
                  cases gb : suEmpty ⟨b1, b2, b3, b4, b5⟩ with
                  | true =>
                    simp only [Bool.and_self, Bool.not_true, roSet_drop]
                    exact rdoG1 hv hs hl u o hu ho k hm h1 h2 h3' hi hj hq rfl hk hact rfl ga gb
                  | false =>
                    simp only [Bool.and_false, Bool.not_false]
                    rw [roSet_keep (roSet_rise hmr _ _), roSet_keep hmr]
                    exact rdoH2 hv hs hl u o hu ho k hm h1 h2 h3' hi hj hq rfl hk hact rfl ga gb
                | false =>
                  simp only [Bool.false_and, Bool.not_false]
                  rw [roSet_keep (roSet_rise hmr _ _), roSet_keep hmr]
                  exact rdoH1 hv hs hl u o hu ho k hm h1 h2 h3' hi hj hq rfl hk hact rfl ga
            · rw [if_pos he] at h
              simp only [Prod.mk.injEq] at h
              obtain ⟨rfl, rfl⟩ := h
              exact rdoE hv hs (by omega) u o hu ho k hm h1 h2 h3' hi hj hq rfl hk hact he
          · have hcond : (decide (1 ≤ k) && decide (k ≤ 6)) = false := by
              rw [Bool.eq_false_iff]
              intro h'
              simp only [Bool.and_eq_true, decide_eq_true_eq] at h'
              exact hr h'
            rw [hm, h1, h2, hcond] at h
            simp only [Bool.and_false, Bool.false_eq_true, if_false, Prod.mk.injEq] at h
            obtain ⟨rfl, rfl⟩ := h
            have hlow := suAct_low (a := ⟨i1, i2, i3, i4, i5⟩) (b := ⟨j1, j2, j3, j4, j5⟩) (k := k) (by omega)
            exact rdoE hv hs (by omega) u o hu ho k hm h1 h2 h3' hi hj hq rfl hk hlow (by decide)

end Go.Proofs.Ytlckphdmflofgaa
end

section
/-
  LAYER 8: a map from pairs of names to items; what Do makes of the two items; for RostMay.
-/
namespace Go.Proofs.Ytlckphdmflofgaa
open Go.RowKit Go.ChangeMaps Go.MapKept

/-- How an item reads as a map's element. -/
def itData (i : It) : DataW Unit := .agg [.lit (.bool i.to), .lit (.bool i.fr), .lit (.bool i.out), .lit (.bool i.inn), .lit (.bool i.bl)]

def itElem : Value → Option (DataW Unit × List MemPlace)
  | .agg cs => match cs.toList with
    | [.bool a, .bool b, .bool c, .bool d, .bool e] => some (itData ⟨a, b, c, d, e⟩, [])
    | _ => none
  | _ => none

/-- Block B is a map that holds the item of each pair of names. -/
def ItemsAt (w : World) (B n : Nat) (g : List UInt8 → List UInt8 → It) : Prop :=
  ∃ m, ∃ D : DataW Unit, m ≤ n ∧ w.ownsMap Try.prog 44 itElem B m D ∧ ∀ a b : List UInt8, a.length ≤ 40 → b.length ≤ 40 → D.atKey (pkL a b) (itData It.zero) = itData (g a b)

theorem ItemsAt.lt {w : World} {B n : Nat} {g : List UInt8 → List UInt8 → It} (h : ItemsAt w B n g) : B < w.heap.size := by
  obtain ⟨_, _, _, h, _⟩ := h
  exact h.lt

theorem ItemsAt.later {w w' : World} {B n : Nat} {g : List UInt8 → List UInt8 → It} (h : ItemsAt w B n g) (hb : Below w.heap.size w w') : ItemsAt w' B n g := by
  have hlt := h.lt
  obtain ⟨m, D, h1, ⟨es, clock, h2, h3, h4, h5⟩, h6⟩ := h
  exact ⟨m, D, h1, ⟨es, clock, (hb.block B hlt).trans h2, h3, h4, h5⟩, h6⟩

theorem ItemsAt.isMap {w : World} {B n : Nat} {g : List UInt8 → List UInt8 → It} (h : ItemsAt w B n g) : ∃ es clock, w.heap[B]? = some (.map es clock) := by
  obtain ⟨_, _, _, ⟨es, clock, h2, _⟩, _⟩ := h
  exact ⟨es, clock, h2⟩

def layI (g : List UInt8 → List UInt8 → It) (a b : List UInt8) (i : It) : List UInt8 → List UInt8 → It := fun x y => if x = a ∧ y = b then i else g x y

/-- Entries stay where a map turns. -/
theorem Ents.grown {w w' : World} {v : Value} {l : List Ent} (h : Ents w v l) {B : Nat} (hm : ∃ es clock, w.heap[B]? = some (.map es clock)) (hg : w.grownBy w' (some B)) : Ents w' v l := by
  obtain ⟨es, clock, hm⟩ := hm
  obtain ⟨a, cap, h1, h2, h3, h4, h5⟩ := h
  refine ⟨a, cap, h1, h2, h3, h4, ?_⟩
  rcases h5 with h5 | ⟨b, off, e, hlt, hc⟩
  · exact .inl h5
  · refine .inr ⟨b, off, e, Nat.lt_of_lt_of_le hlt hg.size, fun i hi => ?_⟩
    have hbB : b ≠ B := by
      rintro rfl
      have := (hc i hi).1
      simp [World.cell?, hm] at this
    have hb := hg.block b hlt (fun e => hbB (by injection e))
    have key : ∀ j u, w.cell? ⟨b, j, none⟩ = some u → w'.cell? ⟨b, j, none⟩ = some u := by
      intro j u hu
      simp only [World.cell?, hb] at hu ⊢
      exact hu
    obtain ⟨g0, g1, g2, g3, g4, g5, g6⟩ := hc i hi
    exact ⟨key _ _ g0, key _ _ g1, key _ _ g2, key _ _ g3, key _ _ g4, key _ _ g5, key _ _ g6⟩

theorem roM_short {l : List Ent} (h : RoM l) : ShortE l := fun e he => by
  have h1 := (h.2 e he).1
  have h2 := (h.2 e he).2.1
  have k1 := (idIs_parts h1).2.1
  have k2 := (idIs_parts h2).2.1
  exact ⟨by omega, by omega⟩

theorem roM_nil : RoM [] := ⟨List.Pairwise.nil, fun e he => by simp at he⟩

theorem roDo_len2 {l m : List Ent} {k : Int} {u o : List UInt8} (h : roDo l k u o = (m, 0)) : m.length ≤ l.length + 2 := by
  obtain ⟨hm, _, _, _, _, _, a, b, _, _, rfl⟩ := roDo_ok h
  have hr : Rise l := hm.1
  have key : ∀ (t : List Ent) (x : Ent) (keep : Bool), Rise t → (roSet t x keep).length ≤ t.length + 1 := by
    intro t x keep ht
    cases keep with
    | true => rw [roSet_keep ht]; exact putO_le t x
    | false => rw [roSet_drop]; exact Nat.le_trans (dropO_le t x) (Nat.le_succ _)
  have h1 := key l ⟨u, o, a⟩ (!(suEmpty a && suEmpty b)) hr
  have h2 := key (roSet l ⟨u, o, a⟩ (!(suEmpty a && suEmpty b))) ⟨o, u, b⟩ (!(suEmpty a && suEmpty b)) (roSet_rise hr _ _)
  omega

end Go.Proofs.Ytlckphdmflofgaa
end

section
/-
  LAYER 13 BESIDE LAYER 8: an Index that has whom rosters let see; and entries beside an Index's blocks.
-/
namespace Go.Proofs.Ytlckphdmflofgaa
open Go.RowKit Go.ChangeMaps Go.MapKept

/-- What Set tells, and who is there then. -/
theorem set_ansK (L : List Pr) (p : Pr) (on : Bool) : ∃ L2, ixSet L p on = (L2, ixHas L p != on) ∧ (∀ r, ixHas L2 r = if r = p then on else ixHas L r) ∧ L2.length ≤ L.length + 1 := by
  unfold ixSet
  by_cases h : ixHas L p = on
  · rw [if_pos h]
    refine ⟨L, by rw [h]; simp, fun r => ?_, Nat.le_succ _⟩
    by_cases e : r = p
    · rw [if_pos e, e, h]
    · rw [if_neg e]
  · rw [if_neg h]
    refine ⟨_, by rw [show (ixHas L p != on) = true by simpa using h], fun r => ?_, ?_⟩
    · unfold ixHas
      cases on with
      | true =>
        rw [if_pos rfl]
        by_cases e : r = p
        · simp [e]
        · simp [e]
      | false =>
        rw [if_neg (by decide)]
        by_cases e : r = p
        · simp [e]
        · simp [e]
    · cases on with
      | true => rw [if_pos rfl]; simp
      | false => rw [if_neg (by decide)]; exact Nat.le_succ_of_le (List.length_filter_le _ _)

/-- The pairs are those who see. -/
def KeptIx (L : List Pr) (E : List Ent) : Prop := ∀ p q, ixHas L (p, q) = roSees E p q

theorem kept_nil : KeptIx [] [] := fun p q => by
  have : roSees [] p q = false := by
    show suSees It.zero It.zero = false
    decide
  rw [this]
  rfl

theorem kept_step {L L1 L2 : List Pr} {E M : List Ent} (h : KeptIx L E) {k : Int} {n : Nat} {a b : List UInt8} (hd : roDo E k a b = (M, n))
    (h1 : ∀ r, ixHas L1 r = if r = (a, b) then roSees M a b else ixHas L r) (h2 : ∀ r, ixHas L2 r = if r = (b, a) then roSees M b a else ixHas L1 r) : KeptIx L2 M := by
  intro p q
  rw [h2]
  by_cases e2 : (p, q) = (b, a)
  · rw [if_pos e2]
    injection e2 with e2 e3
    rw [e2, e3]
  · rw [if_neg e2, h1]
    by_cases e1 : (p, q) = (a, b)
    · rw [if_pos e1]
      injection e1 with e1 e3
      rw [e1, e3]
    · rw [if_neg e1, h p q]
      by_cases hn : n = 0
      · subst hn
        exact (roDo_get hd (fun e => e1 (by rw [e.1, e.2])) (fun e => e2 (by rw [e.1, e.2]))).2.symm
      · rw [roDo_err hd hn]

theorem kept_may {E M : List Ent} {k : Int} {n : Nat} {a b : List UInt8} (h : RoM E) (hd : roDo E k a b = (M, n)) : RoM M ∧ M.length ≤ E.length + 2 := by
  by_cases hn : n = 0
  · subst hn
    exact ⟨roDo_may hd, roDo_len2 hd⟩
  · rw [roDo_err hd hn]
    exact ⟨h, by omega⟩

theorem kept_wat {L : List Pr} {E : List Ent} (h : KeptIx L E) (hr : Rise E) (c : List UInt8) : ixSide L true c = roWat E c := by
  refine rising_unique (mrg_rising _) (roWat_rise hr c) fun x => ?_
  rw [roWat_mem hr, ← h]
  unfold ixHas
  rw [decide_eq_true_eq]
  unfold ixSide
  rw [mrg_mem, List.mem_map]
  constructor
  · rintro ⟨⟨p, q⟩, hp, e⟩
    rw [List.mem_filter, decide_eq_true_eq] at hp
    have h1 : q = c := hp.2
    have h2 : p = x := e
    subst h1 h2
    exact hp.1
  · intro hm
    exact ⟨(x, c), by rw [List.mem_filter, decide_eq_true_eq]; exact ⟨hm, rfl⟩, rfl⟩

/-- What lies in an Index's blocks is a text, or a map. -/
theorem IxB.kind {w : World} {base xb K : Nat} {L : List Pr} {F : Nat → Prop} (h : IxB w base xb K L F) {b : Nat} (hb : F b) {o : Nat} {v : Value} (hc : w.cell? ⟨b, o, none⟩ = some v) : isStrV v ∨ ∃ m, v = .map m := by
  obtain ⟨N, x, mp, m0, m1, f, h1, -, rfl⟩ := h
  have noMap : ∀ c, (c = mp ∨ c = m0 ∨ c = m1) → b = c → isStrV v ∨ ∃ m, v = .map m := by
    intro c hcm e
    obtain ⟨es, cl, e2⟩ := h1.raw.isMap hcm
    subst e
    simp [World.cell?, e2] at hc
  rcases hb with e | e | e | e | ⟨s, u, a, ha, e⟩
  · subst e
    have := h1.blk
    unfold ixCells at this
    rw [cell_of_row w b o _ _ _ this] at hc
    have := Array.mem_of_getElem? hc
    simp only [List.mem_toArray, List.mem_cons, List.not_mem_nil, or_false] at this
    rcases this with rfl | rfl | rfl <;> exact .inr ⟨_, rfl⟩
  · exact noMap mp (.inl rfl) e
  · exact noMap m0 (.inr (.inl rfl)) e
  · exact noMap m1 (.inr (.inr rfl)) e
  · have := h1.str s u
    rw [ha] at this
    obtain ⟨cur, k1, k2⟩ := this a.g rfl
    subst e
    rw [cell_of_row w a.g o _ _ _ k1] at hc
    exact .inl (k2 v (by simpa using Array.mem_of_getElem? hc))

/-- Entries are beside them. -/
theorem Ents.besideIx {w w' : World} {base xb K : Nat} {L : List Pr} {F F' : Nat → Prop} {v : Value} {E : List Ent} (h : Ents w v E) (hx : IxB w base xb K L F) (ht : Turned w w' F F') : Ents w' v E := by
  have h' := h.rdS
  refine RdS.ents ?_
  obtain ⟨a, cap, h1, h2, h3, h4, h5⟩ := h'
  refine ⟨a, cap, h1, h2, h3, h4, ?_⟩
  rcases h5 with h5 | ⟨b, off, e, hlt, hc⟩
  · exact .inl h5
  · by_cases h0 : E = []
    · exact .inl h0
    · have hpos := List.length_pos_iff.2 h0
      have hnf : ¬ F b := fun hf => by
        have := hc 0 hpos 2 _ rfl
        rcases hx.kind hf this with ⟨s, e⟩ | ⟨m, e⟩ <;> cases e
      have he := ht.2.1 b hlt hnf
      exact .inr ⟨b, off, e, Nat.lt_of_lt_of_le hlt ht.1, fun i hi j u hu => (World.cell?_of_block (a := ⟨b, off + i * 7 + j, none⟩) he).trans (hc i hi j u hu)⟩

end Go.Proofs.Ytlckphdmflofgaa
end
