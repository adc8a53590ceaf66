/-
  TEXTS OF THE PROOF, one behind the other: RosDoC2, RosWatP, RosSort, RosSort2, IdDoc, IdRput, IdRmerge, IdConcat, IdMerge, RosAbout, RosWat, RosLive, RosRef, RosMayD.
-/
import Derived.Test.YtndicdomdndjaaaP08
import Derived.Test.YtndicdomdndjaaaP01
import Derived.Test.YtndicdomdndjaaaProg
import Derived.Lib.Hide
import Derived.Lib.AppendZeros
import Derived.OwnWalk
import Derived.BigQuiet
import Derived.Deep.DeepMust
import Derived.Lib.OwnBridge
import Derived.WalkSpells
import Derived.Test.YtndicdomdndjaaaP06

section

/-
  LAYER 8, THE CODE: Do, where it does.
-/
namespace Go.Proofs.Ytndicdomdndjaaa
open Go.RowKit

set_option maxHeartbeats 3200000 in
set_option maxRecDepth 100000 in
theorem rdoF1 {w : World} {v : Value} {l : List Ent} (hv : Ents w v l) (hs : ShortE l) (hl : l.length ≤ 900) (u o : List UInt8) (hu : u.length ≤ 4294967296) (ho : o.length ≤ 4294967296) (k : Int) (hm : roMayC l = true) (h1 : idIs u = true) (h2 : idIs o = true) (h3 : (u == o) = false) {i1 i2 i3 i4 i5 j1 j2 j3 j4 j5 q q' a1 a2 a3 a4 a5 b1 b2 b3 b4 b5 : Bool} (hi : roIt l u o = ⟨i1, i2, i3, i4, i5⟩) (hj : roIt l o u = ⟨j1, j2, j3, j4, j5⟩) (hq : (l.any fun x => entIs x ⟨u, o, It.zero⟩) = q) (hq' : (l.any fun x => entIs x ⟨o, u, It.zero⟩) = q') (hk : (Lit.int .i64 k).wf = true) (hact : suAct ⟨i1, i2, i3, i4, i5⟩ ⟨j1, j2, j3, j4, j5⟩ k = (⟨a1, a2, a3, a4, a5⟩, ⟨b1, b2, b3, b4, b5⟩, 0)) (hf : q = false) (gu : decide (16 ≤ (roOf l u).length) = true) :
    Calls Try.prog 38 #[v, .int .i64 k, .string ⟨u.toArray⟩, .string ⟨o.toArray⟩] w fun e w' => ∃ v', e = .returned (.tuple #[v', .int .i64 5]) ∧ Ents w' v' l ∧ Below w.heap.size w w' := by
  subst hf
  have GU := Lib.hid gu
  clear gu
  have HV := Lib.hid hv
  have HM := Lib.hid (romay_any hv hs (Lib.hid hm))
  have HR := Lib.hid (roMay_rise hm)
  have I1 := Lib.hid (is_eq u hu (Lib.hid h1))
  have I2 := Lib.hid (is_eq o ho (Lib.hid h2))
  have E1 := Lib.hid (entry_any u o)
  have E2 := Lib.hid (entry_any o u)
  have FI := Lib.hid hi
  have FJ := Lib.hid hj
  have FQ := Lib.hid hq
  have FQ' := Lib.hid hq'
  have HA := Lib.hid (sact_any i1 i2 i3 i4 i5 j1 j2 j3 j4 j5 k hk)
  rw [hact] at HA
  obtain ⟨a, cap, rfl, hmx⟩ := hv.open'
  clear hv hs hm h1 h2 hi hj hq hq' hk hact
  go_enter Try.func38, Try.ntmps38
  go_wp2_with fail
  refine HM.out.mono ?_
  rintro e w1 ⟨rfl, b1⟩
  have HB := Lib.hid b1
  clear b1
  go_wp2_with fail
  refine (I1.out _).mono ?_
  rintro e w2 ⟨rfl, b⟩
  replace HB := Lib.hid (below2S HB.out b)
  clear b
  go_wp2_with fail
  refine (I2.out _).mono ?_
  rintro e w3 ⟨rfl, b⟩
  replace HB := Lib.hid (below2S HB.out b)
  clear b
  go_wp2_with fail
  refine (E1.out _).mono ?_
  rintro e w4 ⟨rfl, b⟩
  replace HB := Lib.hid (below2S HB.out b)
  clear b
  go_wp2_with fail
  refine (rfind_eq (HV.out.later HB.out) HR.out u o FI FQ).mono ?_
  rintro e w5 ⟨rfl, b⟩
  have bb := bl_newZ w5 (.cells #[.string ⟨u.toArray⟩, .string ⟨o.toArray⟩, .bool i1, .bool i2, .bool i3, .bool i4, .bool i5] 78)
  have X10 := Lib.hid (heap_newR w5 (.cells #[.string ⟨u.toArray⟩, .string ⟨o.toArray⟩, .bool i1, .bool i2, .bool i3, .bool i4, .bool i5] 78) rfl)
  have HS5 := Lib.hid (below2S HB.out b).size
  replace HB := Lib.hid (below2S (below2S HB.out b) bb)
  clear b bb
  go_wp2_with fail
  generalize hW : w5.alloc (.cells #[.string ⟨u.toArray⟩, .string ⟨o.toArray⟩, .bool i1, .bool i2, .bool i3, .bool i4, .bool i5] 78) = w6 at HB X10 ⊢
  generalize hN : w5.heap.size = n5 at X10 HS5 ⊢
  clear hW hN
  refine (E2.out _).mono ?_
  rintro e w7 ⟨rfl, b⟩
  replace X10 := Lib.hid (heap_laterR X10.out b)
  replace HB := Lib.hid (below2S HB.out b)
  clear b
  go_wp2_with fail
  refine (rfind_eq (HV.out.later HB.out) HR.out o u FJ FQ').mono ?_
  rintro e w8 ⟨rfl, b⟩
  have bb := bl_newZ w8 (.cells #[.string ⟨o.toArray⟩, .string ⟨u.toArray⟩, .bool j1, .bool j2, .bool j3, .bool j4, .bool j5] 78)
  have X12 := Lib.hid (heap_newR w8 (.cells #[.string ⟨o.toArray⟩, .string ⟨u.toArray⟩, .bool j1, .bool j2, .bool j3, .bool j4, .bool j5] 78) rfl)
  have HS8 := Lib.hid (below2S HB.out b).size
  replace X10 := Lib.hid (heap_laterR X10.out b)
  have hne := Lib.hid (heap_ltR X10.out)
  replace X10 := Lib.hid (heap_laterR X10.out bb)
  replace HB := Lib.hid (below2S (below2S HB.out b) bb)
  clear b bb
  obtain ⟨c0, c1, c2, c3, c4, c5, c6⟩ := e7_cells X10.out
  obtain ⟨d0, d1, d2, d3, d4, d5, d6⟩ := e7_cells X12.out
  simp only [Nat.zero_add] at c0 c1 c2 c3 c4 c5 c6 d0 d1 d2 d3 d4 d5 d6
  go_wp2_with fail
  generalize hW : w8.alloc (.cells #[.string ⟨o.toArray⟩, .string ⟨u.toArray⟩, .bool j1, .bool j2, .bool j3, .bool j4, .bool j5] 78) = w9 at HB X10 X12 c0 c1 c2 c3 c4 c5 c6 d0 d1 d2 d3 d4 d5 d6 ⊢
  generalize hN : w8.heap.size = n8 at X12 HS8 hne d0 d1 d2 d3 d4 d5 d6 ⊢
  clear hW hN c0 c1 c2 c3 c4 c5 c6 d0 d1 d2 d3 d4 d5 d6
  refine (HA.out _).mono ?_
  rintro e w10 ⟨rfl, b⟩
  replace X10 := Lib.hid (heap_laterR X10.out b)
  replace X12 := Lib.hid (heap_laterR X12.out b)
  replace HB := Lib.hid (below2S HB.out b)
  clear b
  have hne1 : n5 ≠ n8 := by have := hne.out; omega
  have Y12 := e7_other X12.out hne1 a1 a2 a3 a4 a5
  have Y10 := e7_set X10.out a1 a2 a3 a4 a5
  have Z12 := Lib.hid (e7_set Y12 b1 b2 b3 b4 b5)
  have Z10 := Lib.hid (e7_other Y10 hne1.symm b1 b2 b3 b4 b5)
  have ZB := Lib.hid (setI_below (setI_below HB.out HS5.out a1 a2 a3 a4 a5) HS8.out b1 b2 b3 b4 b5)
  obtain ⟨c0, c1, c2, c3, c4, c5, c6⟩ := e7_cells X10.out
  obtain ⟨d0, d1, d2, d3, d4, d5, d6⟩ := e7_cells Y12
  simp only [Nat.zero_add] at c0 c1 c2 c3 c4 c5 c6 d0 d1 d2 d3 d4 d5 d6
  have f2 := e7_frozen X10.out 2
  have f3 := e7_frozen X10.out 3
  have f4 := e7_frozen X10.out 4
  have f5 := e7_frozen X10.out 5
  have f6 := e7_frozen X10.out 6
  have g2 := e7_frozen Y12 2
  have g3 := e7_frozen Y12 3
  have g4 := e7_frozen Y12 4
  have g5 := e7_frozen Y12 5
  have g6 := e7_frozen Y12 6
  unfold setI at d0 d1 d2 d3 d4 d5 d6 g2 g3 g4 g5 g6
  clear Y10 Y12
  unfold actE
  obtain ⟨e0, e1, e2, e3, e4, e5, e6⟩ := e7_cells Z10.out
  obtain ⟨p0, p1, p2, p3, p4, p5, p6⟩ := e7_cells Z12.out
  simp only [Nat.zero_add] at e0 e1 e2 e3 e4 e5 e6 p0 p1 p2 p3 p4 p5 p6
  unfold setI at e0 e1 e2 e3 e4 e5 e6 p0 p1 p2 p3 p4 p5 p6
  replace X10 := Z10
  replace X12 := Z12
  replace HB := ZB
  clear Z10 Z12 ZB
  go_wp2_with fail
  clear c0 c1 c2 c3 c4 c5 c6 d0 d1 d2 d3 d4 d5 d6 f2 f3 f4 f5 f6 g2 g3 g4 g5 g6 e0 e1 e2 e3 e4 e5 e6 p0 p1 p2 p3 p4 p5 p6 HA FI FJ FQ FQ' HM I1 I2 E1 E2
  refine (risFull_any (HV.out.later HB.out) (by omega) u GU).mono ?_
  rintro e w12 ⟨rfl, b⟩
  replace X10 := Lib.hid (heap_laterR X10.out b)
  replace X12 := Lib.hid (heap_laterR X12.out b)
  replace HB := Lib.hid (below2S HB.out b)
  clear b
  go_wp2_with fail
  go_ret2
  exact ⟨_, rfl, HV.out.later HB.out, HB.out⟩

set_option maxHeartbeats 3200000 in
set_option maxRecDepth 100000 in
theorem rdoF2 {w : World} {v : Value} {l : List Ent} (hv : Ents w v l) (hs : ShortE l) (hl : l.length ≤ 900) (u o : List UInt8) (hu : u.length ≤ 4294967296) (ho : o.length ≤ 4294967296) (k : Int) (hm : roMayC l = true) (h1 : idIs u = true) (h2 : idIs o = true) (h3 : (u == o) = false) {i1 i2 i3 i4 i5 j1 j2 j3 j4 j5 q q' a1 a2 a3 a4 a5 b1 b2 b3 b4 b5 : Bool} (hi : roIt l u o = ⟨i1, i2, i3, i4, i5⟩) (hj : roIt l o u = ⟨j1, j2, j3, j4, j5⟩) (hq : (l.any fun x => entIs x ⟨u, o, It.zero⟩) = q) (hq' : (l.any fun x => entIs x ⟨o, u, It.zero⟩) = q') (hk : (Lit.int .i64 k).wf = true) (hact : suAct ⟨i1, i2, i3, i4, i5⟩ ⟨j1, j2, j3, j4, j5⟩ k = (⟨a1, a2, a3, a4, a5⟩, ⟨b1, b2, b3, b4, b5⟩, 0)) (hf : q = false) (gu : decide (16 ≤ (roOf l u).length) = false) (go : decide (16 ≤ (roOf l o).length) = true) :
    Calls Try.prog 38 #[v, .int .i64 k, .string ⟨u.toArray⟩, .string ⟨o.toArray⟩] w fun e w' => ∃ v', e = .returned (.tuple #[v', .int .i64 5]) ∧ Ents w' v' l ∧ Below w.heap.size w w' := by
  subst hf
  have GU := Lib.hid gu
  have GO := Lib.hid go
  clear gu go
  have HV := Lib.hid hv
  have HM := Lib.hid (romay_any hv hs (Lib.hid hm))
  have HR := Lib.hid (roMay_rise hm)
  have I1 := Lib.hid (is_eq u hu (Lib.hid h1))
  have I2 := Lib.hid (is_eq o ho (Lib.hid h2))
  have E1 := Lib.hid (entry_any u o)
  have E2 := Lib.hid (entry_any o u)
  have FI := Lib.hid hi
  have FJ := Lib.hid hj
  have FQ := Lib.hid hq
  have FQ' := Lib.hid hq'
  have HA := Lib.hid (sact_any i1 i2 i3 i4 i5 j1 j2 j3 j4 j5 k hk)
  rw [hact] at HA
  obtain ⟨a, cap, rfl, hmx⟩ := hv.open'
  clear hv hs hm h1 h2 hi hj hq hq' hk hact
  go_enter Try.func38, Try.ntmps38
  go_wp2_with fail
  refine HM.out.mono ?_
  rintro e w1 ⟨rfl, b1⟩
  have HB := Lib.hid b1
  clear b1
  go_wp2_with fail
  refine (I1.out _).mono ?_
  rintro e w2 ⟨rfl, b⟩
  replace HB := Lib.hid (below2S HB.out b)
  clear b
  go_wp2_with fail
  refine (I2.out _).mono ?_
  rintro e w3 ⟨rfl, b⟩
  replace HB := Lib.hid (below2S HB.out b)
  clear b
  go_wp2_with fail
  refine (E1.out _).mono ?_
  rintro e w4 ⟨rfl, b⟩
  replace HB := Lib.hid (below2S HB.out b)
  clear b
  go_wp2_with fail
  refine (rfind_eq (HV.out.later HB.out) HR.out u o FI FQ).mono ?_
  rintro e w5 ⟨rfl, b⟩
  have bb := bl_newZ w5 (.cells #[.string ⟨u.toArray⟩, .string ⟨o.toArray⟩, .bool i1, .bool i2, .bool i3, .bool i4, .bool i5] 78)
  have X10 := Lib.hid (heap_newR w5 (.cells #[.string ⟨u.toArray⟩, .string ⟨o.toArray⟩, .bool i1, .bool i2, .bool i3, .bool i4, .bool i5] 78) rfl)
  have HS5 := Lib.hid (below2S HB.out b).size
  replace HB := Lib.hid (below2S (below2S HB.out b) bb)
  clear b bb
  go_wp2_with fail
  generalize hW : w5.alloc (.cells #[.string ⟨u.toArray⟩, .string ⟨o.toArray⟩, .bool i1, .bool i2, .bool i3, .bool i4, .bool i5] 78) = w6 at HB X10 ⊢
  generalize hN : w5.heap.size = n5 at X10 HS5 ⊢
  clear hW hN
  refine (E2.out _).mono ?_
  rintro e w7 ⟨rfl, b⟩
  replace X10 := Lib.hid (heap_laterR X10.out b)
  replace HB := Lib.hid (below2S HB.out b)
  clear b
  go_wp2_with fail
  refine (rfind_eq (HV.out.later HB.out) HR.out o u FJ FQ').mono ?_
  rintro e w8 ⟨rfl, b⟩
  have bb := bl_newZ w8 (.cells #[.string ⟨o.toArray⟩, .string ⟨u.toArray⟩, .bool j1, .bool j2, .bool j3, .bool j4, .bool j5] 78)
  have X12 := Lib.hid (heap_newR w8 (.cells #[.string ⟨o.toArray⟩, .string ⟨u.toArray⟩, .bool j1, .bool j2, .bool j3, .bool j4, .bool j5] 78) rfl)
  have HS8 := Lib.hid (below2S HB.out b).size
  replace X10 := Lib.hid (heap_laterR X10.out b)
  have hne := Lib.hid (heap_ltR X10.out)
  replace X10 := Lib.hid (heap_laterR X10.out bb)
  replace HB := Lib.hid (below2S (below2S HB.out b) bb)
  clear b bb
  obtain ⟨c0, c1, c2, c3, c4, c5, c6⟩ := e7_cells X10.out
  obtain ⟨d0, d1, d2, d3, d4, d5, d6⟩ := e7_cells X12.out
  simp only [Nat.zero_add] at c0 c1 c2 c3 c4 c5 c6 d0 d1 d2 d3 d4 d5 d6
  go_wp2_with fail
  generalize hW : w8.alloc (.cells #[.string ⟨o.toArray⟩, .string ⟨u.toArray⟩, .bool j1, .bool j2, .bool j3, .bool j4, .bool j5] 78) = w9 at HB X10 X12 c0 c1 c2 c3 c4 c5 c6 d0 d1 d2 d3 d4 d5 d6 ⊢
  generalize hN : w8.heap.size = n8 at X12 HS8 hne d0 d1 d2 d3 d4 d5 d6 ⊢
  clear hW hN c0 c1 c2 c3 c4 c5 c6 d0 d1 d2 d3 d4 d5 d6
  refine (HA.out _).mono ?_
  rintro e w10 ⟨rfl, b⟩
  replace X10 := Lib.hid (heap_laterR X10.out b)
  replace X12 := Lib.hid (heap_laterR X12.out b)
  replace HB := Lib.hid (below2S HB.out b)
  clear b
  have hne1 : n5 ≠ n8 := by have := hne.out; omega
  have Y12 := e7_other X12.out hne1 a1 a2 a3 a4 a5
  have Y10 := e7_set X10.out a1 a2 a3 a4 a5
  have Z12 := Lib.hid (e7_set Y12 b1 b2 b3 b4 b5)
  have Z10 := Lib.hid (e7_other Y10 hne1.symm b1 b2 b3 b4 b5)
  have ZB := Lib.hid (setI_below (setI_below HB.out HS5.out a1 a2 a3 a4 a5) HS8.out b1 b2 b3 b4 b5)
  obtain ⟨c0, c1, c2, c3, c4, c5, c6⟩ := e7_cells X10.out
  obtain ⟨d0, d1, d2, d3, d4, d5, d6⟩ := e7_cells Y12
  simp only [Nat.zero_add] at c0 c1 c2 c3 c4 c5 c6 d0 d1 d2 d3 d4 d5 d6
  have f2 := e7_frozen X10.out 2
  have f3 := e7_frozen X10.out 3
  have f4 := e7_frozen X10.out 4
  have f5 := e7_frozen X10.out 5
  have f6 := e7_frozen X10.out 6
  have g2 := e7_frozen Y12 2
  have g3 := e7_frozen Y12 3
  have g4 := e7_frozen Y12 4
  have g5 := e7_frozen Y12 5
  have g6 := e7_frozen Y12 6
  unfold setI at d0 d1 d2 d3 d4 d5 d6 g2 g3 g4 g5 g6
  clear Y10 Y12
  unfold actE
  obtain ⟨e0, e1, e2, e3, e4, e5, e6⟩ := e7_cells Z10.out
  obtain ⟨p0, p1, p2, p3, p4, p5, p6⟩ := e7_cells Z12.out
  simp only [Nat.zero_add] at e0 e1 e2 e3 e4 e5 e6 p0 p1 p2 p3 p4 p5 p6
  unfold setI at e0 e1 e2 e3 e4 e5 e6 p0 p1 p2 p3 p4 p5 p6
  replace X10 := Z10
  replace X12 := Z12
  replace HB := ZB
  clear Z10 Z12 ZB
  go_wp2_with fail
  clear c0 c1 c2 c3 c4 c5 c6 d0 d1 d2 d3 d4 d5 d6 f2 f3 f4 f5 f6 g2 g3 g4 g5 g6 e0 e1 e2 e3 e4 e5 e6 p0 p1 p2 p3 p4 p5 p6 HA FI FJ FQ FQ' HM I1 I2 E1 E2
  refine (risFull_any (HV.out.later HB.out) (by omega) u GU).mono ?_
  rintro e w12 ⟨rfl, b⟩
  replace X10 := Lib.hid (heap_laterR X10.out b)
  replace X12 := Lib.hid (heap_laterR X12.out b)
  replace HB := Lib.hid (below2S HB.out b)
  clear b
  go_wp2_with fail
  refine (risFull_any (HV.out.later HB.out) (by omega) o GO).mono ?_
  rintro e w13 ⟨rfl, b⟩
  replace X10 := Lib.hid (heap_laterR X10.out b)
  replace X12 := Lib.hid (heap_laterR X12.out b)
  replace HB := Lib.hid (below2S HB.out b)
  clear b
  go_wp2_with fail
  go_ret2
  exact ⟨_, rfl, HV.out.later HB.out, HB.out⟩

/-- The two entries, in their blocks. -/
theorem two7 {w : World} {n5 n8 : Nat} {u o : List UInt8} {a1 a2 a3 a4 a5 b1 b2 b3 b4 b5 : Bool} (h : w.heap[n5]? = some (.cells #[.string ⟨u.toArray⟩, .string ⟨o.toArray⟩, .bool a1, .bool a2, .bool a3, .bool a4, .bool a5] 78 (0, 0))) (g : w.heap[n8]? = some (.cells #[.string ⟨o.toArray⟩, .string ⟨u.toArray⟩, .bool b1, .bool b2, .bool b3, .bool b4, .bool b5] 78 (0, 0))) :
    ((w).cell? ⟨n5, 0, none⟩ = some (.string ⟨u.toArray⟩) ∧ (w).cell? ⟨n5, 1, none⟩ = some (.string ⟨o.toArray⟩) ∧ (w).cell? ⟨n5, 2, none⟩ = some (.bool a1) ∧ (w).cell? ⟨n5, 3, none⟩ = some (.bool a2) ∧ (w).cell? ⟨n5, 4, none⟩ = some (.bool a3) ∧ (w).cell? ⟨n5, 5, none⟩ = some (.bool a4) ∧ (w).cell? ⟨n5, 6, none⟩ = some (.bool a5) ∧ (w).cell? ⟨n8, 0, none⟩ = some (.string ⟨o.toArray⟩) ∧ (w).cell? ⟨n8, 1, none⟩ = some (.string ⟨u.toArray⟩) ∧ (w).cell? ⟨n8, 2, none⟩ = some (.bool b1) ∧ (w).cell? ⟨n8, 3, none⟩ = some (.bool b2) ∧ (w).cell? ⟨n8, 4, none⟩ = some (.bool b3) ∧ (w).cell? ⟨n8, 5, none⟩ = some (.bool b4) ∧ (w).cell? ⟨n8, 6, none⟩ = some (.bool b5)) := by
  obtain ⟨e0, e1, e2, e3, e4, e5, e6⟩ := e7_cells h
  obtain ⟨p0, p1, p2, p3, p4, p5, p6⟩ := e7_cells g
  exact ⟨e0, e1, e2, e3, e4, e5, e6, p0, p1, p2, p3, p4, p5, p6⟩

theorem dropO_le (l : List Ent) (x : Ent) : (dropO entIs l x).length ≤ l.length := List.length_filter_le _ _

theorem putO_le (l : List Ent) (x : Ent) : (putO entLt entIs l x).length ≤ l.length + 1 := by
  rw [putO_len]
  split <;> omega

set_option maxHeartbeats 3200000 in
set_option maxRecDepth 100000 in
theorem rdoG1 {w : World} {v : Value} {l : List Ent} (hv : Ents w v l) (hs : ShortE l) (hl : l.length ≤ 900) (u o : List UInt8) (hu : u.length ≤ 4294967296) (ho : o.length ≤ 4294967296) (k : Int) (hm : roMayC l = true) (h1 : idIs u = true) (h2 : idIs o = true) (h3 : (u == o) = false) {i1 i2 i3 i4 i5 j1 j2 j3 j4 j5 q q' a1 a2 a3 a4 a5 b1 b2 b3 b4 b5 : Bool} (hi : roIt l u o = ⟨i1, i2, i3, i4, i5⟩) (hj : roIt l o u = ⟨j1, j2, j3, j4, j5⟩) (hq : (l.any fun x => entIs x ⟨u, o, It.zero⟩) = q) (hq' : (l.any fun x => entIs x ⟨o, u, It.zero⟩) = q') (hk : (Lit.int .i64 k).wf = true) (hact : suAct ⟨i1, i2, i3, i4, i5⟩ ⟨j1, j2, j3, j4, j5⟩ k = (⟨a1, a2, a3, a4, a5⟩, ⟨b1, b2, b3, b4, b5⟩, 0)) (hf : q = true) (ga : suEmpty ⟨a1, a2, a3, a4, a5⟩ = true) (gb : suEmpty ⟨b1, b2, b3, b4, b5⟩ = true) :
    Calls Try.prog 38 #[v, .int .i64 k, .string ⟨u.toArray⟩, .string ⟨o.toArray⟩] w fun e w' => ∃ v', e = .returned (.tuple #[v', .int .i64 0]) ∧ Ents w' v' (dropO entIs (dropO entIs l ⟨u, o, ⟨a1, a2, a3, a4, a5⟩⟩) ⟨o, u, ⟨b1, b2, b3, b4, b5⟩⟩) ∧ Below w.heap.size w w' := by
  subst hf
  have GA := Lib.hid (sempty_eq a1 a2 a3 a4 a5 ga)
  have GB := Lib.hid (sempty_eq b1 b2 b3 b4 b5 gb)
  clear ga gb
  have HV := Lib.hid hv
  have HM := Lib.hid (romay_any hv hs (Lib.hid hm))
  have HR := Lib.hid (roMay_rise hm)
  have I1 := Lib.hid (is_eq u hu (Lib.hid h1))
  have I2 := Lib.hid (is_eq o ho (Lib.hid h2))
  have E1 := Lib.hid (entry_any u o)
  have E2 := Lib.hid (entry_any o u)
  have FI := Lib.hid hi
  have FJ := Lib.hid hj
  have FQ := Lib.hid hq
  have FQ' := Lib.hid hq'
  have HA := Lib.hid (sact_any i1 i2 i3 i4 i5 j1 j2 j3 j4 j5 k hk)
  rw [hact] at HA
  obtain ⟨a, cap, rfl, hmx⟩ := hv.open'
  clear hv hs hm h1 h2 hi hj hq hq' hk hact
  go_enter Try.func38, Try.ntmps38
  go_wp2_with fail
  refine HM.out.mono ?_
  rintro e w1 ⟨rfl, b1⟩
  have HB := Lib.hid b1
  clear b1
  go_wp2_with fail
  refine (I1.out _).mono ?_
  rintro e w2 ⟨rfl, b⟩
  replace HB := Lib.hid (below2S HB.out b)
  clear b
  go_wp2_with fail
  refine (I2.out _).mono ?_
  rintro e w3 ⟨rfl, b⟩
  replace HB := Lib.hid (below2S HB.out b)
  clear b
  go_wp2_with fail
  refine (E1.out _).mono ?_
  rintro e w4 ⟨rfl, b⟩
  replace HB := Lib.hid (below2S HB.out b)
  clear b
  go_wp2_with fail
  refine (rfind_eq (HV.out.later HB.out) HR.out u o FI FQ).mono ?_
  rintro e w5 ⟨rfl, b⟩
  have bb := bl_newZ w5 (.cells #[.string ⟨u.toArray⟩, .string ⟨o.toArray⟩, .bool i1, .bool i2, .bool i3, .bool i4, .bool i5] 78)
  have X10 := Lib.hid (heap_newR w5 (.cells #[.string ⟨u.toArray⟩, .string ⟨o.toArray⟩, .bool i1, .bool i2, .bool i3, .bool i4, .bool i5] 78) rfl)
  have HS5 := Lib.hid (below2S HB.out b).size
  replace HB := Lib.hid (below2S (below2S HB.out b) bb)
  clear b bb
  go_wp2_with fail
  generalize hW : w5.alloc (.cells #[.string ⟨u.toArray⟩, .string ⟨o.toArray⟩, .bool i1, .bool i2, .bool i3, .bool i4, .bool i5] 78) = w6 at HB X10 ⊢
  generalize hN : w5.heap.size = n5 at X10 HS5 ⊢
  clear hW hN
  refine (E2.out _).mono ?_
  rintro e w7 ⟨rfl, b⟩
  replace X10 := Lib.hid (heap_laterR X10.out b)
  replace HB := Lib.hid (below2S HB.out b)
  clear b
  go_wp2_with fail
  refine (rfind_eq (HV.out.later HB.out) HR.out o u FJ FQ').mono ?_
  rintro e w8 ⟨rfl, b⟩
  have bb := bl_newZ w8 (.cells #[.string ⟨o.toArray⟩, .string ⟨u.toArray⟩, .bool j1, .bool j2, .bool j3, .bool j4, .bool j5] 78)
  have X12 := Lib.hid (heap_newR w8 (.cells #[.string ⟨o.toArray⟩, .string ⟨u.toArray⟩, .bool j1, .bool j2, .bool j3, .bool j4, .bool j5] 78) rfl)
  have HS8 := Lib.hid (below2S HB.out b).size
  replace X10 := Lib.hid (heap_laterR X10.out b)
  have hne := Lib.hid (heap_ltR X10.out)
  replace X10 := Lib.hid (heap_laterR X10.out bb)
  replace HB := Lib.hid (below2S (below2S HB.out b) bb)
  clear b bb
  obtain ⟨c0, c1, c2, c3, c4, c5, c6⟩ := e7_cells X10.out
  obtain ⟨d0, d1, d2, d3, d4, d5, d6⟩ := e7_cells X12.out
  simp only [Nat.zero_add] at c0 c1 c2 c3 c4 c5 c6 d0 d1 d2 d3 d4 d5 d6
  go_wp2_with fail
  generalize hW : w8.alloc (.cells #[.string ⟨o.toArray⟩, .string ⟨u.toArray⟩, .bool j1, .bool j2, .bool j3, .bool j4, .bool j5] 78) = w9 at HB X10 X12 c0 c1 c2 c3 c4 c5 c6 d0 d1 d2 d3 d4 d5 d6 ⊢
  generalize hN : w8.heap.size = n8 at X12 HS8 hne d0 d1 d2 d3 d4 d5 d6 ⊢
  clear hW hN c0 c1 c2 c3 c4 c5 c6 d0 d1 d2 d3 d4 d5 d6
  refine (HA.out _).mono ?_
  rintro e w10 ⟨rfl, b⟩
  replace X10 := Lib.hid (heap_laterR X10.out b)
  replace X12 := Lib.hid (heap_laterR X12.out b)
  replace HB := Lib.hid (below2S HB.out b)
  clear b
  have hne1 : n5 ≠ n8 := by have := hne.out; omega
  have Y12 := e7_other X12.out hne1 a1 a2 a3 a4 a5
  have Y10 := e7_set X10.out a1 a2 a3 a4 a5
  have Z12 := Lib.hid (e7_set Y12 b1 b2 b3 b4 b5)
  have Z10 := Lib.hid (e7_other Y10 hne1.symm b1 b2 b3 b4 b5)
  have ZB := Lib.hid (setI_below (setI_below HB.out HS5.out a1 a2 a3 a4 a5) HS8.out b1 b2 b3 b4 b5)
  obtain ⟨c0, c1, c2, c3, c4, c5, c6⟩ := e7_cells X10.out
  obtain ⟨d0, d1, d2, d3, d4, d5, d6⟩ := e7_cells Y12
  simp only [Nat.zero_add] at c0 c1 c2 c3 c4 c5 c6 d0 d1 d2 d3 d4 d5 d6
  have f2 := e7_frozen X10.out 2
  have f3 := e7_frozen X10.out 3
  have f4 := e7_frozen X10.out 4
  have f5 := e7_frozen X10.out 5
  have f6 := e7_frozen X10.out 6
  have g2 := e7_frozen Y12 2
  have g3 := e7_frozen Y12 3
  have g4 := e7_frozen Y12 4
  have g5 := e7_frozen Y12 5
  have g6 := e7_frozen Y12 6
  unfold setI at d0 d1 d2 d3 d4 d5 d6 g2 g3 g4 g5 g6
  clear Y10 Y12
  unfold actE
  obtain ⟨e0, e1, e2, e3, e4, e5, e6⟩ := e7_cells Z10.out
  obtain ⟨p0, p1, p2, p3, p4, p5, p6⟩ := e7_cells Z12.out
  simp only [Nat.zero_add] at e0 e1 e2 e3 e4 e5 e6 p0 p1 p2 p3 p4 p5 p6
  unfold setI at e0 e1 e2 e3 e4 e5 e6 p0 p1 p2 p3 p4 p5 p6
  replace X10 := Z10
  replace X12 := Z12
  replace HB := ZB
  clear Z10 Z12 ZB
  go_wp2_with fail
  clear c0 c1 c2 c3 c4 c5 c6 d0 d1 d2 d3 d4 d5 d6 f2 f3 f4 f5 f6 g2 g3 g4 g5 g6 e0 e1 e2 e3 e4 e5 e6 p0 p1 p2 p3 p4 p5 p6 HA FI FJ FQ FQ' HM I1 I2 E1 E2
  refine (GA.out _).mono ?_
  rintro e w14 ⟨rfl, b⟩
  replace X10 := Lib.hid (heap_laterR X10.out b)
  replace X12 := Lib.hid (heap_laterR X12.out b)
  replace HB := Lib.hid (below2S HB.out b)
  clear b
  obtain ⟨e0, e1, e2, e3, e4, e5, e6⟩ := e7_cells X10.out
  obtain ⟨p0, p1, p2, p3, p4, p5, p6⟩ := e7_cells X12.out
  simp only [Nat.zero_add] at e0 e1 e2 e3 e4 e5 e6 p0 p1 p2 p3 p4 p5 p6
  go_wp2_with fail
  clear e0 e1 e2 e3 e4 e5 e6 p0 p1 p2 p3 p4 p5 p6
  refine (GB.out _).mono ?_
  rintro e w15 ⟨rfl, b⟩
  replace X10 := Lib.hid (heap_laterR X10.out b)
  replace X12 := Lib.hid (heap_laterR X12.out b)
  replace HB := Lib.hid (below2S HB.out b)
  clear b
  go_wp2_with fail
  have hS0 := two7 X10.out X12.out
  refine wp_region_held_drew (S := (fun W => ((W).cell? ⟨n5, 0, none⟩ = some (.string ⟨u.toArray⟩) ∧ (W).cell? ⟨n5, 1, none⟩ = some (.string ⟨o.toArray⟩) ∧ (W).cell? ⟨n5, 2, none⟩ = some (.bool a1) ∧ (W).cell? ⟨n5, 3, none⟩ = some (.bool a2) ∧ (W).cell? ⟨n5, 4, none⟩ = some (.bool a3) ∧ (W).cell? ⟨n5, 5, none⟩ = some (.bool a4) ∧ (W).cell? ⟨n5, 6, none⟩ = some (.bool a5) ∧ (W).cell? ⟨n8, 0, none⟩ = some (.string ⟨o.toArray⟩) ∧ (W).cell? ⟨n8, 1, none⟩ = some (.string ⟨u.toArray⟩) ∧ (W).cell? ⟨n8, 2, none⟩ = some (.bool b1) ∧ (W).cell? ⟨n8, 3, none⟩ = some (.bool b2) ∧ (W).cell? ⟨n8, 4, none⟩ = some (.bool b3) ∧ (W).cell? ⟨n8, 5, none⟩ = some (.bool b4) ∧ (W).cell? ⟨n8, 6, none⟩ = some (.bool b5)))) (by kernel_rfl) ?_ (fun hHeld => ?_)
  · exact two7 (heap_laterR X10.out (Below.refl _ _).drew) (heap_laterR X12.out (Below.refl _ _).drew)
  refine wpAnyH_take (i := 0) (oi := { dst := some 87, op := Op.move (Operand.tmp 0), type := 25, pos := "rost.go:51", after := #[], guard := none }) (v := ?_) rfl (by as_aux_lemma => kernel_rfl) (by as_aux_lemma => kernel_rfl) (by as_aux_lemma => kernel_rfl) (fun _ _ _ h => h) (Or.inl ⟨by rfl, ?_⟩) (by assumption) ?_
  rotate_left
  · intro w' hSw
    try dsimp only at hSw
    go_simp
    try with_reducible rfl
  try simp only [Act.put, List.setIfInBounds_toArray, List.set_cons_zero, List.set_cons_succ]
  refine wpAnyH_take (i := 1) (oi := { dst := some 88, op := Op.load 78 (Operand.tmp 10), type := 78, pos := "rost.go:51", after := #[], guard := none }) (v := ?_) rfl (by as_aux_lemma => kernel_rfl) (by as_aux_lemma => kernel_rfl) (by as_aux_lemma => kernel_rfl) (fun _ _ _ h => h) (Or.inl ⟨by rfl, ?_⟩) (by assumption) ?_
  rotate_left
  · intro w' hSw
    try dsimp only at hSw
    go_simp
    try with_reducible rfl
  try simp only [Act.put, List.setIfInBounds_toArray, List.set_cons_zero, List.set_cons_succ]
  refine wpAnyH_take (i := 3) (oi := { dst := some 90, op := Op.load 78 (Operand.tmp 12), type := 78, pos := "rost.go:51", after := #[], guard := none }) (v := ?_) rfl (by as_aux_lemma => kernel_rfl) (by as_aux_lemma => kernel_rfl) (by as_aux_lemma => kernel_rfl) (fun _ _ _ h => h) (Or.inl ⟨by rfl, ?_⟩) (by assumption) ?_
  rotate_left
  · intro w' hSw
    try dsimp only at hSw
    go_simp
    try with_reducible rfl
  try simp only [Act.put, List.setIfInBounds_toArray, List.set_cons_zero, List.set_cons_succ]
  refine wpAnyH_ready (rs := [2]) (by as_aux_lemma => kernel_rfl) (by simp) ?_
  refine AllReadyH.cons (o := { dst := some 89, op := Op.call { callee := Callee.value (Operand.func 67), args := #[Operand.tmp 87, Operand.tmp 88], argTypes := #[25, 78] }, type := 25, pos := "rost.go:51", after := #[{ on := 0, ground := Ground.data }, { on := 1, ground := Ground.data }], guard := none }) rfl (fun Kx hK => ?_) AllReadyH.nil
  go_simp
  refine (rwithout_any ((HV.out.later HB.out).later (Below.refl _ _).drew) (by omega) u o a1 a2 a3 a4 a5).mono ?_
  rintro e wA ⟨y, rfl, hy, bA⟩
  have bd := below2Z (Below.refl _ _).drew bA
  have HY := Lib.hid hy
  have YA := Lib.hid (hy.rd entOK).ents
  have X10A := Lib.hid (heap_laterR X10.out bd)
  have X12A := Lib.hid (heap_laterR X12.out bd)
  have HBA := Lib.hid (below2S HB.out bd)
  clear bd hy bA
  go_wp2_with fail
  refine hK.out _ _ ?_ (fun hHeld2 => ?_)
  · exact two7 X10A.out X12A.out
  clear hK Kx hHeld
  have hHeld := hHeld2
  clear hHeld2
  try simp only [Act.put, List.setIfInBounds_toArray, List.set_cons_zero, List.set_cons_succ]
  refine wpAnyH_ready (rs := [4]) (by as_aux_lemma => kernel_rfl) (by simp) ?_
  refine AllReadyH.cons (o := { dst := some 91, op := Op.call { callee := Callee.value (Operand.func 67), args := #[Operand.tmp 89, Operand.tmp 90], argTypes := #[25, 78] }, type := 25, pos := "rost.go:51", after := #[{ on := 2, ground := Ground.data }, { on := 3, ground := Ground.data }, { on := 2, ground := Ground.chain }], guard := none }) rfl (fun Kx hK => ?_) AllReadyH.nil
  go_simp
  refine (rwithout_any YA.out (by have := dropO_le l ⟨u, o, ⟨a1, a2, a3, a4, a5⟩⟩; omega) o u b1 b2 b3 b4 b5).mono ?_
  rintro e wB ⟨z, rfl, hz, bB⟩
  have ZE := Lib.hid (hz.rd entOK).ents
  have X10B := Lib.hid (heap_laterR X10A.out bB)
  have X12B := Lib.hid (heap_laterR X12A.out bB)
  have HBB := Lib.hid (below2S HBA.out bB)
  clear hz bB
  go_wp2_with fail
  refine hK.out _ _ ?_ (fun hHeld2 => ?_)
  · exact two7 X10B.out X12B.out
  clear hK Kx hHeld
  have hHeld := hHeld2
  clear hHeld2
  try simp only [Act.put, List.setIfInBounds_toArray, List.set_cons_zero, List.set_cons_succ]
  refine wpAnyH_take (i := 5) (oi := { dst := some 8, op := Op.assign (Operand.tmp 91), type := 25, pos := "rost.go:51", after := #[{ on := 4, ground := Ground.data }, { on := 4, ground := Ground.chain }, { on := 0, ground := Ground.phase }, { on := 1, ground := Ground.phase }, { on := 2, ground := Ground.phase }, { on := 3, ground := Ground.phase }, { on := 4, ground := Ground.phase }], guard := none }) (v := ?_) rfl (by as_aux_lemma => kernel_rfl) (by as_aux_lemma => kernel_rfl) (by as_aux_lemma => kernel_rfl) (fun _ _ _ h => h) (Or.inl ⟨by rfl, ?_⟩) (by assumption) ?_
  rotate_left
  · intro w' hSw
    try dsimp only at hSw
    go_simp
    try with_reducible rfl
  try simp only [Act.put, List.setIfInBounds_toArray, List.set_cons_zero, List.set_cons_succ]
  refine wpAnyH_take (i := 6) (oi := { dst := some 9, op := Op.assign (Operand.const (Value.int IntKind.i64 0)), type := 33, pos := "rost.go:51", after := #[{ on := 5, ground := Ground.chain }, { on := 0, ground := Ground.phase }, { on := 1, ground := Ground.phase }, { on := 2, ground := Ground.phase }, { on := 3, ground := Ground.phase }, { on := 4, ground := Ground.phase }, { on := 5, ground := Ground.phase }], guard := none }) (v := ?_) rfl (by as_aux_lemma => kernel_rfl) (by as_aux_lemma => kernel_rfl) (by as_aux_lemma => kernel_rfl) (fun _ _ _ h => h) (Or.inl ⟨by rfl, ?_⟩) (by assumption) ?_
  rotate_left
  · intro w' hSw
    try dsimp only at hSw
    go_simp
    try with_reducible rfl
  try simp only [Act.put, List.setIfInBounds_toArray, List.set_cons_zero, List.set_cons_succ]
  refine wpAnyH_done (by kernel_rfl) ?_ _
  go_wp2_with fail
  go_ret2
  exact ⟨_, rfl, ZE.out, HBB.out⟩

set_option maxHeartbeats 3200000 in
set_option maxRecDepth 100000 in
theorem rdoG2 {w : World} {v : Value} {l : List Ent} (hv : Ents w v l) (hs : ShortE l) (hl : l.length ≤ 900) (u o : List UInt8) (hu : u.length ≤ 4294967296) (ho : o.length ≤ 4294967296) (k : Int) (hm : roMayC l = true) (h1 : idIs u = true) (h2 : idIs o = true) (h3 : (u == o) = false) {i1 i2 i3 i4 i5 j1 j2 j3 j4 j5 q q' a1 a2 a3 a4 a5 b1 b2 b3 b4 b5 : Bool} (hi : roIt l u o = ⟨i1, i2, i3, i4, i5⟩) (hj : roIt l o u = ⟨j1, j2, j3, j4, j5⟩) (hq : (l.any fun x => entIs x ⟨u, o, It.zero⟩) = q) (hq' : (l.any fun x => entIs x ⟨o, u, It.zero⟩) = q') (hk : (Lit.int .i64 k).wf = true) (hact : suAct ⟨i1, i2, i3, i4, i5⟩ ⟨j1, j2, j3, j4, j5⟩ k = (⟨a1, a2, a3, a4, a5⟩, ⟨b1, b2, b3, b4, b5⟩, 0)) (hf : q = false) (gu : decide (16 ≤ (roOf l u).length) = false) (go : decide (16 ≤ (roOf l o).length) = false) (ga : suEmpty ⟨a1, a2, a3, a4, a5⟩ = true) (gb : suEmpty ⟨b1, b2, b3, b4, b5⟩ = true) :
    Calls Try.prog 38 #[v, .int .i64 k, .string ⟨u.toArray⟩, .string ⟨o.toArray⟩] w fun e w' => ∃ v', e = .returned (.tuple #[v', .int .i64 0]) ∧ Ents w' v' (dropO entIs (dropO entIs l ⟨u, o, ⟨a1, a2, a3, a4, a5⟩⟩) ⟨o, u, ⟨b1, b2, b3, b4, b5⟩⟩) ∧ Below w.heap.size w w' := by
  subst hf
  have GU := Lib.hid gu
  have GO := Lib.hid go
  clear gu go
  have GA := Lib.hid (sempty_eq a1 a2 a3 a4 a5 ga)
  have GB := Lib.hid (sempty_eq b1 b2 b3 b4 b5 gb)
  clear ga gb
  have HV := Lib.hid hv
  have HM := Lib.hid (romay_any hv hs (Lib.hid hm))
  have HR := Lib.hid (roMay_rise hm)
  have I1 := Lib.hid (is_eq u hu (Lib.hid h1))
  have I2 := Lib.hid (is_eq o ho (Lib.hid h2))
  have E1 := Lib.hid (entry_any u o)
  have E2 := Lib.hid (entry_any o u)
  have FI := Lib.hid hi
  have FJ := Lib.hid hj
  have FQ := Lib.hid hq
  have FQ' := Lib.hid hq'
  have HA := Lib.hid (sact_any i1 i2 i3 i4 i5 j1 j2 j3 j4 j5 k hk)
  rw [hact] at HA
  obtain ⟨a, cap, rfl, hmx⟩ := hv.open'
  clear hv hs hm h1 h2 hi hj hq hq' hk hact
  go_enter Try.func38, Try.ntmps38
  go_wp2_with fail
  refine HM.out.mono ?_
  rintro e w1 ⟨rfl, b1⟩
  have HB := Lib.hid b1
  clear b1
  go_wp2_with fail
  refine (I1.out _).mono ?_
  rintro e w2 ⟨rfl, b⟩
  replace HB := Lib.hid (below2S HB.out b)
  clear b
  go_wp2_with fail
  refine (I2.out _).mono ?_
  rintro e w3 ⟨rfl, b⟩
  replace HB := Lib.hid (below2S HB.out b)
  clear b
  go_wp2_with fail
  refine (E1.out _).mono ?_
  rintro e w4 ⟨rfl, b⟩
  replace HB := Lib.hid (below2S HB.out b)
  clear b
  go_wp2_with fail
  refine (rfind_eq (HV.out.later HB.out) HR.out u o FI FQ).mono ?_
  rintro e w5 ⟨rfl, b⟩
  have bb := bl_newZ w5 (.cells #[.string ⟨u.toArray⟩, .string ⟨o.toArray⟩, .bool i1, .bool i2, .bool i3, .bool i4, .bool i5] 78)
  have X10 := Lib.hid (heap_newR w5 (.cells #[.string ⟨u.toArray⟩, .string ⟨o.toArray⟩, .bool i1, .bool i2, .bool i3, .bool i4, .bool i5] 78) rfl)
  have HS5 := Lib.hid (below2S HB.out b).size
  replace HB := Lib.hid (below2S (below2S HB.out b) bb)
  clear b bb
  go_wp2_with fail
  generalize hW : w5.alloc (.cells #[.string ⟨u.toArray⟩, .string ⟨o.toArray⟩, .bool i1, .bool i2, .bool i3, .bool i4, .bool i5] 78) = w6 at HB X10 ⊢
  generalize hN : w5.heap.size = n5 at X10 HS5 ⊢
  clear hW hN
  refine (E2.out _).mono ?_
  rintro e w7 ⟨rfl, b⟩
  replace X10 := Lib.hid (heap_laterR X10.out b)
  replace HB := Lib.hid (below2S HB.out b)
  clear b
  go_wp2_with fail
  refine (rfind_eq (HV.out.later HB.out) HR.out o u FJ FQ').mono ?_
  rintro e w8 ⟨rfl, b⟩
  have bb := bl_newZ w8 (.cells #[.string ⟨o.toArray⟩, .string ⟨u.toArray⟩, .bool j1, .bool j2, .bool j3, .bool j4, .bool j5] 78)
  have X12 := Lib.hid (heap_newR w8 (.cells #[.string ⟨o.toArray⟩, .string ⟨u.toArray⟩, .bool j1, .bool j2, .bool j3, .bool j4, .bool j5] 78) rfl)
  have HS8 := Lib.hid (below2S HB.out b).size
  replace X10 := Lib.hid (heap_laterR X10.out b)
  have hne := Lib.hid (heap_ltR X10.out)
  replace X10 := Lib.hid (heap_laterR X10.out bb)
  replace HB := Lib.hid (below2S (below2S HB.out b) bb)
  clear b bb
  obtain ⟨c0, c1, c2, c3, c4, c5, c6⟩ := e7_cells X10.out
  obtain ⟨d0, d1, d2, d3, d4, d5, d6⟩ := e7_cells X12.out
  simp only [Nat.zero_add] at c0 c1 c2 c3 c4 c5 c6 d0 d1 d2 d3 d4 d5 d6
  go_wp2_with fail
  generalize hW : w8.alloc (.cells #[.string ⟨o.toArray⟩, .string ⟨u.toArray⟩, .bool j1, .bool j2, .bool j3, .bool j4, .bool j5] 78) = w9 at HB X10 X12 c0 c1 c2 c3 c4 c5 c6 d0 d1 d2 d3 d4 d5 d6 ⊢
  generalize hN : w8.heap.size = n8 at X12 HS8 hne d0 d1 d2 d3 d4 d5 d6 ⊢
  clear hW hN c0 c1 c2 c3 c4 c5 c6 d0 d1 d2 d3 d4 d5 d6
  refine (HA.out _).mono ?_
  rintro e w10 ⟨rfl, b⟩
  replace X10 := Lib.hid (heap_laterR X10.out b)
  replace X12 := Lib.hid (heap_laterR X12.out b)
  replace HB := Lib.hid (below2S HB.out b)
  clear b
  have hne1 : n5 ≠ n8 := by have := hne.out; omega
  have Y12 := e7_other X12.out hne1 a1 a2 a3 a4 a5
  have Y10 := e7_set X10.out a1 a2 a3 a4 a5
  have Z12 := Lib.hid (e7_set Y12 b1 b2 b3 b4 b5)
  have Z10 := Lib.hid (e7_other Y10 hne1.symm b1 b2 b3 b4 b5)
  have ZB := Lib.hid (setI_below (setI_below HB.out HS5.out a1 a2 a3 a4 a5) HS8.out b1 b2 b3 b4 b5)
  obtain ⟨c0, c1, c2, c3, c4, c5, c6⟩ := e7_cells X10.out
  obtain ⟨d0, d1, d2, d3, d4, d5, d6⟩ := e7_cells Y12
  simp only [Nat.zero_add] at c0 c1 c2 c3 c4 c5 c6 d0 d1 d2 d3 d4 d5 d6
  have f2 := e7_frozen X10.out 2
  have f3 := e7_frozen X10.out 3
  have f4 := e7_frozen X10.out 4
  have f5 := e7_frozen X10.out 5
  have f6 := e7_frozen X10.out 6
  have g2 := e7_frozen Y12 2
  have g3 := e7_frozen Y12 3
  have g4 := e7_frozen Y12 4
  have g5 := e7_frozen Y12 5
  have g6 := e7_frozen Y12 6
  unfold setI at d0 d1 d2 d3 d4 d5 d6 g2 g3 g4 g5 g6
  clear Y10 Y12
  unfold actE
  obtain ⟨e0, e1, e2, e3, e4, e5, e6⟩ := e7_cells Z10.out
  obtain ⟨p0, p1, p2, p3, p4, p5, p6⟩ := e7_cells Z12.out
  simp only [Nat.zero_add] at e0 e1 e2 e3 e4 e5 e6 p0 p1 p2 p3 p4 p5 p6
  unfold setI at e0 e1 e2 e3 e4 e5 e6 p0 p1 p2 p3 p4 p5 p6
  replace X10 := Z10
  replace X12 := Z12
  replace HB := ZB
  clear Z10 Z12 ZB
  go_wp2_with fail
  clear c0 c1 c2 c3 c4 c5 c6 d0 d1 d2 d3 d4 d5 d6 f2 f3 f4 f5 f6 g2 g3 g4 g5 g6 e0 e1 e2 e3 e4 e5 e6 p0 p1 p2 p3 p4 p5 p6 HA FI FJ FQ FQ' HM I1 I2 E1 E2
  refine (risFull_any (HV.out.later HB.out) (by omega) u GU).mono ?_
  rintro e w12 ⟨rfl, b⟩
  replace X10 := Lib.hid (heap_laterR X10.out b)
  replace X12 := Lib.hid (heap_laterR X12.out b)
  replace HB := Lib.hid (below2S HB.out b)
  clear b
  go_wp2_with fail
  refine (risFull_any (HV.out.later HB.out) (by omega) o GO).mono ?_
  rintro e w13 ⟨rfl, b⟩
  replace X10 := Lib.hid (heap_laterR X10.out b)
  replace X12 := Lib.hid (heap_laterR X12.out b)
  replace HB := Lib.hid (below2S HB.out b)
  clear b
  obtain ⟨e0, e1, e2, e3, e4, e5, e6⟩ := e7_cells X10.out
  obtain ⟨p0, p1, p2, p3, p4, p5, p6⟩ := e7_cells X12.out
  simp only [Nat.zero_add] at e0 e1 e2 e3 e4 e5 e6 p0 p1 p2 p3 p4 p5 p6
  go_wp2_with fail
  clear e0 e1 e2 e3 e4 e5 e6 p0 p1 p2 p3 p4 p5 p6
  refine (GA.out _).mono ?_
  rintro e w14 ⟨rfl, b⟩
  replace X10 := Lib.hid (heap_laterR X10.out b)
  replace X12 := Lib.hid (heap_laterR X12.out b)
  replace HB := Lib.hid (below2S HB.out b)
  clear b
  obtain ⟨e0, e1, e2, e3, e4, e5, e6⟩ := e7_cells X10.out
  obtain ⟨p0, p1, p2, p3, p4, p5, p6⟩ := e7_cells X12.out
  simp only [Nat.zero_add] at e0 e1 e2 e3 e4 e5 e6 p0 p1 p2 p3 p4 p5 p6
  go_wp2_with fail
  clear e0 e1 e2 e3 e4 e5 e6 p0 p1 p2 p3 p4 p5 p6
  refine (GB.out _).mono ?_
  rintro e w15 ⟨rfl, b⟩
  replace X10 := Lib.hid (heap_laterR X10.out b)
  replace X12 := Lib.hid (heap_laterR X12.out b)
  replace HB := Lib.hid (below2S HB.out b)
  clear b
  go_wp2_with fail
  have hS0 := two7 X10.out X12.out
  refine wp_region_held_drew (S := (fun W => ((W).cell? ⟨n5, 0, none⟩ = some (.string ⟨u.toArray⟩) ∧ (W).cell? ⟨n5, 1, none⟩ = some (.string ⟨o.toArray⟩) ∧ (W).cell? ⟨n5, 2, none⟩ = some (.bool a1) ∧ (W).cell? ⟨n5, 3, none⟩ = some (.bool a2) ∧ (W).cell? ⟨n5, 4, none⟩ = some (.bool a3) ∧ (W).cell? ⟨n5, 5, none⟩ = some (.bool a4) ∧ (W).cell? ⟨n5, 6, none⟩ = some (.bool a5) ∧ (W).cell? ⟨n8, 0, none⟩ = some (.string ⟨o.toArray⟩) ∧ (W).cell? ⟨n8, 1, none⟩ = some (.string ⟨u.toArray⟩) ∧ (W).cell? ⟨n8, 2, none⟩ = some (.bool b1) ∧ (W).cell? ⟨n8, 3, none⟩ = some (.bool b2) ∧ (W).cell? ⟨n8, 4, none⟩ = some (.bool b3) ∧ (W).cell? ⟨n8, 5, none⟩ = some (.bool b4) ∧ (W).cell? ⟨n8, 6, none⟩ = some (.bool b5)))) (by kernel_rfl) ?_ (fun hHeld => ?_)
  · exact two7 (heap_laterR X10.out (Below.refl _ _).drew) (heap_laterR X12.out (Below.refl _ _).drew)
  refine wpAnyH_take (i := 0) (oi := { dst := some 87, op := Op.move (Operand.tmp 0), type := 25, pos := "rost.go:51", after := #[], guard := none }) (v := ?_) rfl (by as_aux_lemma => kernel_rfl) (by as_aux_lemma => kernel_rfl) (by as_aux_lemma => kernel_rfl) (fun _ _ _ h => h) (Or.inl ⟨by rfl, ?_⟩) (by assumption) ?_
  rotate_left
  · intro w' hSw
    try dsimp only at hSw
    go_simp
    try with_reducible rfl
  try simp only [Act.put, List.setIfInBounds_toArray, List.set_cons_zero, List.set_cons_succ]
  refine wpAnyH_take (i := 1) (oi := { dst := some 88, op := Op.load 78 (Operand.tmp 10), type := 78, pos := "rost.go:51", after := #[], guard := none }) (v := ?_) rfl (by as_aux_lemma => kernel_rfl) (by as_aux_lemma => kernel_rfl) (by as_aux_lemma => kernel_rfl) (fun _ _ _ h => h) (Or.inl ⟨by rfl, ?_⟩) (by assumption) ?_
  rotate_left
  · intro w' hSw
    try dsimp only at hSw
    go_simp
    try with_reducible rfl
  try simp only [Act.put, List.setIfInBounds_toArray, List.set_cons_zero, List.set_cons_succ]
  refine wpAnyH_take (i := 3) (oi := { dst := some 90, op := Op.load 78 (Operand.tmp 12), type := 78, pos := "rost.go:51", after := #[], guard := none }) (v := ?_) rfl (by as_aux_lemma => kernel_rfl) (by as_aux_lemma => kernel_rfl) (by as_aux_lemma => kernel_rfl) (fun _ _ _ h => h) (Or.inl ⟨by rfl, ?_⟩) (by assumption) ?_
  rotate_left
  · intro w' hSw
    try dsimp only at hSw
    go_simp
    try with_reducible rfl
  try simp only [Act.put, List.setIfInBounds_toArray, List.set_cons_zero, List.set_cons_succ]
  refine wpAnyH_ready (rs := [2]) (by as_aux_lemma => kernel_rfl) (by simp) ?_
  refine AllReadyH.cons (o := { dst := some 89, op := Op.call { callee := Callee.value (Operand.func 67), args := #[Operand.tmp 87, Operand.tmp 88], argTypes := #[25, 78] }, type := 25, pos := "rost.go:51", after := #[{ on := 0, ground := Ground.data }, { on := 1, ground := Ground.data }], guard := none }) rfl (fun Kx hK => ?_) AllReadyH.nil
  go_simp
  refine (rwithout_any ((HV.out.later HB.out).later (Below.refl _ _).drew) (by omega) u o a1 a2 a3 a4 a5).mono ?_
  rintro e wA ⟨y, rfl, hy, bA⟩
  have bd := below2Z (Below.refl _ _).drew bA
  have HY := Lib.hid hy
  have YA := Lib.hid (hy.rd entOK).ents
  have X10A := Lib.hid (heap_laterR X10.out bd)
  have X12A := Lib.hid (heap_laterR X12.out bd)
  have HBA := Lib.hid (below2S HB.out bd)
  clear bd hy bA
  go_wp2_with fail
  refine hK.out _ _ ?_ (fun hHeld2 => ?_)
  · exact two7 X10A.out X12A.out
  clear hK Kx hHeld
  have hHeld := hHeld2
  clear hHeld2
  try simp only [Act.put, List.setIfInBounds_toArray, List.set_cons_zero, List.set_cons_succ]
  refine wpAnyH_ready (rs := [4]) (by as_aux_lemma => kernel_rfl) (by simp) ?_
  refine AllReadyH.cons (o := { dst := some 91, op := Op.call { callee := Callee.value (Operand.func 67), args := #[Operand.tmp 89, Operand.tmp 90], argTypes := #[25, 78] }, type := 25, pos := "rost.go:51", after := #[{ on := 2, ground := Ground.data }, { on := 3, ground := Ground.data }, { on := 2, ground := Ground.chain }], guard := none }) rfl (fun Kx hK => ?_) AllReadyH.nil
  go_simp
  refine (rwithout_any YA.out (by have := dropO_le l ⟨u, o, ⟨a1, a2, a3, a4, a5⟩⟩; omega) o u b1 b2 b3 b4 b5).mono ?_
  rintro e wB ⟨z, rfl, hz, bB⟩
  have ZE := Lib.hid (hz.rd entOK).ents
  have X10B := Lib.hid (heap_laterR X10A.out bB)
  have X12B := Lib.hid (heap_laterR X12A.out bB)
  have HBB := Lib.hid (below2S HBA.out bB)
  clear hz bB
  go_wp2_with fail
  refine hK.out _ _ ?_ (fun hHeld2 => ?_)
  · exact two7 X10B.out X12B.out
  clear hK Kx hHeld
  have hHeld := hHeld2
  clear hHeld2
  try simp only [Act.put, List.setIfInBounds_toArray, List.set_cons_zero, List.set_cons_succ]
  refine wpAnyH_take (i := 5) (oi := { dst := some 8, op := Op.assign (Operand.tmp 91), type := 25, pos := "rost.go:51", after := #[{ on := 4, ground := Ground.data }, { on := 4, ground := Ground.chain }, { on := 0, ground := Ground.phase }, { on := 1, ground := Ground.phase }, { on := 2, ground := Ground.phase }, { on := 3, ground := Ground.phase }, { on := 4, ground := Ground.phase }], guard := none }) (v := ?_) rfl (by as_aux_lemma => kernel_rfl) (by as_aux_lemma => kernel_rfl) (by as_aux_lemma => kernel_rfl) (fun _ _ _ h => h) (Or.inl ⟨by rfl, ?_⟩) (by assumption) ?_
  rotate_left
  · intro w' hSw
    try dsimp only at hSw
    go_simp
    try with_reducible rfl
  try simp only [Act.put, List.setIfInBounds_toArray, List.set_cons_zero, List.set_cons_succ]
  refine wpAnyH_take (i := 6) (oi := { dst := some 9, op := Op.assign (Operand.const (Value.int IntKind.i64 0)), type := 33, pos := "rost.go:51", after := #[{ on := 5, ground := Ground.chain }, { on := 0, ground := Ground.phase }, { on := 1, ground := Ground.phase }, { on := 2, ground := Ground.phase }, { on := 3, ground := Ground.phase }, { on := 4, ground := Ground.phase }, { on := 5, ground := Ground.phase }], guard := none }) (v := ?_) rfl (by as_aux_lemma => kernel_rfl) (by as_aux_lemma => kernel_rfl) (by as_aux_lemma => kernel_rfl) (fun _ _ _ h => h) (Or.inl ⟨by rfl, ?_⟩) (by assumption) ?_
  rotate_left
  · intro w' hSw
    try dsimp only at hSw
    go_simp
    try with_reducible rfl
  try simp only [Act.put, List.setIfInBounds_toArray, List.set_cons_zero, List.set_cons_succ]
  refine wpAnyH_done (by kernel_rfl) ?_ _
  go_wp2_with fail
  go_ret2
  exact ⟨_, rfl, ZE.out, HBB.out⟩

set_option maxHeartbeats 3200000 in
set_option maxRecDepth 100000 in
theorem rdoH1 {w : World} {v : Value} {l : List Ent} (hv : Ents w v l) (hs : ShortE l) (hl : l.length ≤ 900) (u o : List UInt8) (hu : u.length ≤ 4294967296) (ho : o.length ≤ 4294967296) (k : Int) (hm : roMayC l = true) (h1 : idIs u = true) (h2 : idIs o = true) (h3 : (u == o) = false) {i1 i2 i3 i4 i5 j1 j2 j3 j4 j5 q q' a1 a2 a3 a4 a5 b1 b2 b3 b4 b5 : Bool} (hi : roIt l u o = ⟨i1, i2, i3, i4, i5⟩) (hj : roIt l o u = ⟨j1, j2, j3, j4, j5⟩) (hq : (l.any fun x => entIs x ⟨u, o, It.zero⟩) = q) (hq' : (l.any fun x => entIs x ⟨o, u, It.zero⟩) = q') (hk : (Lit.int .i64 k).wf = true) (hact : suAct ⟨i1, i2, i3, i4, i5⟩ ⟨j1, j2, j3, j4, j5⟩ k = (⟨a1, a2, a3, a4, a5⟩, ⟨b1, b2, b3, b4, b5⟩, 0)) (hf : q = true) (ga : suEmpty ⟨a1, a2, a3, a4, a5⟩ = false) :
    Calls Try.prog 38 #[v, .int .i64 k, .string ⟨u.toArray⟩, .string ⟨o.toArray⟩] w fun e w' => ∃ v', e = .returned (.tuple #[v', .int .i64 0]) ∧ Ents w' v' (putO entLt entIs (putO entLt entIs l ⟨u, o, ⟨a1, a2, a3, a4, a5⟩⟩) ⟨o, u, ⟨b1, b2, b3, b4, b5⟩⟩) ∧ Below w.heap.size w w' := by
  subst hf
  have GA := Lib.hid (sempty_eq a1 a2 a3 a4 a5 ga)
  clear ga
  have HV := Lib.hid hv
  have HM := Lib.hid (romay_any hv hs (Lib.hid hm))
  have HR := Lib.hid (roMay_rise hm)
  have I1 := Lib.hid (is_eq u hu (Lib.hid h1))
  have I2 := Lib.hid (is_eq o ho (Lib.hid h2))
  have E1 := Lib.hid (entry_any u o)
  have E2 := Lib.hid (entry_any o u)
  have FI := Lib.hid hi
  have FJ := Lib.hid hj
  have FQ := Lib.hid hq
  have FQ' := Lib.hid hq'
  have HA := Lib.hid (sact_any i1 i2 i3 i4 i5 j1 j2 j3 j4 j5 k hk)
  rw [hact] at HA
  obtain ⟨a, cap, rfl, hmx⟩ := hv.open'
  clear hv hs hm h1 h2 hi hj hq hq' hk hact
  go_enter Try.func38, Try.ntmps38
  go_wp2_with fail
  refine HM.out.mono ?_
  rintro e w1 ⟨rfl, b1⟩
  have HB := Lib.hid b1
  clear b1
  go_wp2_with fail
  refine (I1.out _).mono ?_
  rintro e w2 ⟨rfl, b⟩
  replace HB := Lib.hid (below2S HB.out b)
  clear b
  go_wp2_with fail
  refine (I2.out _).mono ?_
  rintro e w3 ⟨rfl, b⟩
  replace HB := Lib.hid (below2S HB.out b)
  clear b
  go_wp2_with fail
  refine (E1.out _).mono ?_
  rintro e w4 ⟨rfl, b⟩
  replace HB := Lib.hid (below2S HB.out b)
  clear b
  go_wp2_with fail
  refine (rfind_eq (HV.out.later HB.out) HR.out u o FI FQ).mono ?_
  rintro e w5 ⟨rfl, b⟩
  have bb := bl_newZ w5 (.cells #[.string ⟨u.toArray⟩, .string ⟨o.toArray⟩, .bool i1, .bool i2, .bool i3, .bool i4, .bool i5] 78)
  have X10 := Lib.hid (heap_newR w5 (.cells #[.string ⟨u.toArray⟩, .string ⟨o.toArray⟩, .bool i1, .bool i2, .bool i3, .bool i4, .bool i5] 78) rfl)
  have HS5 := Lib.hid (below2S HB.out b).size
  replace HB := Lib.hid (below2S (below2S HB.out b) bb)
  clear b bb
  go_wp2_with fail
  generalize hW : w5.alloc (.cells #[.string ⟨u.toArray⟩, .string ⟨o.toArray⟩, .bool i1, .bool i2, .bool i3, .bool i4, .bool i5] 78) = w6 at HB X10 ⊢
  generalize hN : w5.heap.size = n5 at X10 HS5 ⊢
  clear hW hN
  refine (E2.out _).mono ?_
  rintro e w7 ⟨rfl, b⟩
  replace X10 := Lib.hid (heap_laterR X10.out b)
  replace HB := Lib.hid (below2S HB.out b)
  clear b
  go_wp2_with fail
  refine (rfind_eq (HV.out.later HB.out) HR.out o u FJ FQ').mono ?_
  rintro e w8 ⟨rfl, b⟩
  have bb := bl_newZ w8 (.cells #[.string ⟨o.toArray⟩, .string ⟨u.toArray⟩, .bool j1, .bool j2, .bool j3, .bool j4, .bool j5] 78)
  have X12 := Lib.hid (heap_newR w8 (.cells #[.string ⟨o.toArray⟩, .string ⟨u.toArray⟩, .bool j1, .bool j2, .bool j3, .bool j4, .bool j5] 78) rfl)
  have HS8 := Lib.hid (below2S HB.out b).size
  replace X10 := Lib.hid (heap_laterR X10.out b)
  have hne := Lib.hid (heap_ltR X10.out)
  replace X10 := Lib.hid (heap_laterR X10.out bb)
  replace HB := Lib.hid (below2S (below2S HB.out b) bb)
  clear b bb
  obtain ⟨c0, c1, c2, c3, c4, c5, c6⟩ := e7_cells X10.out
  obtain ⟨d0, d1, d2, d3, d4, d5, d6⟩ := e7_cells X12.out
  simp only [Nat.zero_add] at c0 c1 c2 c3 c4 c5 c6 d0 d1 d2 d3 d4 d5 d6
  go_wp2_with fail
  generalize hW : w8.alloc (.cells #[.string ⟨o.toArray⟩, .string ⟨u.toArray⟩, .bool j1, .bool j2, .bool j3, .bool j4, .bool j5] 78) = w9 at HB X10 X12 c0 c1 c2 c3 c4 c5 c6 d0 d1 d2 d3 d4 d5 d6 ⊢
  generalize hN : w8.heap.size = n8 at X12 HS8 hne d0 d1 d2 d3 d4 d5 d6 ⊢
  clear hW hN c0 c1 c2 c3 c4 c5 c6 d0 d1 d2 d3 d4 d5 d6
  refine (HA.out _).mono ?_
  rintro e w10 ⟨rfl, b⟩
  replace X10 := Lib.hid (heap_laterR X10.out b)
  replace X12 := Lib.hid (heap_laterR X12.out b)
  replace HB := Lib.hid (below2S HB.out b)
  clear b
  have hne1 : n5 ≠ n8 := by have := hne.out; omega
  have Y12 := e7_other X12.out hne1 a1 a2 a3 a4 a5
  have Y10 := e7_set X10.out a1 a2 a3 a4 a5
  have Z12 := Lib.hid (e7_set Y12 b1 b2 b3 b4 b5)
  have Z10 := Lib.hid (e7_other Y10 hne1.symm b1 b2 b3 b4 b5)
  have ZB := Lib.hid (setI_below (setI_below HB.out HS5.out a1 a2 a3 a4 a5) HS8.out b1 b2 b3 b4 b5)
  obtain ⟨c0, c1, c2, c3, c4, c5, c6⟩ := e7_cells X10.out
  obtain ⟨d0, d1, d2, d3, d4, d5, d6⟩ := e7_cells Y12
  simp only [Nat.zero_add] at c0 c1 c2 c3 c4 c5 c6 d0 d1 d2 d3 d4 d5 d6
  have f2 := e7_frozen X10.out 2
  have f3 := e7_frozen X10.out 3
  have f4 := e7_frozen X10.out 4
  have f5 := e7_frozen X10.out 5
  have f6 := e7_frozen X10.out 6
  have g2 := e7_frozen Y12 2
  have g3 := e7_frozen Y12 3
  have g4 := e7_frozen Y12 4
  have g5 := e7_frozen Y12 5
  have g6 := e7_frozen Y12 6
  unfold setI at d0 d1 d2 d3 d4 d5 d6 g2 g3 g4 g5 g6
  clear Y10 Y12
  unfold actE
  obtain ⟨e0, e1, e2, e3, e4, e5, e6⟩ := e7_cells Z10.out
  obtain ⟨p0, p1, p2, p3, p4, p5, p6⟩ := e7_cells Z12.out
  simp only [Nat.zero_add] at e0 e1 e2 e3 e4 e5 e6 p0 p1 p2 p3 p4 p5 p6
  unfold setI at e0 e1 e2 e3 e4 e5 e6 p0 p1 p2 p3 p4 p5 p6
  replace X10 := Z10
  replace X12 := Z12
  replace HB := ZB
  clear Z10 Z12 ZB
  go_wp2_with fail
  clear c0 c1 c2 c3 c4 c5 c6 d0 d1 d2 d3 d4 d5 d6 f2 f3 f4 f5 f6 g2 g3 g4 g5 g6 e0 e1 e2 e3 e4 e5 e6 p0 p1 p2 p3 p4 p5 p6 HA FI FJ FQ FQ' HM I1 I2 E1 E2
  refine (GA.out _).mono ?_
  rintro e w14 ⟨rfl, b⟩
  replace X10 := Lib.hid (heap_laterR X10.out b)
  replace X12 := Lib.hid (heap_laterR X12.out b)
  replace HB := Lib.hid (below2S HB.out b)
  clear b
  obtain ⟨e0, e1, e2, e3, e4, e5, e6⟩ := e7_cells X10.out
  obtain ⟨p0, p1, p2, p3, p4, p5, p6⟩ := e7_cells X12.out
  simp only [Nat.zero_add] at e0 e1 e2 e3 e4 e5 e6 p0 p1 p2 p3 p4 p5 p6
  go_wp2_with fail
  clear e0 e1 e2 e3 e4 e5 e6 p0 p1 p2 p3 p4 p5 p6
  have hS0 := two7 X10.out X12.out
  refine wp_region_held_drew (S := (fun W => ((W).cell? ⟨n5, 0, none⟩ = some (.string ⟨u.toArray⟩) ∧ (W).cell? ⟨n5, 1, none⟩ = some (.string ⟨o.toArray⟩) ∧ (W).cell? ⟨n5, 2, none⟩ = some (.bool a1) ∧ (W).cell? ⟨n5, 3, none⟩ = some (.bool a2) ∧ (W).cell? ⟨n5, 4, none⟩ = some (.bool a3) ∧ (W).cell? ⟨n5, 5, none⟩ = some (.bool a4) ∧ (W).cell? ⟨n5, 6, none⟩ = some (.bool a5) ∧ (W).cell? ⟨n8, 0, none⟩ = some (.string ⟨o.toArray⟩) ∧ (W).cell? ⟨n8, 1, none⟩ = some (.string ⟨u.toArray⟩) ∧ (W).cell? ⟨n8, 2, none⟩ = some (.bool b1) ∧ (W).cell? ⟨n8, 3, none⟩ = some (.bool b2) ∧ (W).cell? ⟨n8, 4, none⟩ = some (.bool b3) ∧ (W).cell? ⟨n8, 5, none⟩ = some (.bool b4) ∧ (W).cell? ⟨n8, 6, none⟩ = some (.bool b5)))) (by kernel_rfl) ?_ (fun hHeld => ?_)
  · exact two7 (heap_laterR X10.out (Below.refl _ _).drew) (heap_laterR X12.out (Below.refl _ _).drew)
  refine wpAnyH_take (i := 0) (oi := { dst := some 92, op := Op.move (Operand.tmp 0), type := 25, pos := "rost.go:53", after := #[], guard := none }) (v := ?_) rfl (by as_aux_lemma => kernel_rfl) (by as_aux_lemma => kernel_rfl) (by as_aux_lemma => kernel_rfl) (fun _ _ _ h => h) (Or.inl ⟨by rfl, ?_⟩) (by assumption) ?_
  rotate_left
  · intro w' hSw
    try dsimp only at hSw
    go_simp
    try with_reducible rfl
  try simp only [Act.put, List.setIfInBounds_toArray, List.set_cons_zero, List.set_cons_succ]
  refine wpAnyH_take (i := 1) (oi := { dst := some 93, op := Op.load 78 (Operand.tmp 10), type := 78, pos := "rost.go:53", after := #[], guard := none }) (v := ?_) rfl (by as_aux_lemma => kernel_rfl) (by as_aux_lemma => kernel_rfl) (by as_aux_lemma => kernel_rfl) (fun _ _ _ h => h) (Or.inl ⟨by rfl, ?_⟩) (by assumption) ?_
  rotate_left
  · intro w' hSw
    try dsimp only at hSw
    go_simp
    try with_reducible rfl
  try simp only [Act.put, List.setIfInBounds_toArray, List.set_cons_zero, List.set_cons_succ]
  refine wpAnyH_take (i := 3) (oi := { dst := some 95, op := Op.load 78 (Operand.tmp 12), type := 78, pos := "rost.go:53", after := #[], guard := none }) (v := ?_) rfl (by as_aux_lemma => kernel_rfl) (by as_aux_lemma => kernel_rfl) (by as_aux_lemma => kernel_rfl) (fun _ _ _ h => h) (Or.inl ⟨by rfl, ?_⟩) (by assumption) ?_
  rotate_left
  · intro w' hSw
    try dsimp only at hSw
    go_simp
    try with_reducible rfl
  try simp only [Act.put, List.setIfInBounds_toArray, List.set_cons_zero, List.set_cons_succ]
  refine wpAnyH_ready (rs := [2]) (by as_aux_lemma => kernel_rfl) (by simp) ?_
  refine AllReadyH.cons (o := { dst := some 94, op := Op.call { callee := Callee.value (Operand.func 68), args := #[Operand.tmp 92, Operand.tmp 93], argTypes := #[25, 78] }, type := 25, pos := "rost.go:53", after := #[{ on := 0, ground := Ground.data }, { on := 1, ground := Ground.data }], guard := none }) rfl (fun Kx hK => ?_) AllReadyH.nil
  go_simp
  refine (rwith_any ((HV.out.later HB.out).later (Below.refl _ _).drew) HR.out (by omega) u o a1 a2 a3 a4 a5).mono ?_
  rintro e wA ⟨y, rfl, hy, bA⟩
  have bd := below2Z (Below.refl _ _).drew bA
  have HY := Lib.hid hy
  have YA := Lib.hid (hy.rd entOK).ents
  have X10A := Lib.hid (heap_laterR X10.out bd)
  have X12A := Lib.hid (heap_laterR X12.out bd)
  have HBA := Lib.hid (below2S HB.out bd)
  clear bd hy bA
  go_wp2_with fail
  refine hK.out _ _ ?_ (fun hHeld2 => ?_)
  · exact two7 X10A.out X12A.out
  clear hK Kx hHeld
  have hHeld := hHeld2
  clear hHeld2
  try simp only [Act.put, List.setIfInBounds_toArray, List.set_cons_zero, List.set_cons_succ]
  refine wpAnyH_ready (rs := [4]) (by as_aux_lemma => kernel_rfl) (by simp) ?_
  refine AllReadyH.cons (o := { dst := some 96, op := Op.call { callee := Callee.value (Operand.func 68), args := #[Operand.tmp 94, Operand.tmp 95], argTypes := #[25, 78] }, type := 25, pos := "rost.go:53", after := #[{ on := 2, ground := Ground.data }, { on := 3, ground := Ground.data }, { on := 2, ground := Ground.chain }], guard := none }) rfl (fun Kx hK => ?_) AllReadyH.nil
  go_simp
  refine (rwith_any YA.out (rise_putO entOrd HR.out ⟨u, o, ⟨a1, a2, a3, a4, a5⟩⟩) (by have := putO_le l ⟨u, o, ⟨a1, a2, a3, a4, a5⟩⟩; omega) o u b1 b2 b3 b4 b5).mono ?_
  rintro e wB ⟨z, rfl, hz, bB⟩
  have ZE := Lib.hid (hz.rd entOK).ents
  have X10B := Lib.hid (heap_laterR X10A.out bB)
  have X12B := Lib.hid (heap_laterR X12A.out bB)
  have HBB := Lib.hid (below2S HBA.out bB)
  clear hz bB
  go_wp2_with fail
  refine hK.out _ _ ?_ (fun hHeld2 => ?_)
  · exact two7 X10B.out X12B.out
  clear hK Kx hHeld
  have hHeld := hHeld2
  clear hHeld2
  try simp only [Act.put, List.setIfInBounds_toArray, List.set_cons_zero, List.set_cons_succ]
  refine wpAnyH_take (i := 5) (oi := { dst := some 8, op := Op.assign (Operand.tmp 96), type := 25, pos := "rost.go:53", after := #[{ on := 4, ground := Ground.data }, { on := 4, ground := Ground.chain }, { on := 0, ground := Ground.phase }, { on := 1, ground := Ground.phase }, { on := 2, ground := Ground.phase }, { on := 3, ground := Ground.phase }, { on := 4, ground := Ground.phase }], guard := none }) (v := ?_) rfl (by as_aux_lemma => kernel_rfl) (by as_aux_lemma => kernel_rfl) (by as_aux_lemma => kernel_rfl) (fun _ _ _ h => h) (Or.inl ⟨by rfl, ?_⟩) (by assumption) ?_
  rotate_left
  · intro w' hSw
    try dsimp only at hSw
    go_simp
    try with_reducible rfl
  try simp only [Act.put, List.setIfInBounds_toArray, List.set_cons_zero, List.set_cons_succ]
  refine wpAnyH_take (i := 6) (oi := { dst := some 9, op := Op.assign (Operand.const (Value.int IntKind.i64 0)), type := 33, pos := "rost.go:53", after := #[{ on := 5, ground := Ground.chain }, { on := 0, ground := Ground.phase }, { on := 1, ground := Ground.phase }, { on := 2, ground := Ground.phase }, { on := 3, ground := Ground.phase }, { on := 4, ground := Ground.phase }, { on := 5, ground := Ground.phase }], guard := none }) (v := ?_) rfl (by as_aux_lemma => kernel_rfl) (by as_aux_lemma => kernel_rfl) (by as_aux_lemma => kernel_rfl) (fun _ _ _ h => h) (Or.inl ⟨by rfl, ?_⟩) (by assumption) ?_
  rotate_left
  · intro w' hSw
    try dsimp only at hSw
    go_simp
    try with_reducible rfl
  try simp only [Act.put, List.setIfInBounds_toArray, List.set_cons_zero, List.set_cons_succ]
  refine wpAnyH_done (by kernel_rfl) ?_ _
  go_wp2_with fail
  go_ret2
  exact ⟨_, rfl, ZE.out, HBB.out⟩

set_option maxHeartbeats 3200000 in
set_option maxRecDepth 100000 in
theorem rdoH2 {w : World} {v : Value} {l : List Ent} (hv : Ents w v l) (hs : ShortE l) (hl : l.length ≤ 900) (u o : List UInt8) (hu : u.length ≤ 4294967296) (ho : o.length ≤ 4294967296) (k : Int) (hm : roMayC l = true) (h1 : idIs u = true) (h2 : idIs o = true) (h3 : (u == o) = false) {i1 i2 i3 i4 i5 j1 j2 j3 j4 j5 q q' a1 a2 a3 a4 a5 b1 b2 b3 b4 b5 : Bool} (hi : roIt l u o = ⟨i1, i2, i3, i4, i5⟩) (hj : roIt l o u = ⟨j1, j2, j3, j4, j5⟩) (hq : (l.any fun x => entIs x ⟨u, o, It.zero⟩) = q) (hq' : (l.any fun x => entIs x ⟨o, u, It.zero⟩) = q') (hk : (Lit.int .i64 k).wf = true) (hact : suAct ⟨i1, i2, i3, i4, i5⟩ ⟨j1, j2, j3, j4, j5⟩ k = (⟨a1, a2, a3, a4, a5⟩, ⟨b1, b2, b3, b4, b5⟩, 0)) (hf : q = true) (ga : suEmpty ⟨a1, a2, a3, a4, a5⟩ = true) (gb : suEmpty ⟨b1, b2, b3, b4, b5⟩ = false) :
    Calls Try.prog 38 #[v, .int .i64 k, .string ⟨u.toArray⟩, .string ⟨o.toArray⟩] w fun e w' => ∃ v', e = .returned (.tuple #[v', .int .i64 0]) ∧ Ents w' v' (putO entLt entIs (putO entLt entIs l ⟨u, o, ⟨a1, a2, a3, a4, a5⟩⟩) ⟨o, u, ⟨b1, b2, b3, b4, b5⟩⟩) ∧ Below w.heap.size w w' := by
  subst hf
  have GA := Lib.hid (sempty_eq a1 a2 a3 a4 a5 ga)
  have GB := Lib.hid (sempty_eq b1 b2 b3 b4 b5 gb)
  clear ga gb
  have HV := Lib.hid hv
  have HM := Lib.hid (romay_any hv hs (Lib.hid hm))
  have HR := Lib.hid (roMay_rise hm)
  have I1 := Lib.hid (is_eq u hu (Lib.hid h1))
  have I2 := Lib.hid (is_eq o ho (Lib.hid h2))
  have E1 := Lib.hid (entry_any u o)
  have E2 := Lib.hid (entry_any o u)
  have FI := Lib.hid hi
  have FJ := Lib.hid hj
  have FQ := Lib.hid hq
  have FQ' := Lib.hid hq'
  have HA := Lib.hid (sact_any i1 i2 i3 i4 i5 j1 j2 j3 j4 j5 k hk)
  rw [hact] at HA
  obtain ⟨a, cap, rfl, hmx⟩ := hv.open'
  clear hv hs hm h1 h2 hi hj hq hq' hk hact
  go_enter Try.func38, Try.ntmps38
  go_wp2_with fail
  refine HM.out.mono ?_
  rintro e w1 ⟨rfl, b1⟩
  have HB := Lib.hid b1
  clear b1
  go_wp2_with fail
  refine (I1.out _).mono ?_
  rintro e w2 ⟨rfl, b⟩
  replace HB := Lib.hid (below2S HB.out b)
  clear b
  go_wp2_with fail
  refine (I2.out _).mono ?_
  rintro e w3 ⟨rfl, b⟩
  replace HB := Lib.hid (below2S HB.out b)
  clear b
  go_wp2_with fail
  refine (E1.out _).mono ?_
  rintro e w4 ⟨rfl, b⟩
  replace HB := Lib.hid (below2S HB.out b)
  clear b
  go_wp2_with fail
  refine (rfind_eq (HV.out.later HB.out) HR.out u o FI FQ).mono ?_
  rintro e w5 ⟨rfl, b⟩
  have bb := bl_newZ w5 (.cells #[.string ⟨u.toArray⟩, .string ⟨o.toArray⟩, .bool i1, .bool i2, .bool i3, .bool i4, .bool i5] 78)
  have X10 := Lib.hid (heap_newR w5 (.cells #[.string ⟨u.toArray⟩, .string ⟨o.toArray⟩, .bool i1, .bool i2, .bool i3, .bool i4, .bool i5] 78) rfl)
  have HS5 := Lib.hid (below2S HB.out b).size
  replace HB := Lib.hid (below2S (below2S HB.out b) bb)
  clear b bb
  go_wp2_with fail
  generalize hW : w5.alloc (.cells #[.string ⟨u.toArray⟩, .string ⟨o.toArray⟩, .bool i1, .bool i2, .bool i3, .bool i4, .bool i5] 78) = w6 at HB X10 ⊢
  generalize hN : w5.heap.size = n5 at X10 HS5 ⊢
  clear hW hN
  refine (E2.out _).mono ?_
  rintro e w7 ⟨rfl, b⟩
  replace X10 := Lib.hid (heap_laterR X10.out b)
  replace HB := Lib.hid (below2S HB.out b)
  clear b
  go_wp2_with fail
  refine (rfind_eq (HV.out.later HB.out) HR.out o u FJ FQ').mono ?_
  rintro e w8 ⟨rfl, b⟩
  have bb := bl_newZ w8 (.cells #[.string ⟨o.toArray⟩, .string ⟨u.toArray⟩, .bool j1, .bool j2, .bool j3, .bool j4, .bool j5] 78)
  have X12 := Lib.hid (heap_newR w8 (.cells #[.string ⟨o.toArray⟩, .string ⟨u.toArray⟩, .bool j1, .bool j2, .bool j3, .bool j4, .bool j5] 78) rfl)
  have HS8 := Lib.hid (below2S HB.out b).size
  replace X10 := Lib.hid (heap_laterR X10.out b)
  have hne := Lib.hid (heap_ltR X10.out)
  replace X10 := Lib.hid (heap_laterR X10.out bb)
  replace HB := Lib.hid (below2S (below2S HB.out b) bb)
  clear b bb
  obtain ⟨c0, c1, c2, c3, c4, c5, c6⟩ := e7_cells X10.out
  obtain ⟨d0, d1, d2, d3, d4, d5, d6⟩ := e7_cells X12.out
  simp only [Nat.zero_add] at c0 c1 c2 c3 c4 c5 c6 d0 d1 d2 d3 d4 d5 d6
  go_wp2_with fail
  generalize hW : w8.alloc (.cells #[.string ⟨o.toArray⟩, .string ⟨u.toArray⟩, .bool j1, .bool j2, .bool j3, .bool j4, .bool j5] 78) = w9 at HB X10 X12 c0 c1 c2 c3 c4 c5 c6 d0 d1 d2 d3 d4 d5 d6 ⊢
  generalize hN : w8.heap.size = n8 at X12 HS8 hne d0 d1 d2 d3 d4 d5 d6 ⊢
  clear hW hN c0 c1 c2 c3 c4 c5 c6 d0 d1 d2 d3 d4 d5 d6
  refine (HA.out _).mono ?_
  rintro e w10 ⟨rfl, b⟩
  replace X10 := Lib.hid (heap_laterR X10.out b)
  replace X12 := Lib.hid (heap_laterR X12.out b)
  replace HB := Lib.hid (below2S HB.out b)
  clear b
  have hne1 : n5 ≠ n8 := by have := hne.out; omega
  have Y12 := e7_other X12.out hne1 a1 a2 a3 a4 a5
  have Y10 := e7_set X10.out a1 a2 a3 a4 a5
  have Z12 := Lib.hid (e7_set Y12 b1 b2 b3 b4 b5)
  have Z10 := Lib.hid (e7_other Y10 hne1.symm b1 b2 b3 b4 b5)
  have ZB := Lib.hid (setI_below (setI_below HB.out HS5.out a1 a2 a3 a4 a5) HS8.out b1 b2 b3 b4 b5)
  obtain ⟨c0, c1, c2, c3, c4, c5, c6⟩ := e7_cells X10.out
  obtain ⟨d0, d1, d2, d3, d4, d5, d6⟩ := e7_cells Y12
  simp only [Nat.zero_add] at c0 c1 c2 c3 c4 c5 c6 d0 d1 d2 d3 d4 d5 d6
  have f2 := e7_frozen X10.out 2
  have f3 := e7_frozen X10.out 3
  have f4 := e7_frozen X10.out 4
  have f5 := e7_frozen X10.out 5
  have f6 := e7_frozen X10.out 6
  have g2 := e7_frozen Y12 2
  have g3 := e7_frozen Y12 3
  have g4 := e7_frozen Y12 4
  have g5 := e7_frozen Y12 5
  have g6 := e7_frozen Y12 6
  unfold setI at d0 d1 d2 d3 d4 d5 d6 g2 g3 g4 g5 g6
  clear Y10 Y12
  unfold actE
  obtain ⟨e0, e1, e2, e3, e4, e5, e6⟩ := e7_cells Z10.out
  obtain ⟨p0, p1, p2, p3, p4, p5, p6⟩ := e7_cells Z12.out
  simp only [Nat.zero_add] at e0 e1 e2 e3 e4 e5 e6 p0 p1 p2 p3 p4 p5 p6
  unfold setI at e0 e1 e2 e3 e4 e5 e6 p0 p1 p2 p3 p4 p5 p6
  replace X10 := Z10
  replace X12 := Z12
  replace HB := ZB
  clear Z10 Z12 ZB
  go_wp2_with fail
  clear c0 c1 c2 c3 c4 c5 c6 d0 d1 d2 d3 d4 d5 d6 f2 f3 f4 f5 f6 g2 g3 g4 g5 g6 e0 e1 e2 e3 e4 e5 e6 p0 p1 p2 p3 p4 p5 p6 HA FI FJ FQ FQ' HM I1 I2 E1 E2
  refine (GA.out _).mono ?_
  rintro e w14 ⟨rfl, b⟩
  replace X10 := Lib.hid (heap_laterR X10.out b)
  replace X12 := Lib.hid (heap_laterR X12.out b)
  replace HB := Lib.hid (below2S HB.out b)
  clear b
  obtain ⟨e0, e1, e2, e3, e4, e5, e6⟩ := e7_cells X10.out
  obtain ⟨p0, p1, p2, p3, p4, p5, p6⟩ := e7_cells X12.out
  simp only [Nat.zero_add] at e0 e1 e2 e3 e4 e5 e6 p0 p1 p2 p3 p4 p5 p6
  go_wp2_with fail
  clear e0 e1 e2 e3 e4 e5 e6 p0 p1 p2 p3 p4 p5 p6
  refine (GB.out _).mono ?_
  rintro e w15 ⟨rfl, b⟩
  replace X10 := Lib.hid (heap_laterR X10.out b)
  replace X12 := Lib.hid (heap_laterR X12.out b)
  replace HB := Lib.hid (below2S HB.out b)
  clear b
  go_wp2_with fail
  have hS0 := two7 X10.out X12.out
  refine wp_region_held_drew (S := (fun W => ((W).cell? ⟨n5, 0, none⟩ = some (.string ⟨u.toArray⟩) ∧ (W).cell? ⟨n5, 1, none⟩ = some (.string ⟨o.toArray⟩) ∧ (W).cell? ⟨n5, 2, none⟩ = some (.bool a1) ∧ (W).cell? ⟨n5, 3, none⟩ = some (.bool a2) ∧ (W).cell? ⟨n5, 4, none⟩ = some (.bool a3) ∧ (W).cell? ⟨n5, 5, none⟩ = some (.bool a4) ∧ (W).cell? ⟨n5, 6, none⟩ = some (.bool a5) ∧ (W).cell? ⟨n8, 0, none⟩ = some (.string ⟨o.toArray⟩) ∧ (W).cell? ⟨n8, 1, none⟩ = some (.string ⟨u.toArray⟩) ∧ (W).cell? ⟨n8, 2, none⟩ = some (.bool b1) ∧ (W).cell? ⟨n8, 3, none⟩ = some (.bool b2) ∧ (W).cell? ⟨n8, 4, none⟩ = some (.bool b3) ∧ (W).cell? ⟨n8, 5, none⟩ = some (.bool b4) ∧ (W).cell? ⟨n8, 6, none⟩ = some (.bool b5)))) (by kernel_rfl) ?_ (fun hHeld => ?_)
  · exact two7 (heap_laterR X10.out (Below.refl _ _).drew) (heap_laterR X12.out (Below.refl _ _).drew)
  refine wpAnyH_take (i := 0) (oi := { dst := some 92, op := Op.move (Operand.tmp 0), type := 25, pos := "rost.go:53", after := #[], guard := none }) (v := ?_) rfl (by as_aux_lemma => kernel_rfl) (by as_aux_lemma => kernel_rfl) (by as_aux_lemma => kernel_rfl) (fun _ _ _ h => h) (Or.inl ⟨by rfl, ?_⟩) (by assumption) ?_
  rotate_left
  · intro w' hSw
    try dsimp only at hSw
    go_simp
    try with_reducible rfl
  try simp only [Act.put, List.setIfInBounds_toArray, List.set_cons_zero, List.set_cons_succ]
  refine wpAnyH_take (i := 1) (oi := { dst := some 93, op := Op.load 78 (Operand.tmp 10), type := 78, pos := "rost.go:53", after := #[], guard := none }) (v := ?_) rfl (by as_aux_lemma => kernel_rfl) (by as_aux_lemma => kernel_rfl) (by as_aux_lemma => kernel_rfl) (fun _ _ _ h => h) (Or.inl ⟨by rfl, ?_⟩) (by assumption) ?_
  rotate_left
  · intro w' hSw
    try dsimp only at hSw
    go_simp
    try with_reducible rfl
  try simp only [Act.put, List.setIfInBounds_toArray, List.set_cons_zero, List.set_cons_succ]
  refine wpAnyH_take (i := 3) (oi := { dst := some 95, op := Op.load 78 (Operand.tmp 12), type := 78, pos := "rost.go:53", after := #[], guard := none }) (v := ?_) rfl (by as_aux_lemma => kernel_rfl) (by as_aux_lemma => kernel_rfl) (by as_aux_lemma => kernel_rfl) (fun _ _ _ h => h) (Or.inl ⟨by rfl, ?_⟩) (by assumption) ?_
  rotate_left
  · intro w' hSw
    try dsimp only at hSw
    go_simp
    try with_reducible rfl
  try simp only [Act.put, List.setIfInBounds_toArray, List.set_cons_zero, List.set_cons_succ]
  refine wpAnyH_ready (rs := [2]) (by as_aux_lemma => kernel_rfl) (by simp) ?_
  refine AllReadyH.cons (o := { dst := some 94, op := Op.call { callee := Callee.value (Operand.func 68), args := #[Operand.tmp 92, Operand.tmp 93], argTypes := #[25, 78] }, type := 25, pos := "rost.go:53", after := #[{ on := 0, ground := Ground.data }, { on := 1, ground := Ground.data }], guard := none }) rfl (fun Kx hK => ?_) AllReadyH.nil
  go_simp
  refine (rwith_any ((HV.out.later HB.out).later (Below.refl _ _).drew) HR.out (by omega) u o a1 a2 a3 a4 a5).mono ?_
  rintro e wA ⟨y, rfl, hy, bA⟩
  have bd := below2Z (Below.refl _ _).drew bA
  have HY := Lib.hid hy
  have YA := Lib.hid (hy.rd entOK).ents
  have X10A := Lib.hid (heap_laterR X10.out bd)
  have X12A := Lib.hid (heap_laterR X12.out bd)
  have HBA := Lib.hid (below2S HB.out bd)
  clear bd hy bA
  go_wp2_with fail
  refine hK.out _ _ ?_ (fun hHeld2 => ?_)
  · exact two7 X10A.out X12A.out
  clear hK Kx hHeld
  have hHeld := hHeld2
  clear hHeld2
  try simp only [Act.put, List.setIfInBounds_toArray, List.set_cons_zero, List.set_cons_succ]
  refine wpAnyH_ready (rs := [4]) (by as_aux_lemma => kernel_rfl) (by simp) ?_
  refine AllReadyH.cons (o := { dst := some 96, op := Op.call { callee := Callee.value (Operand.func 68), args := #[Operand.tmp 94, Operand.tmp 95], argTypes := #[25, 78] }, type := 25, pos := "rost.go:53", after := #[{ on := 2, ground := Ground.data }, { on := 3, ground := Ground.data }, { on := 2, ground := Ground.chain }], guard := none }) rfl (fun Kx hK => ?_) AllReadyH.nil
  go_simp
  refine (rwith_any YA.out (rise_putO entOrd HR.out ⟨u, o, ⟨a1, a2, a3, a4, a5⟩⟩) (by have := putO_le l ⟨u, o, ⟨a1, a2, a3, a4, a5⟩⟩; omega) o u b1 b2 b3 b4 b5).mono ?_
  rintro e wB ⟨z, rfl, hz, bB⟩
  have ZE := Lib.hid (hz.rd entOK).ents
  have X10B := Lib.hid (heap_laterR X10A.out bB)
  have X12B := Lib.hid (heap_laterR X12A.out bB)
  have HBB := Lib.hid (below2S HBA.out bB)
  clear hz bB
  go_wp2_with fail
  refine hK.out _ _ ?_ (fun hHeld2 => ?_)
  · exact two7 X10B.out X12B.out
  clear hK Kx hHeld
  have hHeld := hHeld2
  clear hHeld2
  try simp only [Act.put, List.setIfInBounds_toArray, List.set_cons_zero, List.set_cons_succ]
  refine wpAnyH_take (i := 5) (oi := { dst := some 8, op := Op.assign (Operand.tmp 96), type := 25, pos := "rost.go:53", after := #[{ on := 4, ground := Ground.data }, { on := 4, ground := Ground.chain }, { on := 0, ground := Ground.phase }, { on := 1, ground := Ground.phase }, { on := 2, ground := Ground.phase }, { on := 3, ground := Ground.phase }, { on := 4, ground := Ground.phase }], guard := none }) (v := ?_) rfl (by as_aux_lemma => kernel_rfl) (by as_aux_lemma => kernel_rfl) (by as_aux_lemma => kernel_rfl) (fun _ _ _ h => h) (Or.inl ⟨by rfl, ?_⟩) (by assumption) ?_
  rotate_left
  · intro w' hSw
    try dsimp only at hSw
    go_simp
    try with_reducible rfl
  try simp only [Act.put, List.setIfInBounds_toArray, List.set_cons_zero, List.set_cons_succ]
  refine wpAnyH_take (i := 6) (oi := { dst := some 9, op := Op.assign (Operand.const (Value.int IntKind.i64 0)), type := 33, pos := "rost.go:53", after := #[{ on := 5, ground := Ground.chain }, { on := 0, ground := Ground.phase }, { on := 1, ground := Ground.phase }, { on := 2, ground := Ground.phase }, { on := 3, ground := Ground.phase }, { on := 4, ground := Ground.phase }, { on := 5, ground := Ground.phase }], guard := none }) (v := ?_) rfl (by as_aux_lemma => kernel_rfl) (by as_aux_lemma => kernel_rfl) (by as_aux_lemma => kernel_rfl) (fun _ _ _ h => h) (Or.inl ⟨by rfl, ?_⟩) (by assumption) ?_
  rotate_left
  · intro w' hSw
    try dsimp only at hSw
    go_simp
    try with_reducible rfl
  try simp only [Act.put, List.setIfInBounds_toArray, List.set_cons_zero, List.set_cons_succ]
  refine wpAnyH_done (by kernel_rfl) ?_ _
  go_wp2_with fail
  go_ret2
  exact ⟨_, rfl, ZE.out, HBB.out⟩

set_option maxHeartbeats 3200000 in
set_option maxRecDepth 100000 in
theorem rdoH3 {w : World} {v : Value} {l : List Ent} (hv : Ents w v l) (hs : ShortE l) (hl : l.length ≤ 900) (u o : List UInt8) (hu : u.length ≤ 4294967296) (ho : o.length ≤ 4294967296) (k : Int) (hm : roMayC l = true) (h1 : idIs u = true) (h2 : idIs o = true) (h3 : (u == o) = false) {i1 i2 i3 i4 i5 j1 j2 j3 j4 j5 q q' a1 a2 a3 a4 a5 b1 b2 b3 b4 b5 : Bool} (hi : roIt l u o = ⟨i1, i2, i3, i4, i5⟩) (hj : roIt l o u = ⟨j1, j2, j3, j4, j5⟩) (hq : (l.any fun x => entIs x ⟨u, o, It.zero⟩) = q) (hq' : (l.any fun x => entIs x ⟨o, u, It.zero⟩) = q') (hk : (Lit.int .i64 k).wf = true) (hact : suAct ⟨i1, i2, i3, i4, i5⟩ ⟨j1, j2, j3, j4, j5⟩ k = (⟨a1, a2, a3, a4, a5⟩, ⟨b1, b2, b3, b4, b5⟩, 0)) (hf : q = false) (gu : decide (16 ≤ (roOf l u).length) = false) (go : decide (16 ≤ (roOf l o).length) = false) (ga : suEmpty ⟨a1, a2, a3, a4, a5⟩ = false) :
    Calls Try.prog 38 #[v, .int .i64 k, .string ⟨u.toArray⟩, .string ⟨o.toArray⟩] w fun e w' => ∃ v', e = .returned (.tuple #[v', .int .i64 0]) ∧ Ents w' v' (putO entLt entIs (putO entLt entIs l ⟨u, o, ⟨a1, a2, a3, a4, a5⟩⟩) ⟨o, u, ⟨b1, b2, b3, b4, b5⟩⟩) ∧ Below w.heap.size w w' := by
  subst hf
  have GU := Lib.hid gu
  have GO := Lib.hid go
  clear gu go
  have GA := Lib.hid (sempty_eq a1 a2 a3 a4 a5 ga)
  clear ga
  have HV := Lib.hid hv
  have HM := Lib.hid (romay_any hv hs (Lib.hid hm))
  have HR := Lib.hid (roMay_rise hm)
  have I1 := Lib.hid (is_eq u hu (Lib.hid h1))
  have I2 := Lib.hid (is_eq o ho (Lib.hid h2))
  have E1 := Lib.hid (entry_any u o)
  have E2 := Lib.hid (entry_any o u)
  have FI := Lib.hid hi
  have FJ := Lib.hid hj
  have FQ := Lib.hid hq
  have FQ' := Lib.hid hq'
  have HA := Lib.hid (sact_any i1 i2 i3 i4 i5 j1 j2 j3 j4 j5 k hk)
  rw [hact] at HA
  obtain ⟨a, cap, rfl, hmx⟩ := hv.open'
  clear hv hs hm h1 h2 hi hj hq hq' hk hact
  go_enter Try.func38, Try.ntmps38
  go_wp2_with fail
  refine HM.out.mono ?_
  rintro e w1 ⟨rfl, b1⟩
  have HB := Lib.hid b1
  clear b1
  go_wp2_with fail
  refine (I1.out _).mono ?_
  rintro e w2 ⟨rfl, b⟩
  replace HB := Lib.hid (below2S HB.out b)
  clear b
  go_wp2_with fail
  refine (I2.out _).mono ?_
  rintro e w3 ⟨rfl, b⟩
  replace HB := Lib.hid (below2S HB.out b)
  clear b
  go_wp2_with fail
  refine (E1.out _).mono ?_
  rintro e w4 ⟨rfl, b⟩
  replace HB := Lib.hid (below2S HB.out b)
  clear b
  go_wp2_with fail
  refine (rfind_eq (HV.out.later HB.out) HR.out u o FI FQ).mono ?_
  rintro e w5 ⟨rfl, b⟩
  have bb := bl_newZ w5 (.cells #[.string ⟨u.toArray⟩, .string ⟨o.toArray⟩, .bool i1, .bool i2, .bool i3, .bool i4, .bool i5] 78)
  have X10 := Lib.hid (heap_newR w5 (.cells #[.string ⟨u.toArray⟩, .string ⟨o.toArray⟩, .bool i1, .bool i2, .bool i3, .bool i4, .bool i5] 78) rfl)
  have HS5 := Lib.hid (below2S HB.out b).size
  replace HB := Lib.hid (below2S (below2S HB.out b) bb)
  clear b bb
  go_wp2_with fail
  generalize hW : w5.alloc (.cells #[.string ⟨u.toArray⟩, .string ⟨o.toArray⟩, .bool i1, .bool i2, .bool i3, .bool i4, .bool i5] 78) = w6 at HB X10 ⊢
  generalize hN : w5.heap.size = n5 at X10 HS5 ⊢
  clear hW hN
  refine (E2.out _).mono ?_
  rintro e w7 ⟨rfl, b⟩
  replace X10 := Lib.hid (heap_laterR X10.out b)
  replace HB := Lib.hid (below2S HB.out b)
  clear b
  go_wp2_with fail
  refine (rfind_eq (HV.out.later HB.out) HR.out o u FJ FQ').mono ?_
  rintro e w8 ⟨rfl, b⟩
  have bb := bl_newZ w8 (.cells #[.string ⟨o.toArray⟩, .string ⟨u.toArray⟩, .bool j1, .bool j2, .bool j3, .bool j4, .bool j5] 78)
  have X12 := Lib.hid (heap_newR w8 (.cells #[.string ⟨o.toArray⟩, .string ⟨u.toArray⟩, .bool j1, .bool j2, .bool j3, .bool j4, .bool j5] 78) rfl)
  have HS8 := Lib.hid (below2S HB.out b).size
  replace X10 := Lib.hid (heap_laterR X10.out b)
  have hne := Lib.hid (heap_ltR X10.out)
  replace X10 := Lib.hid (heap_laterR X10.out bb)
  replace HB := Lib.hid (below2S (below2S HB.out b) bb)
  clear b bb
  obtain ⟨c0, c1, c2, c3, c4, c5, c6⟩ := e7_cells X10.out
  obtain ⟨d0, d1, d2, d3, d4, d5, d6⟩ := e7_cells X12.out
  simp only [Nat.zero_add] at c0 c1 c2 c3 c4 c5 c6 d0 d1 d2 d3 d4 d5 d6
  go_wp2_with fail
  generalize hW : w8.alloc (.cells #[.string ⟨o.toArray⟩, .string ⟨u.toArray⟩, .bool j1, .bool j2, .bool j3, .bool j4, .bool j5] 78) = w9 at HB X10 X12 c0 c1 c2 c3 c4 c5 c6 d0 d1 d2 d3 d4 d5 d6 ⊢
  generalize hN : w8.heap.size = n8 at X12 HS8 hne d0 d1 d2 d3 d4 d5 d6 ⊢
  clear hW hN c0 c1 c2 c3 c4 c5 c6 d0 d1 d2 d3 d4 d5 d6
  refine (HA.out _).mono ?_
  rintro e w10 ⟨rfl, b⟩
  replace X10 := Lib.hid (heap_laterR X10.out b)
  replace X12 := Lib.hid (heap_laterR X12.out b)
  replace HB := Lib.hid (below2S HB.out b)
  clear b
  have hne1 : n5 ≠ n8 := by have := hne.out; omega
  have Y12 := e7_other X12.out hne1 a1 a2 a3 a4 a5
  have Y10 := e7_set X10.out a1 a2 a3 a4 a5
  have Z12 := Lib.hid (e7_set Y12 b1 b2 b3 b4 b5)
  have Z10 := Lib.hid (e7_other Y10 hne1.symm b1 b2 b3 b4 b5)
  have ZB := Lib.hid (setI_below (setI_below HB.out HS5.out a1 a2 a3 a4 a5) HS8.out b1 b2 b3 b4 b5)
  obtain ⟨c0, c1, c2, c3, c4, c5, c6⟩ := e7_cells X10.out
  obtain ⟨d0, d1, d2, d3, d4, d5, d6⟩ := e7_cells Y12
  simp only [Nat.zero_add] at c0 c1 c2 c3 c4 c5 c6 d0 d1 d2 d3 d4 d5 d6
  have f2 := e7_frozen X10.out 2
  have f3 := e7_frozen X10.out 3
  have f4 := e7_frozen X10.out 4
  have f5 := e7_frozen X10.out 5
  have f6 := e7_frozen X10.out 6
  have g2 := e7_frozen Y12 2
  have g3 := e7_frozen Y12 3
  have g4 := e7_frozen Y12 4
  have g5 := e7_frozen Y12 5
  have g6 := e7_frozen Y12 6
  unfold setI at d0 d1 d2 d3 d4 d5 d6 g2 g3 g4 g5 g6
  clear Y10 Y12
  unfold actE
  obtain ⟨e0, e1, e2, e3, e4, e5, e6⟩ := e7_cells Z10.out
  obtain ⟨p0, p1, p2, p3, p4, p5, p6⟩ := e7_cells Z12.out
  simp only [Nat.zero_add] at e0 e1 e2 e3 e4 e5 e6 p0 p1 p2 p3 p4 p5 p6
  unfold setI at e0 e1 e2 e3 e4 e5 e6 p0 p1 p2 p3 p4 p5 p6
  replace X10 := Z10
  replace X12 := Z12
  replace HB := ZB
  clear Z10 Z12 ZB
  go_wp2_with fail
  clear c0 c1 c2 c3 c4 c5 c6 d0 d1 d2 d3 d4 d5 d6 f2 f3 f4 f5 f6 g2 g3 g4 g5 g6 e0 e1 e2 e3 e4 e5 e6 p0 p1 p2 p3 p4 p5 p6 HA FI FJ FQ FQ' HM I1 I2 E1 E2
  refine (risFull_any (HV.out.later HB.out) (by omega) u GU).mono ?_
  rintro e w12 ⟨rfl, b⟩
  replace X10 := Lib.hid (heap_laterR X10.out b)
  replace X12 := Lib.hid (heap_laterR X12.out b)
  replace HB := Lib.hid (below2S HB.out b)
  clear b
  go_wp2_with fail
  refine (risFull_any (HV.out.later HB.out) (by omega) o GO).mono ?_
  rintro e w13 ⟨rfl, b⟩
  replace X10 := Lib.hid (heap_laterR X10.out b)
  replace X12 := Lib.hid (heap_laterR X12.out b)
  replace HB := Lib.hid (below2S HB.out b)
  clear b
  obtain ⟨e0, e1, e2, e3, e4, e5, e6⟩ := e7_cells X10.out
  obtain ⟨p0, p1, p2, p3, p4, p5, p6⟩ := e7_cells X12.out
  simp only [Nat.zero_add] at e0 e1 e2 e3 e4 e5 e6 p0 p1 p2 p3 p4 p5 p6
  go_wp2_with fail
  clear e0 e1 e2 e3 e4 e5 e6 p0 p1 p2 p3 p4 p5 p6
  refine (GA.out _).mono ?_
  rintro e w14 ⟨rfl, b⟩
  replace X10 := Lib.hid (heap_laterR X10.out b)
  replace X12 := Lib.hid (heap_laterR X12.out b)
  replace HB := Lib.hid (below2S HB.out b)
  clear b
  obtain ⟨e0, e1, e2, e3, e4, e5, e6⟩ := e7_cells X10.out
  obtain ⟨p0, p1, p2, p3, p4, p5, p6⟩ := e7_cells X12.out
  simp only [Nat.zero_add] at e0 e1 e2 e3 e4 e5 e6 p0 p1 p2 p3 p4 p5 p6
  go_wp2_with fail
  clear e0 e1 e2 e3 e4 e5 e6 p0 p1 p2 p3 p4 p5 p6
  have hS0 := two7 X10.out X12.out
  refine wp_region_held_drew (S := (fun W => ((W).cell? ⟨n5, 0, none⟩ = some (.string ⟨u.toArray⟩) ∧ (W).cell? ⟨n5, 1, none⟩ = some (.string ⟨o.toArray⟩) ∧ (W).cell? ⟨n5, 2, none⟩ = some (.bool a1) ∧ (W).cell? ⟨n5, 3, none⟩ = some (.bool a2) ∧ (W).cell? ⟨n5, 4, none⟩ = some (.bool a3) ∧ (W).cell? ⟨n5, 5, none⟩ = some (.bool a4) ∧ (W).cell? ⟨n5, 6, none⟩ = some (.bool a5) ∧ (W).cell? ⟨n8, 0, none⟩ = some (.string ⟨o.toArray⟩) ∧ (W).cell? ⟨n8, 1, none⟩ = some (.string ⟨u.toArray⟩) ∧ (W).cell? ⟨n8, 2, none⟩ = some (.bool b1) ∧ (W).cell? ⟨n8, 3, none⟩ = some (.bool b2) ∧ (W).cell? ⟨n8, 4, none⟩ = some (.bool b3) ∧ (W).cell? ⟨n8, 5, none⟩ = some (.bool b4) ∧ (W).cell? ⟨n8, 6, none⟩ = some (.bool b5)))) (by kernel_rfl) ?_ (fun hHeld => ?_)
  · exact two7 (heap_laterR X10.out (Below.refl _ _).drew) (heap_laterR X12.out (Below.refl _ _).drew)
  refine wpAnyH_take (i := 0) (oi := { dst := some 92, op := Op.move (Operand.tmp 0), type := 25, pos := "rost.go:53", after := #[], guard := none }) (v := ?_) rfl (by as_aux_lemma => kernel_rfl) (by as_aux_lemma => kernel_rfl) (by as_aux_lemma => kernel_rfl) (fun _ _ _ h => h) (Or.inl ⟨by rfl, ?_⟩) (by assumption) ?_
  rotate_left
  · intro w' hSw
    try dsimp only at hSw
    go_simp
    try with_reducible rfl
  try simp only [Act.put, List.setIfInBounds_toArray, List.set_cons_zero, List.set_cons_succ]
  refine wpAnyH_take (i := 1) (oi := { dst := some 93, op := Op.load 78 (Operand.tmp 10), type := 78, pos := "rost.go:53", after := #[], guard := none }) (v := ?_) rfl (by as_aux_lemma => kernel_rfl) (by as_aux_lemma => kernel_rfl) (by as_aux_lemma => kernel_rfl) (fun _ _ _ h => h) (Or.inl ⟨by rfl, ?_⟩) (by assumption) ?_
  rotate_left
  · intro w' hSw
    try dsimp only at hSw
    go_simp
    try with_reducible rfl
  try simp only [Act.put, List.setIfInBounds_toArray, List.set_cons_zero, List.set_cons_succ]
  refine wpAnyH_take (i := 3) (oi := { dst := some 95, op := Op.load 78 (Operand.tmp 12), type := 78, pos := "rost.go:53", after := #[], guard := none }) (v := ?_) rfl (by as_aux_lemma => kernel_rfl) (by as_aux_lemma => kernel_rfl) (by as_aux_lemma => kernel_rfl) (fun _ _ _ h => h) (Or.inl ⟨by rfl, ?_⟩) (by assumption) ?_
  rotate_left
  · intro w' hSw
    try dsimp only at hSw
    go_simp
    try with_reducible rfl
  try simp only [Act.put, List.setIfInBounds_toArray, List.set_cons_zero, List.set_cons_succ]
  refine wpAnyH_ready (rs := [2]) (by as_aux_lemma => kernel_rfl) (by simp) ?_
  refine AllReadyH.cons (o := { dst := some 94, op := Op.call { callee := Callee.value (Operand.func 68), args := #[Operand.tmp 92, Operand.tmp 93], argTypes := #[25, 78] }, type := 25, pos := "rost.go:53", after := #[{ on := 0, ground := Ground.data }, { on := 1, ground := Ground.data }], guard := none }) rfl (fun Kx hK => ?_) AllReadyH.nil
  go_simp
  refine (rwith_any ((HV.out.later HB.out).later (Below.refl _ _).drew) HR.out (by omega) u o a1 a2 a3 a4 a5).mono ?_
  rintro e wA ⟨y, rfl, hy, bA⟩
  have bd := below2Z (Below.refl _ _).drew bA
  have HY := Lib.hid hy
  have YA := Lib.hid (hy.rd entOK).ents
  have X10A := Lib.hid (heap_laterR X10.out bd)
  have X12A := Lib.hid (heap_laterR X12.out bd)
  have HBA := Lib.hid (below2S HB.out bd)
  clear bd hy bA
  go_wp2_with fail
  refine hK.out _ _ ?_ (fun hHeld2 => ?_)
  · exact two7 X10A.out X12A.out
  clear hK Kx hHeld
  have hHeld := hHeld2
  clear hHeld2
  try simp only [Act.put, List.setIfInBounds_toArray, List.set_cons_zero, List.set_cons_succ]
  refine wpAnyH_ready (rs := [4]) (by as_aux_lemma => kernel_rfl) (by simp) ?_
  refine AllReadyH.cons (o := { dst := some 96, op := Op.call { callee := Callee.value (Operand.func 68), args := #[Operand.tmp 94, Operand.tmp 95], argTypes := #[25, 78] }, type := 25, pos := "rost.go:53", after := #[{ on := 2, ground := Ground.data }, { on := 3, ground := Ground.data }, { on := 2, ground := Ground.chain }], guard := none }) rfl (fun Kx hK => ?_) AllReadyH.nil
  go_simp
  refine (rwith_any YA.out (rise_putO entOrd HR.out ⟨u, o, ⟨a1, a2, a3, a4, a5⟩⟩) (by have := putO_le l ⟨u, o, ⟨a1, a2, a3, a4, a5⟩⟩; omega) o u b1 b2 b3 b4 b5).mono ?_
  rintro e wB ⟨z, rfl, hz, bB⟩
  have ZE := Lib.hid (hz.rd entOK).ents
  have X10B := Lib.hid (heap_laterR X10A.out bB)
  have X12B := Lib.hid (heap_laterR X12A.out bB)
  have HBB := Lib.hid (below2S HBA.out bB)
  clear hz bB
  go_wp2_with fail
  refine hK.out _ _ ?_ (fun hHeld2 => ?_)
  · exact two7 X10B.out X12B.out
  clear hK Kx hHeld
  have hHeld := hHeld2
  clear hHeld2
  try simp only [Act.put, List.setIfInBounds_toArray, List.set_cons_zero, List.set_cons_succ]
  refine wpAnyH_take (i := 5) (oi := { dst := some 8, op := Op.assign (Operand.tmp 96), type := 25, pos := "rost.go:53", after := #[{ on := 4, ground := Ground.data }, { on := 4, ground := Ground.chain }, { on := 0, ground := Ground.phase }, { on := 1, ground := Ground.phase }, { on := 2, ground := Ground.phase }, { on := 3, ground := Ground.phase }, { on := 4, ground := Ground.phase }], guard := none }) (v := ?_) rfl (by as_aux_lemma => kernel_rfl) (by as_aux_lemma => kernel_rfl) (by as_aux_lemma => kernel_rfl) (fun _ _ _ h => h) (Or.inl ⟨by rfl, ?_⟩) (by assumption) ?_
  rotate_left
  · intro w' hSw
    try dsimp only at hSw
    go_simp
    try with_reducible rfl
  try simp only [Act.put, List.setIfInBounds_toArray, List.set_cons_zero, List.set_cons_succ]
  refine wpAnyH_take (i := 6) (oi := { dst := some 9, op := Op.assign (Operand.const (Value.int IntKind.i64 0)), type := 33, pos := "rost.go:53", after := #[{ on := 5, ground := Ground.chain }, { on := 0, ground := Ground.phase }, { on := 1, ground := Ground.phase }, { on := 2, ground := Ground.phase }, { on := 3, ground := Ground.phase }, { on := 4, ground := Ground.phase }, { on := 5, ground := Ground.phase }], guard := none }) (v := ?_) rfl (by as_aux_lemma => kernel_rfl) (by as_aux_lemma => kernel_rfl) (by as_aux_lemma => kernel_rfl) (fun _ _ _ h => h) (Or.inl ⟨by rfl, ?_⟩) (by assumption) ?_
  rotate_left
  · intro w' hSw
    try dsimp only at hSw
    go_simp
    try with_reducible rfl
  try simp only [Act.put, List.setIfInBounds_toArray, List.set_cons_zero, List.set_cons_succ]
  refine wpAnyH_done (by kernel_rfl) ?_ _
  go_wp2_with fail
  go_ret2
  exact ⟨_, rfl, ZE.out, HBB.out⟩

set_option maxHeartbeats 3200000 in
set_option maxRecDepth 100000 in
theorem rdoH4 {w : World} {v : Value} {l : List Ent} (hv : Ents w v l) (hs : ShortE l) (hl : l.length ≤ 900) (u o : List UInt8) (hu : u.length ≤ 4294967296) (ho : o.length ≤ 4294967296) (k : Int) (hm : roMayC l = true) (h1 : idIs u = true) (h2 : idIs o = true) (h3 : (u == o) = false) {i1 i2 i3 i4 i5 j1 j2 j3 j4 j5 q q' a1 a2 a3 a4 a5 b1 b2 b3 b4 b5 : Bool} (hi : roIt l u o = ⟨i1, i2, i3, i4, i5⟩) (hj : roIt l o u = ⟨j1, j2, j3, j4, j5⟩) (hq : (l.any fun x => entIs x ⟨u, o, It.zero⟩) = q) (hq' : (l.any fun x => entIs x ⟨o, u, It.zero⟩) = q') (hk : (Lit.int .i64 k).wf = true) (hact : suAct ⟨i1, i2, i3, i4, i5⟩ ⟨j1, j2, j3, j4, j5⟩ k = (⟨a1, a2, a3, a4, a5⟩, ⟨b1, b2, b3, b4, b5⟩, 0)) (hf : q = false) (gu : decide (16 ≤ (roOf l u).length) = false) (go : decide (16 ≤ (roOf l o).length) = false) (ga : suEmpty ⟨a1, a2, a3, a4, a5⟩ = true) (gb : suEmpty ⟨b1, b2, b3, b4, b5⟩ = false) :
    Calls Try.prog 38 #[v, .int .i64 k, .string ⟨u.toArray⟩, .string ⟨o.toArray⟩] w fun e w' => ∃ v', e = .returned (.tuple #[v', .int .i64 0]) ∧ Ents w' v' (putO entLt entIs (putO entLt entIs l ⟨u, o, ⟨a1, a2, a3, a4, a5⟩⟩) ⟨o, u, ⟨b1, b2, b3, b4, b5⟩⟩) ∧ Below w.heap.size w w' := by
  subst hf
  have GU := Lib.hid gu
  have GO := Lib.hid go
  clear gu go
  have GA := Lib.hid (sempty_eq a1 a2 a3 a4 a5 ga)
  have GB := Lib.hid (sempty_eq b1 b2 b3 b4 b5 gb)
  clear ga gb
  have HV := Lib.hid hv
  have HM := Lib.hid (romay_any hv hs (Lib.hid hm))
  have HR := Lib.hid (roMay_rise hm)
  have I1 := Lib.hid (is_eq u hu (Lib.hid h1))
  have I2 := Lib.hid (is_eq o ho (Lib.hid h2))
  have E1 := Lib.hid (entry_any u o)
  have E2 := Lib.hid (entry_any o u)
  have FI := Lib.hid hi
  have FJ := Lib.hid hj
  have FQ := Lib.hid hq
  have FQ' := Lib.hid hq'
  have HA := Lib.hid (sact_any i1 i2 i3 i4 i5 j1 j2 j3 j4 j5 k hk)
  rw [hact] at HA
  obtain ⟨a, cap, rfl, hmx⟩ := hv.open'
  clear hv hs hm h1 h2 hi hj hq hq' hk hact
  go_enter Try.func38, Try.ntmps38
  go_wp2_with fail
  refine HM.out.mono ?_
  rintro e w1 ⟨rfl, b1⟩
  have HB := Lib.hid b1
  clear b1
  go_wp2_with fail
  refine (I1.out _).mono ?_
  rintro e w2 ⟨rfl, b⟩
  replace HB := Lib.hid (below2S HB.out b)
  clear b
  go_wp2_with fail
  refine (I2.out _).mono ?_
  rintro e w3 ⟨rfl, b⟩
  replace HB := Lib.hid (below2S HB.out b)
  clear b
  go_wp2_with fail
  refine (E1.out _).mono ?_
  rintro e w4 ⟨rfl, b⟩
  replace HB := Lib.hid (below2S HB.out b)
  clear b
  go_wp2_with fail
  refine (rfind_eq (HV.out.later HB.out) HR.out u o FI FQ).mono ?_
  rintro e w5 ⟨rfl, b⟩
  have bb := bl_newZ w5 (.cells #[.string ⟨u.toArray⟩, .string ⟨o.toArray⟩, .bool i1, .bool i2, .bool i3, .bool i4, .bool i5] 78)
  have X10 := Lib.hid (heap_newR w5 (.cells #[.string ⟨u.toArray⟩, .string ⟨o.toArray⟩, .bool i1, .bool i2, .bool i3, .bool i4, .bool i5] 78) rfl)
  have HS5 := Lib.hid (below2S HB.out b).size
  replace HB := Lib.hid (below2S (below2S HB.out b) bb)
  clear b bb
  go_wp2_with fail
  generalize hW : w5.alloc (.cells #[.string ⟨u.toArray⟩, .string ⟨o.toArray⟩, .bool i1, .bool i2, .bool i3, .bool i4, .bool i5] 78) = w6 at HB X10 ⊢
  generalize hN : w5.heap.size = n5 at X10 HS5 ⊢
  clear hW hN
  refine (E2.out _).mono ?_
  rintro e w7 ⟨rfl, b⟩
  replace X10 := Lib.hid (heap_laterR X10.out b)
  replace HB := Lib.hid (below2S HB.out b)
  clear b
  go_wp2_with fail
  refine (rfind_eq (HV.out.later HB.out) HR.out o u FJ FQ').mono ?_
  rintro e w8 ⟨rfl, b⟩
  have bb := bl_newZ w8 (.cells #[.string ⟨o.toArray⟩, .string ⟨u.toArray⟩, .bool j1, .bool j2, .bool j3, .bool j4, .bool j5] 78)
  have X12 := Lib.hid (heap_newR w8 (.cells #[.string ⟨o.toArray⟩, .string ⟨u.toArray⟩, .bool j1, .bool j2, .bool j3, .bool j4, .bool j5] 78) rfl)
  have HS8 := Lib.hid (below2S HB.out b).size
  replace X10 := Lib.hid (heap_laterR X10.out b)
  have hne := Lib.hid (heap_ltR X10.out)
  replace X10 := Lib.hid (heap_laterR X10.out bb)
  replace HB := Lib.hid (below2S (below2S HB.out b) bb)
  clear b bb
  obtain ⟨c0, c1, c2, c3, c4, c5, c6⟩ := e7_cells X10.out
  obtain ⟨d0, d1, d2, d3, d4, d5, d6⟩ := e7_cells X12.out
  simp only [Nat.zero_add] at c0 c1 c2 c3 c4 c5 c6 d0 d1 d2 d3 d4 d5 d6
  go_wp2_with fail
  generalize hW : w8.alloc (.cells #[.string ⟨o.toArray⟩, .string ⟨u.toArray⟩, .bool j1, .bool j2, .bool j3, .bool j4, .bool j5] 78) = w9 at HB X10 X12 c0 c1 c2 c3 c4 c5 c6 d0 d1 d2 d3 d4 d5 d6 ⊢
  generalize hN : w8.heap.size = n8 at X12 HS8 hne d0 d1 d2 d3 d4 d5 d6 ⊢
  clear hW hN c0 c1 c2 c3 c4 c5 c6 d0 d1 d2 d3 d4 d5 d6
  refine (HA.out _).mono ?_
  rintro e w10 ⟨rfl, b⟩
  replace X10 := Lib.hid (heap_laterR X10.out b)
  replace X12 := Lib.hid (heap_laterR X12.out b)
  replace HB := Lib.hid (below2S HB.out b)
  clear b
  have hne1 : n5 ≠ n8 := by have := hne.out; omega
  have Y12 := e7_other X12.out hne1 a1 a2 a3 a4 a5
  have Y10 := e7_set X10.out a1 a2 a3 a4 a5
  have Z12 := Lib.hid (e7_set Y12 b1 b2 b3 b4 b5)
  have Z10 := Lib.hid (e7_other Y10 hne1.symm b1 b2 b3 b4 b5)
  have ZB := Lib.hid (setI_below (setI_below HB.out HS5.out a1 a2 a3 a4 a5) HS8.out b1 b2 b3 b4 b5)
  obtain ⟨c0, c1, c2, c3, c4, c5, c6⟩ := e7_cells X10.out
  obtain ⟨d0, d1, d2, d3, d4, d5, d6⟩ := e7_cells Y12
  simp only [Nat.zero_add] at c0 c1 c2 c3 c4 c5 c6 d0 d1 d2 d3 d4 d5 d6
  have f2 := e7_frozen X10.out 2
  have f3 := e7_frozen X10.out 3
  have f4 := e7_frozen X10.out 4
  have f5 := e7_frozen X10.out 5
  have f6 := e7_frozen X10.out 6
  have g2 := e7_frozen Y12 2
  have g3 := e7_frozen Y12 3
  have g4 := e7_frozen Y12 4
  have g5 := e7_frozen Y12 5
  have g6 := e7_frozen Y12 6
  unfold setI at d0 d1 d2 d3 d4 d5 d6 g2 g3 g4 g5 g6
  clear Y10 Y12
  unfold actE
  obtain ⟨e0, e1, e2, e3, e4, e5, e6⟩ := e7_cells Z10.out
  obtain ⟨p0, p1, p2, p3, p4, p5, p6⟩ := e7_cells Z12.out
  simp only [Nat.zero_add] at e0 e1 e2 e3 e4 e5 e6 p0 p1 p2 p3 p4 p5 p6
  unfold setI at e0 e1 e2 e3 e4 e5 e6 p0 p1 p2 p3 p4 p5 p6
  replace X10 := Z10
  replace X12 := Z12
  replace HB := ZB
  clear Z10 Z12 ZB
  go_wp2_with fail
  clear c0 c1 c2 c3 c4 c5 c6 d0 d1 d2 d3 d4 d5 d6 f2 f3 f4 f5 f6 g2 g3 g4 g5 g6 e0 e1 e2 e3 e4 e5 e6 p0 p1 p2 p3 p4 p5 p6 HA FI FJ FQ FQ' HM I1 I2 E1 E2
  refine (risFull_any (HV.out.later HB.out) (by omega) u GU).mono ?_
  rintro e w12 ⟨rfl, b⟩
  replace X10 := Lib.hid (heap_laterR X10.out b)
  replace X12 := Lib.hid (heap_laterR X12.out b)
  replace HB := Lib.hid (below2S HB.out b)
  clear b
  go_wp2_with fail
  refine (risFull_any (HV.out.later HB.out) (by omega) o GO).mono ?_
  rintro e w13 ⟨rfl, b⟩
  replace X10 := Lib.hid (heap_laterR X10.out b)
  replace X12 := Lib.hid (heap_laterR X12.out b)
  replace HB := Lib.hid (below2S HB.out b)
  clear b
  obtain ⟨e0, e1, e2, e3, e4, e5, e6⟩ := e7_cells X10.out
  obtain ⟨p0, p1, p2, p3, p4, p5, p6⟩ := e7_cells X12.out
  simp only [Nat.zero_add] at e0 e1 e2 e3 e4 e5 e6 p0 p1 p2 p3 p4 p5 p6
  go_wp2_with fail
  clear e0 e1 e2 e3 e4 e5 e6 p0 p1 p2 p3 p4 p5 p6
  refine (GA.out _).mono ?_
  rintro e w14 ⟨rfl, b⟩
  replace X10 := Lib.hid (heap_laterR X10.out b)
  replace X12 := Lib.hid (heap_laterR X12.out b)
  replace HB := Lib.hid (below2S HB.out b)
  clear b
  obtain ⟨e0, e1, e2, e3, e4, e5, e6⟩ := e7_cells X10.out
  obtain ⟨p0, p1, p2, p3, p4, p5, p6⟩ := e7_cells X12.out
  simp only [Nat.zero_add] at e0 e1 e2 e3 e4 e5 e6 p0 p1 p2 p3 p4 p5 p6
  go_wp2_with fail
  clear e0 e1 e2 e3 e4 e5 e6 p0 p1 p2 p3 p4 p5 p6
  refine (GB.out _).mono ?_
  rintro e w15 ⟨rfl, b⟩
  replace X10 := Lib.hid (heap_laterR X10.out b)
  replace X12 := Lib.hid (heap_laterR X12.out b)
  replace HB := Lib.hid (below2S HB.out b)
  clear b
  go_wp2_with fail
  have hS0 := two7 X10.out X12.out
  refine wp_region_held_drew (S := (fun W => ((W).cell? ⟨n5, 0, none⟩ = some (.string ⟨u.toArray⟩) ∧ (W).cell? ⟨n5, 1, none⟩ = some (.string ⟨o.toArray⟩) ∧ (W).cell? ⟨n5, 2, none⟩ = some (.bool a1) ∧ (W).cell? ⟨n5, 3, none⟩ = some (.bool a2) ∧ (W).cell? ⟨n5, 4, none⟩ = some (.bool a3) ∧ (W).cell? ⟨n5, 5, none⟩ = some (.bool a4) ∧ (W).cell? ⟨n5, 6, none⟩ = some (.bool a5) ∧ (W).cell? ⟨n8, 0, none⟩ = some (.string ⟨o.toArray⟩) ∧ (W).cell? ⟨n8, 1, none⟩ = some (.string ⟨u.toArray⟩) ∧ (W).cell? ⟨n8, 2, none⟩ = some (.bool b1) ∧ (W).cell? ⟨n8, 3, none⟩ = some (.bool b2) ∧ (W).cell? ⟨n8, 4, none⟩ = some (.bool b3) ∧ (W).cell? ⟨n8, 5, none⟩ = some (.bool b4) ∧ (W).cell? ⟨n8, 6, none⟩ = some (.bool b5)))) (by kernel_rfl) ?_ (fun hHeld => ?_)
  · exact two7 (heap_laterR X10.out (Below.refl _ _).drew) (heap_laterR X12.out (Below.refl _ _).drew)
  refine wpAnyH_take (i := 0) (oi := { dst := some 92, op := Op.move (Operand.tmp 0), type := 25, pos := "rost.go:53", after := #[], guard := none }) (v := ?_) rfl (by as_aux_lemma => kernel_rfl) (by as_aux_lemma => kernel_rfl) (by as_aux_lemma => kernel_rfl) (fun _ _ _ h => h) (Or.inl ⟨by rfl, ?_⟩) (by assumption) ?_
  rotate_left
  · intro w' hSw
    try dsimp only at hSw
    go_simp
    try with_reducible rfl
  try simp only [Act.put, List.setIfInBounds_toArray, List.set_cons_zero, List.set_cons_succ]
  refine wpAnyH_take (i := 1) (oi := { dst := some 93, op := Op.load 78 (Operand.tmp 10), type := 78, pos := "rost.go:53", after := #[], guard := none }) (v := ?_) rfl (by as_aux_lemma => kernel_rfl) (by as_aux_lemma => kernel_rfl) (by as_aux_lemma => kernel_rfl) (fun _ _ _ h => h) (Or.inl ⟨by rfl, ?_⟩) (by assumption) ?_
  rotate_left
  · intro w' hSw
    try dsimp only at hSw
    go_simp
    try with_reducible rfl
  try simp only [Act.put, List.setIfInBounds_toArray, List.set_cons_zero, List.set_cons_succ]
  refine wpAnyH_take (i := 3) (oi := { dst := some 95, op := Op.load 78 (Operand.tmp 12), type := 78, pos := "rost.go:53", after := #[], guard := none }) (v := ?_) rfl (by as_aux_lemma => kernel_rfl) (by as_aux_lemma => kernel_rfl) (by as_aux_lemma => kernel_rfl) (fun _ _ _ h => h) (Or.inl ⟨by rfl, ?_⟩) (by assumption) ?_
  rotate_left
  · intro w' hSw
    try dsimp only at hSw
    go_simp
    try with_reducible rfl
  try simp only [Act.put, List.setIfInBounds_toArray, List.set_cons_zero, List.set_cons_succ]
  refine wpAnyH_ready (rs := [2]) (by as_aux_lemma => kernel_rfl) (by simp) ?_
  refine AllReadyH.cons (o := { dst := some 94, op := Op.call { callee := Callee.value (Operand.func 68), args := #[Operand.tmp 92, Operand.tmp 93], argTypes := #[25, 78] }, type := 25, pos := "rost.go:53", after := #[{ on := 0, ground := Ground.data }, { on := 1, ground := Ground.data }], guard := none }) rfl (fun Kx hK => ?_) AllReadyH.nil
  go_simp
  refine (rwith_any ((HV.out.later HB.out).later (Below.refl _ _).drew) HR.out (by omega) u o a1 a2 a3 a4 a5).mono ?_
  rintro e wA ⟨y, rfl, hy, bA⟩
  have bd := below2Z (Below.refl _ _).drew bA
  have HY := Lib.hid hy
  have YA := Lib.hid (hy.rd entOK).ents
  have X10A := Lib.hid (heap_laterR X10.out bd)
  have X12A := Lib.hid (heap_laterR X12.out bd)
  have HBA := Lib.hid (below2S HB.out bd)
  clear bd hy bA
  go_wp2_with fail
  refine hK.out _ _ ?_ (fun hHeld2 => ?_)
  · exact two7 X10A.out X12A.out
  clear hK Kx hHeld
  have hHeld := hHeld2
  clear hHeld2
  try simp only [Act.put, List.setIfInBounds_toArray, List.set_cons_zero, List.set_cons_succ]
  refine wpAnyH_ready (rs := [4]) (by as_aux_lemma => kernel_rfl) (by simp) ?_
  refine AllReadyH.cons (o := { dst := some 96, op := Op.call { callee := Callee.value (Operand.func 68), args := #[Operand.tmp 94, Operand.tmp 95], argTypes := #[25, 78] }, type := 25, pos := "rost.go:53", after := #[{ on := 2, ground := Ground.data }, { on := 3, ground := Ground.data }, { on := 2, ground := Ground.chain }], guard := none }) rfl (fun Kx hK => ?_) AllReadyH.nil
  go_simp
  refine (rwith_any YA.out (rise_putO entOrd HR.out ⟨u, o, ⟨a1, a2, a3, a4, a5⟩⟩) (by have := putO_le l ⟨u, o, ⟨a1, a2, a3, a4, a5⟩⟩; omega) o u b1 b2 b3 b4 b5).mono ?_
  rintro e wB ⟨z, rfl, hz, bB⟩
  have ZE := Lib.hid (hz.rd entOK).ents
  have X10B := Lib.hid (heap_laterR X10A.out bB)
  have X12B := Lib.hid (heap_laterR X12A.out bB)
  have HBB := Lib.hid (below2S HBA.out bB)
  clear hz bB
  go_wp2_with fail
  refine hK.out _ _ ?_ (fun hHeld2 => ?_)
  · exact two7 X10B.out X12B.out
  clear hK Kx hHeld
  have hHeld := hHeld2
  clear hHeld2
  try simp only [Act.put, List.setIfInBounds_toArray, List.set_cons_zero, List.set_cons_succ]
  refine wpAnyH_take (i := 5) (oi := { dst := some 8, op := Op.assign (Operand.tmp 96), type := 25, pos := "rost.go:53", after := #[{ on := 4, ground := Ground.data }, { on := 4, ground := Ground.chain }, { on := 0, ground := Ground.phase }, { on := 1, ground := Ground.phase }, { on := 2, ground := Ground.phase }, { on := 3, ground := Ground.phase }, { on := 4, ground := Ground.phase }], guard := none }) (v := ?_) rfl (by as_aux_lemma => kernel_rfl) (by as_aux_lemma => kernel_rfl) (by as_aux_lemma => kernel_rfl) (fun _ _ _ h => h) (Or.inl ⟨by rfl, ?_⟩) (by assumption) ?_
  rotate_left
  · intro w' hSw
    try dsimp only at hSw
    go_simp
    try with_reducible rfl
  try simp only [Act.put, List.setIfInBounds_toArray, List.set_cons_zero, List.set_cons_succ]
  refine wpAnyH_take (i := 6) (oi := { dst := some 9, op := Op.assign (Operand.const (Value.int IntKind.i64 0)), type := 33, pos := "rost.go:53", after := #[{ on := 5, ground := Ground.chain }, { on := 0, ground := Ground.phase }, { on := 1, ground := Ground.phase }, { on := 2, ground := Ground.phase }, { on := 3, ground := Ground.phase }, { on := 4, ground := Ground.phase }, { on := 5, ground := Ground.phase }], guard := none }) (v := ?_) rfl (by as_aux_lemma => kernel_rfl) (by as_aux_lemma => kernel_rfl) (by as_aux_lemma => kernel_rfl) (fun _ _ _ h => h) (Or.inl ⟨by rfl, ?_⟩) (by assumption) ?_
  rotate_left
  · intro w' hSw
    try dsimp only at hSw
    go_simp
    try with_reducible rfl
  try simp only [Act.put, List.setIfInBounds_toArray, List.set_cons_zero, List.set_cons_succ]
  refine wpAnyH_done (by kernel_rfl) ?_ _
  go_wp2_with fail
  go_ret2
  exact ⟨_, rfl, ZE.out, HBB.out⟩

set_option maxHeartbeats 3200000 in
set_option maxRecDepth 100000 in
theorem rdo_any {w : World} {v : Value} {l : List Ent} (hv : Ents w v l) (hs : ShortE l) (hl : l.length ≤ 900) (u o : List UInt8) (hu : u.length ≤ 4294967296) (ho : o.length ≤ 4294967296) (k : Int) (hk : (Lit.int .i64 k).wf = true) {R : List Ent} {n : Nat} (h : roDo l k u o = (R, n)) :
    Calls Try.prog 38 #[v, .int .i64 k, .string ⟨u.toArray⟩, .string ⟨o.toArray⟩] w fun e w' => ∃ v', e = .returned (.tuple #[v', .int .i64 (n : Int)]) ∧ Ents w' v' R ∧ Below w.heap.size w w' := by
  unfold roDo at h
  cases hm : roMayC l with
  | false =>
    rw [hm] at h
    simp only [Bool.false_and, Bool.false_eq_true, if_false, Prod.mk.injEq] at h
    obtain ⟨rfl, rfl⟩ := h
    exact rdoA hv hs (by omega) u o hu ho k hm
  | true =>
    cases h1 : idIs u with
    | false =>
      rw [hm, h1] at h
      simp only [Bool.false_and, Bool.true_and, Bool.false_eq_true, if_false, Prod.mk.injEq] at h
      obtain ⟨rfl, rfl⟩ := h
      exact rdoB hv hs (by omega) u o hu ho k hm h1
    | true =>
      cases h2 : idIs o with
      | false =>
        rw [hm, h1, h2] at h
        simp only [Bool.false_and, Bool.true_and, Bool.false_eq_true, if_false, Prod.mk.injEq] at h
        obtain ⟨rfl, rfl⟩ := h
        exact rdoC hv hs (by omega) u o hu ho k hm h1 h2
      | true =>
        by_cases h3 : u = o
        · rw [hm, h1, h2] at h
          simp only [h3, decide_true, Bool.not_true, Bool.false_and, Bool.true_and, Bool.false_eq_true, if_false, Prod.mk.injEq] at h
          obtain ⟨rfl, rfl⟩ := h
          exact rdoD hv hs (by omega) u o hu ho k hm h1 h2 (by simpa using h3)
        · have h3' : (u == o) = false := by rw [beq_eq_false_iff_ne]; exact h3
          obtain ⟨⟨i1, i2, i3, i4, i5⟩, hi⟩ : ∃ r, roIt l u o = r := ⟨_, rfl⟩
          obtain ⟨⟨j1, j2, j3, j4, j5⟩, hj⟩ : ∃ r, roIt l o u = r := ⟨_, rfl⟩
          obtain ⟨q, hq⟩ : ∃ q, (l.any fun x => entIs x ⟨u, o, It.zero⟩) = q := ⟨_, rfl⟩
          obtain ⟨⟨⟨a1, a2, a3, a4, a5⟩, ⟨b1, b2, b3, b4, b5⟩, er⟩, hact⟩ : ∃ r, suAct ⟨i1, i2, i3, i4, i5⟩ ⟨j1, j2, j3, j4, j5⟩ k = r := ⟨_, rfl⟩
          by_cases hr : 1 ≤ k ∧ k ≤ 6
          · rw [hm, h1, h2, hi, hj, hact, hq] at h
            simp only [h3, hr.1, hr.2, decide_false, decide_true, Bool.not_false, Bool.and_self, if_true] at h
            by_cases he : er = 0
            · subst he
              rw [if_neg (by simp)] at h
              have hmr := roMay_rise hm
              cases q with
              | false =>
                cases gu : decide (16 ≤ (roOf l u).length) with
                | true =>
                  rw [gu] at h
                  simp only [Bool.not_false, Bool.true_and, Bool.true_or, if_true, Prod.mk.injEq] at h
                  obtain ⟨rfl, rfl⟩ := h
                  exact rdoF1 hv hs hl u o hu ho k hm h1 h2 h3' hi hj hq rfl hk hact rfl gu
                | false =>
                  cases go : decide (16 ≤ (roOf l o).length) with
                  | true =>
                    rw [gu, go] at h
                    simp only [Bool.not_false, Bool.true_and, Bool.or_true, if_true, Prod.mk.injEq] at h
                    obtain ⟨rfl, rfl⟩ := h
                    exact rdoF2 hv hs hl u o hu ho k hm h1 h2 h3' hi hj hq rfl hk hact rfl gu go
                  | false =>
                    rw [gu, go] at h
                    simp only [Bool.or_self, Bool.and_false, Bool.false_eq_true, if_false, Prod.mk.injEq] at h
                    obtain ⟨rfl, rfl⟩ := h
                    cases ga : suEmpty ⟨a1, a2, a3, a4, a5⟩ with
                    | true =>
                      cases gb : suEmpty ⟨b1, b2, b3, b4, b5⟩ with
                      | true =>
                        simp only [Bool.and_self, Bool.not_true, roSet_drop]
                        exact rdoG2 hv hs hl u o hu ho k hm h1 h2 h3' hi hj hq rfl hk hact rfl gu go ga gb
                      | false =>
                        simp only [Bool.and_false, Bool.not_false]
                        rw [roSet_keep (roSet_rise hmr _ _), roSet_keep hmr]
                        exact rdoH4 hv hs hl u o hu ho k hm h1 h2 h3' hi hj hq rfl hk hact rfl gu go ga gb
                    | false =>
                      simp only [Bool.false_and, Bool.not_false]
                      rw [roSet_keep (roSet_rise hmr _ _), roSet_keep hmr]
                      exact rdoH3 hv hs hl u o hu ho k hm h1 h2 h3' hi hj hq rfl hk hact rfl gu go ga
              | true =>
                simp only [Bool.not_true, Bool.false_and, Bool.false_eq_true, if_false, Prod.mk.injEq] at h
                obtain ⟨rfl, rfl⟩ := h
                cases ga : suEmpty ⟨a1, a2, a3, a4, a5⟩ with
                | true =>
                  cases gb : suEmpty ⟨b1, b2, b3, b4, b5⟩ with
                  | true =>
                    simp only [Bool.and_self, Bool.not_true, roSet_drop]
                    exact rdoG1 hv hs hl u o hu ho k hm h1 h2 h3' hi hj hq rfl hk hact rfl ga gb
                  | false =>
                    simp only [Bool.and_false, Bool.not_false]
                    rw [roSet_keep (roSet_rise hmr _ _), roSet_keep hmr]
                    exact rdoH2 hv hs hl u o hu ho k hm h1 h2 h3' hi hj hq rfl hk hact rfl ga gb
                | false =>
                  simp only [Bool.false_and, Bool.not_false]
                  rw [roSet_keep (roSet_rise hmr _ _), roSet_keep hmr]
                  exact rdoH1 hv hs hl u o hu ho k hm h1 h2 h3' hi hj hq rfl hk hact rfl ga
            · rw [if_pos he] at h
              simp only [Prod.mk.injEq] at h
              obtain ⟨rfl, rfl⟩ := h
              exact rdoE hv hs (by omega) u o hu ho k hm h1 h2 h3' hi hj hq rfl hk hact he
          · have hcond : (decide (1 ≤ k) && decide (k ≤ 6)) = false := by
              rw [Bool.eq_false_iff]
              intro h'
              simp only [Bool.and_eq_true, decide_eq_true_eq] at h'
              exact hr h'
            rw [hm, h1, h2, hcond] at h
            simp only [Bool.and_false, Bool.false_eq_true, if_false, Prod.mk.injEq] at h
            obtain ⟨rfl, rfl⟩ := h
            have hlow := suAct_low (a := ⟨i1, i2, i3, i4, i5⟩) (b := ⟨j1, j2, j3, j4, j5⟩) (k := k) (by omega)
            exact rdoE hv hs (by omega) u o hu ho k hm h1 h2 h3' hi hj hq rfl hk hlow (by decide)

end Go.Proofs.Ytndicdomdndjaaa

end

section

/-
  LAYER 8, PLAIN: who watches.
-/
namespace Go.Proofs.Ytndicdomdndjaaa

/-- Of an Owner, or on a Contact. -/
def roNearB (c : List UInt8) (e : Ent) : Bool := decide (e.o = c) || decide (e.c = c)

def roNear (l : List Ent) (c : List UInt8) : List Ent := l.filter (roNearB c)

/-- An entry of one who sees c. -/
def roWB (l : List Ent) (c : List UInt8) (e : Ent) : Bool := decide (e.c = c) && suSees e.it (roIt l c e.o)

def roWat (l : List Ent) (c : List UInt8) : List (List UInt8) := (l.filter (roWB l c)).map (·.o)

/-- The owners so far. -/
def roWats (l : List Ent) (c : List UInt8) (k : Nat) : List (List UInt8) := ((l.take k).filter (roWB l c)).map (·.o)

end Go.Proofs.Ytndicdomdndjaaa

end

section

/-
  slices.SortStableFunc OF ENTRIES THAT RISE ALREADY: nothing turns. Insertion; few entries.
-/
namespace Go.Proofs.Ytndicdomdndjaaa
open Go.RowKit

end Go.Proofs.Ytndicdomdndjaaa

end

section

/-
  slices.SortStableFunc OF FEW ENTRIES THAT RISE ALREADY.
-/
namespace Go.Proofs.Ytndicdomdndjaaa
open Go.RowKit

end Go.Proofs.Ytndicdomdndjaaa

end

section

/-
  THE CONTRACTS OF THE DOCUMENT'S Few AND Same.
-/
namespace Go.Proofs.Ytndicdomdndjaaa
open Go.RowKit

theorem Try.infoStr : (Try.prog.info? 9).map (fun i => (i.zero, i.size, i.bytes)) = some (some (.string ⟨#[]⟩), 1, 16) := by kernel_rfl

def fewB (ls : List (List UInt8)) : Bool := decide (ls.length ≤ 30) && ls.all fun t => decide (t.length ≤ 30)

theorem getD_some {ls : List (List UInt8)} {k : Nat} (h : k < ls.length) : ls[k]? = some (ls.getD k []) := by simp [List.getD, List.getElem?_eq_getElem h]

set_option maxHeartbeats 800000 in
set_option maxRecDepth 100000 in
/-- Two lists that are the same. -/
theorem same_yes {w : World} {v u : Value} {ls : List (List UInt8)} (hv : Texts w v ls) (hu : Texts w u ls) (hl : ls.length ≤ 4294967296) :
    Calls Try.prog 20 #[v, u] w fun e w' => e = .returned (.bool true) ∧ Below w.heap.size w w' := by
  have HV := Lib.hid hv
  have HU := Lib.hid hu
  obtain ⟨a, cap, rfl, _, _, _, _⟩ := hv
  obtain ⟨a2, cap2, rfl, _, _, _, _⟩ := hu
  go_enter Try.func20, Try.ntmps20
  go_wp2_with fail
  go_loopw [5] (fun i wr => ∃ k : Nat, k ≤ ls.length ∧ i = .int .i64 k ∧ Below w.heap.size w wr) (fun i _ => ls.length - (intOf i).toNat)
  case atStart => exact ⟨0, by omega, rfl, Below.refl _ _⟩
  case round =>
    obtain ⟨k, hk, rfl, hnx⟩ := hrel
    have HN := Lib.hid hnx
    by_cases hlt : k < ls.length
    · obtain ⟨b1, o1, e1, hc1⟩ : ∃ b1 o1, a = some ⟨b1, o1, none⟩ ∧ wr.cell? ⟨b1, o1 + k, none⟩ = some (encS (ls.getD k [])) := by
        obtain ⟨a', cap', e, _, _, _, h⟩ := HV.out.later HN.out
        simp only [Value.slice.injEq] at e
        rcases h with h | ⟨b, off, e', _, hc⟩
        · rw [h] at hlt; simp at hlt
        · exact ⟨b, off, e.1.trans e', hc k hlt⟩
      obtain ⟨b2, o2, e2, hc2⟩ : ∃ b1 o1, a2 = some ⟨b1, o1, none⟩ ∧ wr.cell? ⟨b1, o1 + k, none⟩ = some (encS (ls.getD k [])) := by
        obtain ⟨a', cap', e, _, _, _, h⟩ := HU.out.later HN.out
        simp only [Value.slice.injEq] at e
        rcases h with h | ⟨b, off, e', _, hc⟩
        · rw [h] at hlt; simp at hlt
        · exact ⟨b, off, e.1.trans e', hc k hlt⟩
      subst e1 e2
      unfold encS at hc1 hc2
      obtain ⟨x, hx⟩ : ∃ x, ls.getD k [] = x := ⟨_, rfl⟩
      rw [hx] at hc1 hc2
      clear hx hnx
      go_wp2_with fail
      go_region
      go_wp2_with fail
      go_roundw
      case rel => exact ⟨k + 1, by omega, by go_num, HN.out.drew⟩
      case measure => simp [intOf]; omega
    · obtain rfl : k = ls.length := by omega
      clear hnx
      go_wp2_with fail
      go_ret
      exact ⟨rfl, HN.out⟩

end Go.Proofs.Ytndicdomdndjaaa

end

section

/-
  THE CONTRACTS OF THE DOCUMENT'S put AND Merge.
-/
namespace Go.Proofs.Ytndicdomdndjaaa
open Go.RowKit

/-- What Merge hands to put: nil, or a row that is not empty. -/
def Heaped (w : World) (v : Value) (ls : List (List UInt8)) : Prop := Texts w v ls ∧ (ls = [] → v = .slice none 0 0)

end Go.Proofs.Ytndicdomdndjaaa

end

section

/-
  THE CONTRACT OF THE DOCUMENT'S Merge.
-/
namespace Go.Proofs.Ytndicdomdndjaaa
open Go.RowKit

theorem Heaped.later {w w' : World} {v : Value} {ls : List (List UInt8)} (h : Heaped w v ls) (hb : Below w.heap.size w w') : Heaped w' v ls := ⟨h.1.later hb, h.2⟩

/-- A cell of a row, in a later world. -/
theorem Texts.cell {w wr : World} {a : Option Addr} {n cap : Nat} {ls : List (List UInt8)} (h : Texts w (.slice a n cap) ls) (hb : Below w.heap.size w wr) (k : Nat) (hk : k < ls.length) :
    ∃ b off, a = some ⟨b, off, none⟩ ∧ wr.cell? ⟨b, off + k, none⟩ = some (.string ⟨(ls.getD k []).toArray⟩) := by
  obtain ⟨a', cap', e, _, _, _, h⟩ := h.later hb
  simp only [Value.slice.injEq] at e
  rcases h with h | ⟨b, off, e', _, hc⟩
  · rw [h] at hk; simp at hk
  · exact ⟨b, off, e.1.trans e', hc k hk⟩

end Go.Proofs.Ytndicdomdndjaaa

end

section

/-
  THE CONTRACTS OF slices.Grow (of nil) AND slices.Concat (of two rows of texts), AT THIS PROGRAM.
-/
namespace Go.Proofs.Ytndicdomdndjaaa
open Go.RowKit

theorem zeros_size (z : Value) (hz : z.cells.size = 1) (n : Nat) : (Builtin.zeroCells z.cells n).size = n := by
  unfold Builtin.zeroCells
  simp [hz]

set_option maxHeartbeats 800000 in
set_option maxRecDepth 100000 in
theorem grow_nil (n : Nat) (hn : n ≤ 1000) (w : World) :
    Calls Try.prog 104 #[.slice none 0 0, .int .i64 n] w fun e w' => ∃ v, e = .returned v ∧ OwnT w' w.heap.size 9 v [] ∧ Below w.heap.size w w' := by
  obtain ⟨i0, hi, hz0, hz1, hz2⟩ := info_parts Try.infoStr
  by_cases h0 : n = 0
  · subst h0
    go_enter Try.func104, Try.ntmps104
    go_wp2_with fail
    go_ret
    exact ⟨_, rfl, World.ownsRow_nil _ _ _ _, Below.refl _ _⟩
  · have hrz := fun ty => Lib.run_append_nil_zeros (P := Try.prog) w 72 3 ty 9 i0 _ .i64 .i64 Try.underlying72 Try.underlying3 hi hz0 n (by omega) (by omega) (by omega) (by rw [hz2]; omega)
    have hG1 := grownCap_ge w n 0 9
    have hG2 := grownCap_le_maxLen w n 0 9 (by unfold maxLen; omega)
    obtain ⟨G, hG⟩ : ∃ G, G = grownCap w n 0 9 := ⟨_, rfl⟩
    rw [← hG] at hrz hG1 hG2
    have hO : Hid (OwnT (w.drew.alloc (.cells (Builtin.zeroCells (Value.string ⟨#[]⟩).cells n ++ Builtin.zeroCells (Value.string ⟨#[]⟩).cells (G - n)) 9)) w.heap.size 9 (.slice (some ⟨w.heap.size, 0, none⟩) 0 G) []) := by
      refine World.ownsRow_made (base := w.heap.size) w.drew _ G (Nat.le_refl _) hG2 ?_
      rw [Array.size_append, zeros_size _ rfl, zeros_size _ rfl]
      omega
    have h1 : 0 < n := by omega
    unfold maxLen at hG2
    clear hG h0
    go_enter Try.func104, Try.ntmps104
    go_wp2_with (at_builtin; go_must (refine Lib.wpList_append_run _ rfl _ _ _ _ rfl _ _ rfl rfl _ _ (hrz _) ?_))
    go_wp2_with fail
    go_ret
    exact ⟨_, rfl, hO.out, (Below.refl _ _).drew.alloc (Nat.le_refl _) _⟩

/-- A slice of texts as the source of an append. -/
theorem texts_src {W : World} {a : Option Addr} {n cap : Nat} {ls : List (List UInt8)} (h : Texts W (.slice a n cap) ls) :
    n = ls.length ∧ (a = none → cap = 0 ∧ ls = []) ∧ (∀ ad, a = some ad → ∀ j u, (ls.map encS)[j]? = some u → W.cell? (ad.add j) = some u) := by
  obtain ⟨a', cap', e, h1, h2, h3, h4⟩ := h
  simp only [Value.slice.injEq] at e
  obtain ⟨rfl, rfl, rfl⟩ := e
  refine ⟨rfl, fun e => ⟨h3 e, List.length_eq_zero_iff.1 (by have := h3 e; omega)⟩, ?_⟩
  rintro ad rfl j u hu
  have hj : j < ls.length := by
    have := (List.getElem?_eq_some_iff.1 hu).1
    simpa using this
  rcases h4 with h | ⟨b, off, e, _, hc⟩
  · rw [h] at hj; simp at hj
  · obtain rfl := Option.some.inj e
    rw [List.getElem?_map, getD_some hj] at hu
    simp only [Option.map_some, Option.some.injEq] at hu
    rw [Addr.add_lit, hc j hj, hu]

set_option maxHeartbeats 1600000 in
set_option maxRecDepth 100000 in
theorem concat_sum {w : World} {va vb : Value} {ls ms : List (List UInt8)} (ha : Texts w va ls) (hb : Texts w vb ms) (hlm : ls.length + ms.length ≤ 1000)
    (B : Nat) (k0 : w.cell? ⟨B, 0, none⟩ = some va) (k1 : w.cell? ⟨B, 1, none⟩ = some vb) :
    Calls Try.prog 80 #[.slice (some ⟨B, 0, none⟩) 2 2] w fun e w' => ∃ v, e = .returned v ∧ OwnT w' w.heap.size 9 v (ls ++ ms) ∧ Below w.heap.size w w' := by
  have hl : ls.length ≤ 1000 := by omega
  have hm : ms.length ≤ 1000 := by omega
  obtain ⟨i0, hi, hz0, hz1, hz2⟩ := info_parts Try.infoStr
  have HA := Lib.hid ha
  have HB := Lib.hid hb
  obtain ⟨a, cap, rfl, _, _, _, _⟩ := ha
  obtain ⟨a2, cap2, rfl, _, _, _, _⟩ := hb
  have HG := Lib.hid (grow_nil (ls.length + ms.length) (by omega))
  have K0 := Lib.hid k0
  have K1 := Lib.hid k1
  have hB := World.block_lt_of_cell? w _ k0
  simp only at hB
  go_enter Try.func80, Try.ntmps80
  go_wp2_with fail
  refine wp_loop_rounds 3 ?_
  rw [rounds_succ]
  go_wp2_with fail
  rw [rounds_succ]
  go_wp2_with fail
  rw [rounds_succ]
  go_wp2_with fail
  refine (HG.out _).mono ?_
  rintro e w1 ⟨v1, rfl, ho1, hb1⟩
  have HO1 := Lib.hid ho1
  have HB1 := Lib.hid hb1
  have k0 := cell_after K0.out hb1
  have k1 := cell_after K1.out hb1
  have hA1 := Lib.hid (texts_src (HA.out.later hb1))
  have hsz1 := hb1.size
  clear hb1 ho1
  go_wp2_with fail
  refine wp_loop_rounds 3 ?_
  rw [rounds_succ]
  go_wp2_with (at_builtin; go_must (refine wpList_append_texts rfl _ _ 72 rfl w.heap.size 9 i0 _ 16 Try.underlying72 hi hz0 hz1 hz2 rfl _ _ rfl (by exact HO1.out) a ls.length cap ls rfl rfl hA1.out.2.1 hA1.out.2.2 (by simp; omega) (by decide) hsz1 ?_))
  intro v2 w2 hown2 hb2
  have HB2 : Hid (Below w.heap.size w w2) := HB1.out.trans hb2
  have hsz2 : w.heap.size ≤ w2.heap.size := HB2.out.size
  have k1 := cell_after K1.out HB2.out
  have hA2 := Lib.hid (texts_src (HB.out.later HB2.out))
  have HO2 := Lib.hid hown2
  clear hb2 hown2 k0
  go_wp2_with fail
  rw [rounds_succ]
  go_wp2_with (at_builtin; go_must (refine wpList_append_texts rfl _ _ 72 rfl w.heap.size 9 i0 _ 16 Try.underlying72 hi hz0 hz1 hz2 rfl _ _ rfl (by exact HO2.out) a2 ms.length cap2 ms rfl rfl hA2.out.2.1 hA2.out.2.2 (by first | omega | (simp; omega)) (by decide) hsz2 ?_))
  intro v3 w3 hown3 hb3
  have HB3 : Hid (Below w.heap.size w w3) := HB2.out.trans hb3
  have HO3 := Lib.hid hown3
  clear hb3 hown3 k1
  go_wp2_with fail
  rw [rounds_succ]
  go_wp2_with fail
  go_ret
  exact ⟨_, rfl, by have := HO3.out; simpa using this, HB3.out⟩

theorem concat_any {w : World} {va vb : Value} {ls ms : List (List UInt8)} (ha : Texts w va ls) (hb : Texts w vb ms) (hl : ls.length ≤ 100) (hm : ms.length ≤ 100)
    (B : Nat) (k0 : w.cell? ⟨B, 0, none⟩ = some va) (k1 : w.cell? ⟨B, 1, none⟩ = some vb) :
    Calls Try.prog 80 #[.slice (some ⟨B, 0, none⟩) 2 2] w fun e w' => ∃ v, e = .returned v ∧ OwnT w' w.heap.size 9 v (ls ++ ms) ∧ Below w.heap.size w w' :=
  concat_sum ha hb (by omega) B k0 k1

end Go.Proofs.Ytndicdomdndjaaa

end

section

/-
  THE CONTRACT OF ident.Merge: the lists as one, sorted, each text once.
-/
namespace Go.Proofs.Ytndicdomdndjaaa
open Go.RowKit Go.Lib Go.Sort

theorem encS_cell : OneCell encS := fun _ => rfl

theorem eql_S : EqlAt Try.prog 9 encS (fun x y => decide (x = y)) :=
  ⟨fun x y w => by rw [show encS x = .string ⟨x.toArray⟩ from rfl, show encS y = .string ⟨y.toArray⟩ from rfl, (EqlAt.string Try.prog 9).1]; by_cases h : x = y <;> simp [h, ByteArray.toList_eq],
   fun op a b x y w => GuardAt.string Try.prog 9 op a b _ _ w⟩

theorem neq_S : NeqAt Try.prog 9 encS (fun x y => decide (x = y)) :=
  ⟨fun x y w => by rw [show encS x = .string ⟨x.toArray⟩ from rfl, show encS y = .string ⟨y.toArray⟩ from rfl, (NeqAt.string Try.prog 9).1]; by_cases h : x = y <;> simp [h, ByteArray.toList_eq],
   fun op a b x y w => GuardAt.string Try.prog 9 op a b _ _ w⟩

theorem compare_lays (blk off size : Nat) (w : World) : CmpLays1 Try.prog 82 #[] encS idCmp blk off size w :=
  fun m os dk _ x y => (compare_any x y (sortWorld encS w blk off m dk os)).mono fun _ _ ⟨he, o, hw⟩ => ⟨he, 0, #[o], by rw [hw, alloc_eq_grow]; rfl⟩

theorem below_grow {B : Nat} {w0 w : World} (h : Below B w0 w) (hB : B ≤ w.heap.size) (os : Array Obj) : Below B w0 (grow w os) :=
  ⟨h.os, h.tape, h.output, by have := h.size; simp only [grow, Array.size_append]; omega, fun k hk => by
    rw [← h.block k hk]
    simp only [grow]
    rw [Array.getElem?_append_left (by omega)]⟩

/-- The row behind the sort. -/
theorem sorted_row {w1 : World} {g n : Nat} {d d' : Array (List UInt8)} {os : Array Obj} (hH : Holds encS w1 g 0 d) (hg : g < w1.heap.size) (hd : d'.size = d.size) :
    Holds encS (sortWorld encS w1 g 0 n d' os) g 0 d' := by
  unfold sortWorld
  refine holds_grow encS _ os g 0 d' ?_ (holds_putRow encS _ g 0 d d' (holds_ahead encS w1 n g 0 d hH) hd)
  simpa [putRow, mapBlock, Sort.ahead] using hg

theorem sorted_below {B : Nat} {w0 w1 : World} {g n : Nat} {d' : Array (List UInt8)} {os : Array Obj} (h : Below B w0 w1) (hB : B ≤ w1.heap.size) (hg : B ≤ g) : Below B w0 (sortWorld encS w1 g 0 n d' os) := by
  unfold sortWorld
  refine below_grow (below_putRow h hg) ?_ os
  simpa [putRow, mapBlock, Sort.ahead] using hB

/-- The row behind Compact. -/
theorem compact_texts {w2 : World} {g q cap : Nat} {d : Array (List UInt8)} (hH : Holds encS w2 g 0 d) (hg : g < w2.heap.size) (hn : d.size ≤ cap) (hc : cap ≤ maxLen) {ls : List (List UInt8)} (hle : ls.length ≤ d.size) :
    Texts (putRow encS (Sort.ahead w2 q) g 0 (ls ++ List.replicate (d.size - ls.length) []).toArray) (.slice (some ⟨g, 0, none⟩) ls.length cap) ls := by
  refine ⟨some ⟨g, 0, none⟩, cap, rfl, by omega, hc, (fun e => by cases e), .inr ⟨g, 0, rfl, ?_, fun i hi => ?_⟩⟩
  · simpa [putRow, mapBlock, Sort.ahead] using hg
  · have h := holds_putRow encS (Sort.ahead w2 q) g 0 d (ls ++ List.replicate (d.size - ls.length) []).toArray (holds_ahead encS w2 q g 0 d hH) (by simp; omega)
    have h1 := (h i (by simp; omega)).1
    rw [h1]
    congr 2
    rw [getElem!_pos _ i (by simp; omega)]
    simp [List.getD, hi]

theorem compact_len (d : Array (List UInt8)) : (compactUpTo d d.size).length ≤ d.size := by
  unfold compactUpTo
  rw [List.length_map]
  exact Nat.le_trans (List.length_filter_le _ _) (by simp)

set_option maxHeartbeats 1600000 in
set_option maxRecDepth 100000 in
theorem merge_any {w : World} {va vb : Value} {ls ms : List (List UInt8)} (ha : Texts w va ls) (hb : Texts w vb ms) (hl : ls.length ≤ 100) (hm : ms.length ≤ 100) :
    Calls Try.prog 43 #[va, vb] w fun e w' => ∃ v, e = .returned v ∧ Texts w' v (mrg (ls ++ ms)) ∧ Below w.heap.size w w' := by
  have eg : ∀ args w, (callFunc 82 args).run Try.prog w = .ok (.enter 82 args) w := enters_of Try.func82 (by kernel_rfl) rfl
  have hB0 : Below w.heap.size w (w.alloc (.cells #[va, vb] 72)) := (Below.refl _ _).alloc (Nat.le_refl _) _
  have HC := Lib.hid (concat_any (ha.later hB0) (hb.later hB0) hl hm w.heap.size (by simp) (by simp))
  have HB0 := Lib.hid hB0
  obtain ⟨a, cap, rfl, _, _, _, _⟩ := ha
  obtain ⟨a2, cap2, rfl, _, _, _, _⟩ := hb
  clear hB0
  go_enter Try.func43, Try.ntmps43
  go_wp2_with fail
  refine HC.out.mono ?_
  rintro e w1 ⟨v1, rfl, ho1, hb1⟩
  have HB1 := Lib.hid (below2' HB0.out hb1)
  have hsz1 : w.heap.size + 1 ≤ w1.heap.size := by have := hb1.size; simpa using this
  have HO1 := Lib.hid ho1
  clear hb1 ho1 HC HB0
  by_cases h0 : ls ++ ms = []
  · have hr : Hid (mrg (ls ++ ms) = []) := by show _ = _; rw [h0]; rfl
    obtain ⟨p, c, rfl, _⟩ : ∃ p c, v1 = .slice p 0 c ∧ True := by
      obtain ⟨p, c, e, _⟩ := HO1.out.texts
      rw [h0] at e
      exact ⟨p, c, e, trivial⟩
    have HT := Lib.hid HO1.out.texts
    have HS := Lib.hid (Try.slices_SortFunc_none (α := List UInt8) p c (.func (.func 82) #[] #[]) w1)
    have HK := Lib.hid (Try.slices_Compact_string_empty p c w1)
    have H0 := Lib.hid h0
    clear h0
    go_wp2_with fail
    refine HS.out.mono ?_
    rintro e w' ⟨rfl, rfl⟩
    go_wp2_with fail
    refine HK.out.mono ?_
    rintro e w' ⟨rfl, rfl⟩
    go_wp2_with fail
    go_ret
    exact ⟨_, rfl, by rw [hr.out]; have := HT.out; rw [H0.out] at this; exact this, HB1.out⟩
  · have hv : v1 ≠ .slice none 0 0 := by
      intro e
      obtain ⟨p, c, e', _⟩ := HO1.out.texts
      rw [e'] at e
      simp only [Value.slice.injEq] at e
      exact h0 (List.length_eq_zero_iff.1 e.2.1)
    obtain ⟨g, c, rfl, hg1, hg2, hn, hc, _, hH⟩ := holds_of_ownsRow (zs := ls ++ ms) (HO1.out : World.ownsRow _ _ _ _ _ _ _) hv
    have hg1' : w.heap.size + 1 ≤ g := by simpa using hg1
    have HS := Lib.hid (Try.slices_SortFunc_total encS (fun _ => rfl) idCmp idSWO 82 #[] g 0 c (ls ++ ms).toArray w1 eg (compare_lays g 0 _ w1) hH hg2 (by simp; omega) idTot)
    have hlen : (ls ++ ms).length = ls.length + ms.length := List.length_append
    simp only [List.size_toArray, hlen] at HS
    have HH := Lib.hid hH
    rw [hlen] at hn
    clear eg hH hg1 hv h0 hlen
    go_wp2_with fail
    refine HS.out.mono ?_
    rintro e w2 ⟨rfl, nn, os, hw2⟩
    have hDl : Hid (Holds encS w2 g 0 ((ls ++ ms).mergeSort fun x y => !(ltOf idCmp) y x).toArray) := by
      show Holds _ _ _ _ _
      rw [hw2]
      exact sorted_row HH.out hg2 (by simp)
    have HB2 : Hid (Below w.heap.size w w2) := by
      show Below _ _ _
      rw [hw2]
      exact sorted_below HB1.out (by omega) (by omega)
    have hg3 : Hid (g < w2.heap.size) := by
      show g < _
      rw [hw2]
      simp only [sortWorld, grow, Array.size_append, putRow, mapBlock, Array.size_modify, Sort.ahead]
      omega
    have hsl : ((ls ++ ms).mergeSort fun x y => !(ltOf idCmp) y x).length = ls.length + ms.length := by simp
    obtain ⟨d, hd⟩ : ∃ d, d = ((ls ++ ms).mergeSort fun x y => !(ltOf idCmp) y x).toArray := ⟨_, rfl⟩
    have hds : d.size = ls.length + ms.length := by rw [hd]; simp
    have HM : Hid (compactUpTo d d.size = mrg (ls ++ ms)) := by show _ = _; rw [hd]; exact sort_compact _
    rw [← hd] at hDl
    have HK := Lib.hid (Try.slices_Compact encS encS_cell eql_S neq_S [] (fun _ => by kernel_rfl) g 0 c d w2 hDl.out (by omega) (by omega))
    have hcl := compact_len d
    rw [HM.out] at HK hcl
    rw [hds] at HK
    have HT : Hid (∀ q, Texts (putRow encS (Sort.ahead w2 q) g 0 (mrg (ls ++ ms) ++ List.replicate (d.size - (mrg (ls ++ ms)).length) []).toArray) (.slice (some ⟨g, 0, none⟩) (mrg (ls ++ ms)).length c) (mrg (ls ++ ms))) :=
      fun q => compact_texts hDl.out hg3.out (by omega) hc hcl
    rw [hds] at HT
    clear hw2 hd hds hsl HM HS hDl hcl HH
    obtain ⟨r, hr⟩ : ∃ r, mrg (ls ++ ms) = r := ⟨_, rfl⟩
    rw [hr] at HK HT
    have HR := Lib.hid hr
    clear hr
    go_wp2_with fail
    refine HK.out.mono ?_
    rintro e w3 ⟨rfl, q, hw3⟩
    have HT3 := HT.out q
    rw [← hw3] at HT3
    have HB3 : Hid (Below w.heap.size w w3) := by
      show Below _ _ _
      rw [hw3]
      exact below_putRow HB2.out (by omega)
    have HT3' := Lib.hid HT3
    clear hw3 HT3 HK HT
    go_wp2_with fail
    go_ret
    exact ⟨_, rfl, by rw [HR.out]; exact HT3'.out, HB3.out⟩

end Go.Proofs.Ytndicdomdndjaaa

end

section

/-
  LAYER 8, THE CODE: about; Watchers, where sorting turns nothing.
-/
namespace Go.Proofs.Ytndicdomdndjaaa
open Go.RowKit

end Go.Proofs.Ytndicdomdndjaaa

end

section

/-
  LAYER 8, THE CODE: Watchers, where sorting turns nothing.
-/
namespace Go.Proofs.Ytndicdomdndjaaa
open Go.RowKit

end Go.Proofs.Ytndicdomdndjaaa

end

section

/-
  THE CONTRACT OF live OF LAYER 8's STATEMENTS: it returns true.
-/
namespace Go.Proofs.Ytndicdomdndjaaa
open Go.RowKit

theorem Ents.cut {w : World} {ad : Option Addr} {n cap k : Nat} {l : List Ent} (h : Ents w (.slice ad n cap) l) (hk : k ≤ l.length) : Ents w (.slice ad k cap) (l.take k) := by
  obtain ⟨a', cap', e, h1, h2, h3, h4⟩ := h
  simp only [Value.slice.injEq] at e
  obtain ⟨rfl, rfl, rfl⟩ := e
  have hl : (l.take k).length = k := by rw [List.length_take]; omega
  refine ⟨ad, cap, by rw [hl], by rw [hl]; omega, h2, h3, ?_⟩
  rcases h4 with rfl | ⟨b, off, e, hb, hc⟩
  · exact .inl (by simp)
  · refine .inr ⟨b, off, e, hb, fun i hi => ?_⟩
    rw [hl] at hi
    have := hc i (by omega)
    have e2 : (l.take k).getD i Ent.zero = l.getD i Ent.zero := by simp [List.getD, hi]
    rwa [e2]

def nAnn : List UInt8 := [97, 110, 110]
def nBob : List UInt8 := [98, 111, 98]
def lvM1 : List Ent := [⟨nAnn, nBob, ⟨false, false, false, true, false⟩⟩, ⟨nBob, nAnn, ⟨false, false, true, false, false⟩⟩]
def lvM2 : List Ent := [⟨nAnn, nBob, ⟨false, true, false, false, false⟩⟩, ⟨nBob, nAnn, ⟨true, false, false, false, false⟩⟩]

theorem lv_shortE {l : List Ent} (h : ∀ e ∈ l, e.o.length = 3 ∧ e.c.length = 3) : ShortE l := fun e he => by
  have := h e he
  omega

theorem lvs3 : ShortE (lvM2.take 1) := lv_shortE (by decide)
end Go.Proofs.Ytndicdomdndjaaa

end

section

/-
  LAYER 8, THE DOCUMENT's: Ahead, Few, Same.
-/
namespace Go.Proofs.Ytndicdomdndjaaa
open Go.RowKit

def fewE (e : Ent) : Bool := decide (e.o.length ≤ 40) && decide (e.c.length ≤ 40)
def fewR (l : List Ent) : Bool := decide (l.length ≤ 80) && l.all fewE

end Go.Proofs.Ytndicdomdndjaaa

end

section

/-
  LAYER 8, THE DOCUMENT's: May.
-/
namespace Go.Proofs.Ytndicdomdndjaaa
open Go.RowKit

end Go.Proofs.Ytndicdomdndjaaa

end
