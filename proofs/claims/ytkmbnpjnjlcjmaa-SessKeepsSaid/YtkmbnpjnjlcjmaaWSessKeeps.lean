/-
  THE WALK OF SessKeeps.
-/
import Derived.Test.YtkmbnpjnjlcjmaaSesLive
import Derived.Test.YtkmbnpjnjlcjmaaBesBest
import Derived.Test.YtkmbnpjnjlcjmaaSeqS
import Derived.Test.YtkmbnpjnjlcjmaaSesKeep
namespace Go.Proofs.Ytkmbnpjnjlcjmaa
open Go.RowKit

theorem few_shortK {l : List Ses} (h : fewSes l = true) : ShortS l := fun s hs => by
  have := (few_get h).2 s hs
  exact ⟨by omega, by omega⟩

set_option maxHeartbeats 3200000 in
set_option maxRecDepth 100000 in
theorem skeep_1 {w : World} {v : Value} {l : List Ses} (hv : Sess w v l) (su ss : List UInt8) (si sa sb sc : Int) (ot : List UInt8) (hw : fewSes l = false) :
    Calls Try.prog 5 #[v, .agg #[.string ⟨su.toArray⟩, .int .i64 si, .int .i64 sa, .int .i64 sb, .int .i64 sc, .string ⟨ss.toArray⟩], .string ⟨ot.toArray⟩] w fun e w' => e = .returned (.bool true) ∧ Below w.heap.size w w' := by
  have b0 := bl_newZ w (.cells #[.string ⟨su.toArray⟩, .int .i64 si, .int .i64 sa, .int .i64 sb, .int .i64 sc, .string ⟨ss.toArray⟩] 34)
  have HB := Lib.hid b0
  have C := Lib.hid (cellsAt_made (w := w) (cs := #[.string ⟨su.toArray⟩, .int .i64 si, .int .i64 sa, .int .i64 sb, .int .i64 sc, .string ⟨ss.toArray⟩]) (vs := sesVals ⟨su, si, ⟨sa, sb, sc, ss⟩⟩) rfl 34 rfl)
  have V := Lib.hid (hv.later b0)
  have HF := Lib.hid (few09_eq V.out hw)
  obtain ⟨ao, cap, rfl, hm⟩ := hv.open'
  clear b0 hv hw
  go_enter Try.func5, Try.ntmps5
  go_wp2_with fail
  refine HF.out.mono ?_
  rintro e w0 ⟨rfl, rfl⟩
  go_wp2_with fail
  refine (live9 _).mono ?_
  rintro e w1 ⟨rfl, b1⟩
  replace HB := Lib.hid (below2Z HB.out b1)
  clear b1
  go_wp2_with fail
  go_ret
  exact ⟨rfl, HB.out⟩

set_option maxHeartbeats 3200000 in
set_option maxRecDepth 100000 in
theorem skeep_2 {w : World} {v : Value} {l : List Ses} (hv : Sess w v l) (su ss : List UInt8) (si sa sb sc : Int) (ot : List UInt8) (hw : fewSes l = true) (hm9 : seMay l = false) :
    Calls Try.prog 5 #[v, .agg #[.string ⟨su.toArray⟩, .int .i64 si, .int .i64 sa, .int .i64 sb, .int .i64 sc, .string ⟨ss.toArray⟩], .string ⟨ot.toArray⟩] w fun e w' => e = .returned (.bool true) ∧ Below w.heap.size w w' := by
  have b0 := bl_newZ w (.cells #[.string ⟨su.toArray⟩, .int .i64 si, .int .i64 sa, .int .i64 sb, .int .i64 sc, .string ⟨ss.toArray⟩] 34)
  have HB := Lib.hid b0
  have C := Lib.hid (cellsAt_made (w := w) (cs := #[.string ⟨su.toArray⟩, .int .i64 si, .int .i64 sa, .int .i64 sb, .int .i64 sc, .string ⟨ss.toArray⟩]) (vs := sesVals ⟨su, si, ⟨sa, sb, sc, ss⟩⟩) rfl 34 rfl)
  have V := Lib.hid (hv.later b0)
  have HF := Lib.hid (few09_eq V.out hw)
  have HS := Lib.hid (few_shortK hw)
  have HM := Lib.hid hm9
  obtain ⟨ao, cap, rfl, hm⟩ := hv.open'
  clear b0 hv hw hm9
  go_enter Try.func5, Try.ntmps5
  go_wp2_with fail
  refine HF.out.mono ?_
  rintro e w0 ⟨rfl, rfl⟩
  go_wp2_with fail
  refine (rsmay9_any V.out HS.out HM).mono ?_
  rintro e w1 ⟨rfl, b1⟩
  replace HB := Lib.hid (below2Z HB.out b1)
  clear b1
  go_wp2_with fail
  refine (live9 _).mono ?_
  rintro e w2 ⟨rfl, b2⟩
  replace HB := Lib.hid (below2Z HB.out b2)
  clear b2
  go_wp2_with fail
  go_ret
  exact ⟨rfl, HB.out⟩

set_option maxHeartbeats 3200000 in
set_option maxRecDepth 100000 in
theorem skeep_3 {w : World} {v : Value} {l : List Ses} (hv : Sess w v l) (su ss : List UInt8) (si sa sb sc : Int) (ot : List UInt8) (hw : fewSes l = true) (hm9 : seMay l = true) (hs : fewSes [⟨su, si, ⟨sa, sb, sc, ss⟩⟩] = false) :
    Calls Try.prog 5 #[v, .agg #[.string ⟨su.toArray⟩, .int .i64 si, .int .i64 sa, .int .i64 sb, .int .i64 sc, .string ⟨ss.toArray⟩], .string ⟨ot.toArray⟩] w fun e w' => e = .returned (.bool true) ∧ Below w.heap.size w w' := by
  have b0 := bl_newZ w (.cells #[.string ⟨su.toArray⟩, .int .i64 si, .int .i64 sa, .int .i64 sb, .int .i64 sc, .string ⟨ss.toArray⟩] 34)
  have HB := Lib.hid b0
  have C := Lib.hid (cellsAt_made (w := w) (cs := #[.string ⟨su.toArray⟩, .int .i64 si, .int .i64 sa, .int .i64 sb, .int .i64 sc, .string ⟨ss.toArray⟩]) (vs := sesVals ⟨su, si, ⟨sa, sb, sc, ss⟩⟩) rfl 34 rfl)
  have V := Lib.hid (hv.later b0)
  have HF := Lib.hid (few09_eq V.out hw)
  have HS := Lib.hid (few_shortK hw)
  have HM := Lib.hid hm9
  have HF2 : Hid (∀ (w0 : World) (B : Nat), B = w0.heap.size → Calls Try.prog 15 #[.slice (some ⟨B, 0, none⟩) 1 1] (w0.alloc (.cells #[.string ⟨su.toArray⟩, .int .i64 si, .int .i64 sa, .int .i64 sb, .int .i64 sc, .string ⟨ss.toArray⟩] 34)) fun e w1 => e = .returned (.bool false) ∧ w0.alloc (.cells #[.string ⟨su.toArray⟩, .int .i64 si, .int .i64 sa, .int .i64 sb, .int .i64 sc, .string ⟨ss.toArray⟩] 34) = w1) := Lib.hid (fun w0 B hB => few09_eq (rdS_made sesOK (l := [⟨su, si, ⟨sa, sb, sc, ss⟩⟩]) rfl (by simp) hB) hs)
  obtain ⟨ao, cap, rfl, hm⟩ := hv.open'
  clear b0 hv hw hm9
  go_enter Try.func5, Try.ntmps5
  go_wp2_with fail
  refine HF.out.mono ?_
  rintro e w0 ⟨rfl, rfl⟩
  go_wp2_with fail
  refine (rsmay9_any V.out HS.out HM).mono ?_
  rintro e w1 ⟨rfl, b1⟩
  replace V := Lib.hid (V.out.later b1)
  replace C := Lib.hid (C.out.later b1)
  replace HB := Lib.hid (below2Z HB.out b1)
  clear b1
  obtain ⟨c0, c1, c2, c3, c4, c5⟩ := sixS_of C.out
  go_wp2_with fail
  refine (HF2.out _ _ rfl).mono ?_
  rintro e w0 ⟨rfl, rfl⟩
  have b2 := bl_newZ w1 (.cells #[.string ⟨su.toArray⟩, .int .i64 si, .int .i64 sa, .int .i64 sb, .int .i64 sc, .string ⟨ss.toArray⟩] 34)
  replace V := Lib.hid (V.out.later b2)
  replace C := Lib.hid (C.out.later b2)
  replace HB := Lib.hid (below2Z HB.out b2)
  clear b2
  clear c0 c1 c2 c3 c4 c5
  go_wp2_with fail
  refine (live9 _).mono ?_
  rintro e w3 ⟨rfl, b3⟩
  replace HB := Lib.hid (below2Z HB.out b3)
  clear b3
  go_wp2_with fail
  go_ret
  exact ⟨rfl, HB.out⟩

set_option maxHeartbeats 3200000 in
set_option maxRecDepth 100000 in
theorem skeep_4 {w : World} {v : Value} {l : List Ses} (hv : Sess w v l) (su ss : List UInt8) (si sa sb sc : Int) (ot : List UInt8) (hw : fewSes l = true) (hm9 : seMay l = true) (hs : fewSes [⟨su, si, ⟨sa, sb, sc, ss⟩⟩] = true) (ho : ¬ ot.length ≤ 40) :
    Calls Try.prog 5 #[v, .agg #[.string ⟨su.toArray⟩, .int .i64 si, .int .i64 sa, .int .i64 sb, .int .i64 sc, .string ⟨ss.toArray⟩], .string ⟨ot.toArray⟩] w fun e w' => e = .returned (.bool true) ∧ Below w.heap.size w w' := by
  have b0 := bl_newZ w (.cells #[.string ⟨su.toArray⟩, .int .i64 si, .int .i64 sa, .int .i64 sb, .int .i64 sc, .string ⟨ss.toArray⟩] 34)
  have HB := Lib.hid b0
  have C := Lib.hid (cellsAt_made (w := w) (cs := #[.string ⟨su.toArray⟩, .int .i64 si, .int .i64 sa, .int .i64 sb, .int .i64 sc, .string ⟨ss.toArray⟩]) (vs := sesVals ⟨su, si, ⟨sa, sb, sc, ss⟩⟩) rfl 34 rfl)
  have V := Lib.hid (hv.later b0)
  have HF := Lib.hid (few09_eq V.out hw)
  have HS := Lib.hid (few_shortK hw)
  have HM := Lib.hid hm9
  have HF2 : Hid (∀ (w0 : World) (B : Nat), B = w0.heap.size → Calls Try.prog 15 #[.slice (some ⟨B, 0, none⟩) 1 1] (w0.alloc (.cells #[.string ⟨su.toArray⟩, .int .i64 si, .int .i64 sa, .int .i64 sb, .int .i64 sc, .string ⟨ss.toArray⟩] 34)) fun e w1 => e = .returned (.bool true) ∧ w0.alloc (.cells #[.string ⟨su.toArray⟩, .int .i64 si, .int .i64 sa, .int .i64 sb, .int .i64 sc, .string ⟨ss.toArray⟩] 34) = w1) := Lib.hid (fun w0 B hB => few09_eq (rdS_made sesOK (l := [⟨su, si, ⟨sa, sb, sc, ss⟩⟩]) rfl (by simp) hB) hs)
  have t40 : decide (40 < (ot.length : Int)) = true := by rw [decide_eq_true_eq]; omega
  clear ho
  obtain ⟨ao, cap, rfl, hm⟩ := hv.open'
  clear b0 hv hw hm9
  go_enter Try.func5, Try.ntmps5
  go_wp2_with fail
  refine HF.out.mono ?_
  rintro e w0 ⟨rfl, rfl⟩
  go_wp2_with fail
  refine (rsmay9_any V.out HS.out HM).mono ?_
  rintro e w1 ⟨rfl, b1⟩
  replace V := Lib.hid (V.out.later b1)
  replace C := Lib.hid (C.out.later b1)
  replace HB := Lib.hid (below2Z HB.out b1)
  clear b1
  obtain ⟨c0, c1, c2, c3, c4, c5⟩ := sixS_of C.out
  go_wp2_with fail
  refine (HF2.out _ _ rfl).mono ?_
  rintro e w0 ⟨rfl, rfl⟩
  have b2 := bl_newZ w1 (.cells #[.string ⟨su.toArray⟩, .int .i64 si, .int .i64 sa, .int .i64 sb, .int .i64 sc, .string ⟨ss.toArray⟩] 34)
  replace V := Lib.hid (V.out.later b2)
  replace C := Lib.hid (C.out.later b2)
  replace HB := Lib.hid (below2Z HB.out b2)
  clear b2
  clear c0 c1 c2 c3 c4 c5
  go_wp2_with fail
  refine (live9 _).mono ?_
  rintro e w3 ⟨rfl, b3⟩
  replace HB := Lib.hid (below2Z HB.out b3)
  clear b3
  go_wp2_with fail
  go_ret
  exact ⟨rfl, HB.out⟩

set_option maxHeartbeats 3200000 in
set_option maxRecDepth 100000 in
theorem skeep_5 {w : World} {v : Value} {l : List Ses} (hv : Sess w v l) (su ss : List UInt8) (si sa sb sc : Int) (ot : List UInt8) (hw : fewSes l = true) (hm9 : seMay l = true) (hs : fewSes [⟨su, si, ⟨sa, sb, sc, ss⟩⟩] = true) (ho : ot.length ≤ 40) {n : Nat} (hn : n ≠ 0) (hp : sePut l ⟨su, si, ⟨sa, sb, sc, ss⟩⟩ = (l, n)) :
    Calls Try.prog 5 #[v, .agg #[.string ⟨su.toArray⟩, .int .i64 si, .int .i64 sa, .int .i64 sb, .int .i64 sc, .string ⟨ss.toArray⟩], .string ⟨ot.toArray⟩] w fun e w' => e = .returned (.bool true) ∧ Below w.heap.size w w' := by
  have b0 := bl_newZ w (.cells #[.string ⟨su.toArray⟩, .int .i64 si, .int .i64 sa, .int .i64 sb, .int .i64 sc, .string ⟨ss.toArray⟩] 34)
  have HB := Lib.hid b0
  have C := Lib.hid (cellsAt_made (w := w) (cs := #[.string ⟨su.toArray⟩, .int .i64 si, .int .i64 sa, .int .i64 sb, .int .i64 sc, .string ⟨ss.toArray⟩]) (vs := sesVals ⟨su, si, ⟨sa, sb, sc, ss⟩⟩) rfl 34 rfl)
  have V := Lib.hid (hv.later b0)
  have HF := Lib.hid (few09_eq V.out hw)
  have HS := Lib.hid (few_shortK hw)
  have HM := Lib.hid hm9
  have HF2 : Hid (∀ (w0 : World) (B : Nat), B = w0.heap.size → Calls Try.prog 15 #[.slice (some ⟨B, 0, none⟩) 1 1] (w0.alloc (.cells #[.string ⟨su.toArray⟩, .int .i64 si, .int .i64 sa, .int .i64 sb, .int .i64 sc, .string ⟨ss.toArray⟩] 34)) fun e w1 => e = .returned (.bool true) ∧ w0.alloc (.cells #[.string ⟨su.toArray⟩, .int .i64 si, .int .i64 sa, .int .i64 sb, .int .i64 sc, .string ⟨ss.toArray⟩] 34) = w1) := Lib.hid (fun w0 B hB => few09_eq (rdS_made sesOK (l := [⟨su, si, ⟨sa, sb, sc, ss⟩⟩]) rfl (by simp) hB) hs)
  have hs1 := few_shortK hs ⟨su, si, ⟨sa, sb, sc, ss⟩⟩ (by simp)
  have hl1 := hs1.1
  have hl2 := hs1.2
  try simp only at hl1 hl2
  have t40 : decide (40 < (ot.length : Int)) = false := by rw [decide_eq_false_iff_not]; omega
  have hl50 := (few_get hw).1
  have HP := Lib.hid hp
  have tn : ((n : Int) != 0) = true := by rw [bne_iff_ne]; omega
  clear ho hp hn hs1
  obtain ⟨ao, cap, rfl, hm⟩ := hv.open'
  clear b0 hv hw hm9
  go_enter Try.func5, Try.ntmps5
  go_wp2_with fail
  refine HF.out.mono ?_
  rintro e w0 ⟨rfl, rfl⟩
  go_wp2_with fail
  refine (rsmay9_any V.out HS.out HM).mono ?_
  rintro e w1 ⟨rfl, b1⟩
  replace V := Lib.hid (V.out.later b1)
  replace C := Lib.hid (C.out.later b1)
  replace HB := Lib.hid (below2Z HB.out b1)
  clear b1
  obtain ⟨c0, c1, c2, c3, c4, c5⟩ := sixS_of C.out
  go_wp2_with fail
  refine (HF2.out _ _ rfl).mono ?_
  rintro e w0 ⟨rfl, rfl⟩
  have b2 := bl_newZ w1 (.cells #[.string ⟨su.toArray⟩, .int .i64 si, .int .i64 sa, .int .i64 sb, .int .i64 sc, .string ⟨ss.toArray⟩] 34)
  replace V := Lib.hid (V.out.later b2)
  replace C := Lib.hid (C.out.later b2)
  replace HB := Lib.hid (below2Z HB.out b2)
  clear b2
  clear c0 c1 c2 c3 c4 c5
  obtain ⟨c0, c1, c2, c3, c4, c5⟩ := sixS_of C.out
  go_wp2_with fail
  refine (sput_any V.out HS.out ⟨su, si, ⟨sa, sb, sc, ss⟩⟩ hl1 hl2 HP).mono ?_
  rintro e w3 ⟨x1, rfl, h1, b3⟩
  replace V := Lib.hid (V.out.later b3)
  replace HB := Lib.hid (below2Z HB.out b3)
  have X1 := Lib.hid (h1)
  clear h1 c0 c1 c2 c3 c4 c5
  clear b3
  go_wp2_with fail
  refine (rssame_any X1.out V.out (Lib.hid (sessSame_self _))).mono ?_
  rintro e w4 ⟨rfl, b4⟩
  replace V := Lib.hid (V.out.later b4)
  replace X1 := Lib.hid (X1.out.later b4)
  replace HB := Lib.hid (below2Z HB.out b4)
  clear b4
  go_wp2_with fail
  refine (live9 _).mono ?_
  rintro e w5 ⟨rfl, b5⟩
  replace HB := Lib.hid (below2Z HB.out b5)
  clear b5
  go_wp2_with fail
  go_ret
  exact ⟨rfl, HB.out⟩

set_option maxHeartbeats 6400000 in
set_option maxRecDepth 100000 in
theorem skeep_6 {w : World} {v : Value} {l : List Ses} (hv : Sess w v l) (su ss : List UInt8) (si sa sb sc : Int) (ot : List UInt8) (hw : fewSes l = true) (hm9 : seMay l = true) (hs : fewSes [⟨su, si, ⟨sa, sb, sc, ss⟩⟩] = true) (ho : ot.length ≤ 40) {m : List Ses} (hp : sePut l ⟨su, si, ⟨sa, sb, sc, ss⟩⟩ = (m, 0)) :
    Calls Try.prog 5 #[v, .agg #[.string ⟨su.toArray⟩, .int .i64 si, .int .i64 sa, .int .i64 sb, .int .i64 sc, .string ⟨ss.toArray⟩], .string ⟨ot.toArray⟩] w fun e w' => e = .returned (.bool true) ∧ Below w.heap.size w w' := by
  have b0 := bl_newZ w (.cells #[.string ⟨su.toArray⟩, .int .i64 si, .int .i64 sa, .int .i64 sb, .int .i64 sc, .string ⟨ss.toArray⟩] 34)
  have HB := Lib.hid b0
  have C := Lib.hid (cellsAt_made (w := w) (cs := #[.string ⟨su.toArray⟩, .int .i64 si, .int .i64 sa, .int .i64 sb, .int .i64 sc, .string ⟨ss.toArray⟩]) (vs := sesVals ⟨su, si, ⟨sa, sb, sc, ss⟩⟩) rfl 34 rfl)
  have V := Lib.hid (hv.later b0)
  have HF := Lib.hid (few09_eq V.out hw)
  have HS := Lib.hid (few_shortK hw)
  have HM := Lib.hid hm9
  have HF2 : Hid (∀ (w0 : World) (B : Nat), B = w0.heap.size → Calls Try.prog 15 #[.slice (some ⟨B, 0, none⟩) 1 1] (w0.alloc (.cells #[.string ⟨su.toArray⟩, .int .i64 si, .int .i64 sa, .int .i64 sb, .int .i64 sc, .string ⟨ss.toArray⟩] 34)) fun e w1 => e = .returned (.bool true) ∧ w0.alloc (.cells #[.string ⟨su.toArray⟩, .int .i64 si, .int .i64 sa, .int .i64 sb, .int .i64 sc, .string ⟨ss.toArray⟩] 34) = w1) := Lib.hid (fun w0 B hB => few09_eq (rdS_made sesOK (l := [⟨su, si, ⟨sa, sb, sc, ss⟩⟩]) rfl (by simp) hB) hs)
  have hs1 := few_shortK hs ⟨su, si, ⟨sa, sb, sc, ss⟩⟩ (by simp)
  have hl1 := hs1.1
  have hl2 := hs1.2
  try simp only at hl1 hl2
  have t40 : decide (40 < (ot.length : Int)) = false := by rw [decide_eq_false_iff_not]; omega
  have hl50 := (few_get hw).1
  have hpd := put_drop hp
  obtain ⟨_, _, _, hd, hdl⟩ := hpd
  have hms : 1 ≤ m.length := by
    obtain ⟨h1, h2, rfl, h3⟩ := sePut_ok hp
    exact List.length_pos_of_mem ((mem_putO seOrd (seMay_rise h1).2.1 ⟨su, si, ⟨sa, sb, sc, ss⟩⟩ ⟨su, si, ⟨sa, sb, sc, ss⟩⟩).2 (.inl rfl))
  have hm33 : m.length ≤ 33 := by have := (seMay_rise (put_may hp)).1; omega
  obtain ⟨d, hdd⟩ : ∃ d, dropO seIs l ⟨su, si, ⟨sa, sb, sc, ss⟩⟩ = d := ⟨_, rfl⟩
  have hmd : seMay d = true := by rw [← hdd]; exact drop_may hm9 _
  have hmm : seMay m = true := put_may hp
  rw [hdd] at hd hdl
  try simp only at hd
  have sm : ShortS m := by
    obtain ⟨h1, h2, e, h3⟩ := sePut_ok hp
    intro z hz
    rw [e, mem_putO seOrd (seMay_rise h1).2.1] at hz
    exact hz.elim (fun e => by rw [e]; exact ⟨hl1, hl2⟩) (fun h => HS.out z h.1)
  have sd : ShortS d := fun z hz => by
    rw [← hdd] at hz
    exact HS.out z ((mem_dropO l ⟨su, si, ⟨sa, sb, sc, ss⟩⟩ z).1 hz).1
  obtain ⟨F, hF⟩ : ∃ F, seOf m su = F := ⟨_, rfl⟩
  obtain ⟨G, hG⟩ : ∃ G, seOf d su = G := ⟨_, rfl⟩
  have HC : Hid (cntI F si F.length = 1) := by show _ = _; rw [← hF]; exact keep_one hp
  have HE : Hid (∀ y ∈ F, y.id = si → y = ⟨su, si, ⟨sa, sb, sc, ss⟩⟩) := by show ∀ y ∈ F, _; intro y hy hi; rw [← hF] at hy; exact keep_eq hp hy hi
  have HG : Hid (∀ y ∈ G, ¬ y.id = si) := by
    show ∀ y ∈ G, _
    intro y hy
    rw [← hG, ← hdd] at hy
    exact keep_none (s := ⟨su, si, ⟨sa, sb, sc, ss⟩⟩) hy
  have hFl : F.length ≤ 100 := by rw [← hF]; have := seOf_le m su; omega
  have hGl : G.length ≤ 100 := by rw [← hG]; have := seOf_le d su; omega
  have HO1 : Hid (¬ ot = su → seOf m ot = seOf l ot) := Lib.hid (fun h => by
    obtain ⟨h1, h2, e, h3⟩ := sePut_ok hp
    rw [e]; exact of_put (s := ⟨su, si, ⟨sa, sb, sc, ss⟩⟩) (seMay_rise h1).2.1 h)
  have HO2 : Hid (¬ ot = su → seOf d ot = seOf l ot) := Lib.hid (fun h => by rw [← hdd]; exact of_drop (s := ⟨su, si, ⟨sa, sb, sc, ss⟩⟩) h)
  have HF3 := Lib.hid hF
  have HG3 := Lib.hid hG
  have HP := Lib.hid hp
  have HD := Lib.hid hd
  have HMM := Lib.hid hmm
  have HMD := Lib.hid hmd
  have SM := Lib.hid sm
  have SD := Lib.hid sd
  obtain ⟨N1, hN1⟩ : ∃ N, m.length = N := ⟨_, rfl⟩
  obtain ⟨N2, hN2⟩ : ∃ N, d.length = N := ⟨_, rfl⟩
  rw [hN1] at hdl hms hm33
  rw [hN2] at hdl
  have tl : ((N2 : Int) != (N1 : Int) - 1) = false := by rw [bne_eq_false_iff_eq]; omega
  have hd33 : N2 ≤ 33 := by omega
  have HN1 := Lib.hid hN1
  have HN2 := Lib.hid hN2
  clear ho hp hd hdl hmm hmd sm sd hF hG hN1 hN2 hdd hs1
  obtain ⟨ao, cap, rfl, hm⟩ := hv.open'
  clear b0 hv hw hm9
  go_enter Try.func5, Try.ntmps5
  go_wp2_with fail
  refine HF.out.mono ?_
  rintro e w0 ⟨rfl, rfl⟩
  go_wp2_with fail
  refine (rsmay9_any V.out HS.out HM).mono ?_
  rintro e w1 ⟨rfl, b1⟩
  replace V := Lib.hid (V.out.later b1)
  replace C := Lib.hid (C.out.later b1)
  replace HB := Lib.hid (below2Z HB.out b1)
  clear b1
  obtain ⟨c0, c1, c2, c3, c4, c5⟩ := sixS_of C.out
  go_wp2_with fail
  refine (HF2.out _ _ rfl).mono ?_
  rintro e w0 ⟨rfl, rfl⟩
  have b2 := bl_newZ w1 (.cells #[.string ⟨su.toArray⟩, .int .i64 si, .int .i64 sa, .int .i64 sb, .int .i64 sc, .string ⟨ss.toArray⟩] 34)
  replace V := Lib.hid (V.out.later b2)
  replace C := Lib.hid (C.out.later b2)
  replace HB := Lib.hid (below2Z HB.out b2)
  clear b2
  clear c0 c1 c2 c3 c4 c5
  obtain ⟨c0, c1, c2, c3, c4, c5⟩ := sixS_of C.out
  go_wp2_with fail
  refine (sput_any V.out HS.out ⟨su, si, ⟨sa, sb, sc, ss⟩⟩ hl1 hl2 HP).mono ?_
  rintro e w3 ⟨x1, rfl, h1, b3⟩
  replace V := Lib.hid (V.out.later b3)
  replace C := Lib.hid (C.out.later b3)
  replace HB := Lib.hid (below2Z HB.out b3)
  have X1 := Lib.hid (h1)
  obtain ⟨a1, k1, rfl, -⟩ := X1.out.open'
  rw [HN1.out] at X1
  clear h1 c0 c1 c2 c3 c4 c5
  clear b3
  obtain ⟨c0, c1, c2, c3, c4, c5⟩ := sixS_of C.out
  try rw [HN1.out]
  go_wp2_with fail
  refine (sdrop_any X1.out SM.out su si HD).mono ?_
  rintro e w4 ⟨x2, rfl, h2, b4⟩
  replace V := Lib.hid (V.out.later b4)
  replace C := Lib.hid (C.out.later b4)
  replace X1 := Lib.hid (X1.out.later b4)
  replace HB := Lib.hid (below2Z HB.out b4)
  have X2 := Lib.hid (h2)
  obtain ⟨a2, k2, rfl, -⟩ := X2.out.open'
  rw [HN2.out] at X2
  clear h2 c0 c1 c2 c3 c4 c5
  clear b4
  try rw [HN2.out]
  go_wp2_with fail
  refine (smay9_any X1.out SM.out (Lib.hid HMM.out)).mono ?_
  rintro e w5 ⟨rfl, b5⟩
  replace V := Lib.hid (V.out.later b5)
  replace C := Lib.hid (C.out.later b5)
  replace X1 := Lib.hid (X1.out.later b5)
  replace X2 := Lib.hid (X2.out.later b5)
  replace HB := Lib.hid (below2Z HB.out b5)
  clear b5
  go_wp2_with fail
  refine (smay9_any X2.out SD.out (Lib.hid HMD.out)).mono ?_
  rintro e w6 ⟨rfl, b6⟩
  replace V := Lib.hid (V.out.later b6)
  replace C := Lib.hid (C.out.later b6)
  replace X1 := Lib.hid (X1.out.later b6)
  replace X2 := Lib.hid (X2.out.later b6)
  replace HB := Lib.hid (below2Z HB.out b6)
  clear b6
  obtain ⟨c0, c1, c2, c3, c4, c5⟩ := sixS_of C.out
  go_wp2_with fail
  refine (sof_any X1.out (by rw [HN1.out]; omega) su).mono ?_
  rintro e w7 ⟨x3, rfl, h3, b7⟩
  replace V := Lib.hid (V.out.later b7)
  replace C := Lib.hid (C.out.later b7)
  replace X1 := Lib.hid (X1.out.later b7)
  replace X2 := Lib.hid (X2.out.later b7)
  replace HB := Lib.hid (below2Z HB.out b7)
  have X3 := Lib.hid (h3.rd sesOK)
  rw [HF3.out] at X3
  obtain ⟨a3, k3, rfl, -⟩ := X3.out.open'
  clear h3 c0 c1 c2 c3 c4 c5
  clear b7
  go_wp2_with fail
  go_loopw [11, 13] (fun fo i wr => ∃ k : Nat, k ≤ F.length ∧ i = .int .i64 k ∧ fo = .int .i64 (cntI F si k) ∧ Hid (Below w7.heap.size w7 wr)) (fun _ i _ => F.length - (intOf i).toNat)
  case atStart => exact ⟨0, by omega, rfl, by rw [cntI_zero]; rfl, Below.refl _ _⟩
  case round =>
    obtain ⟨k, hk, rfl, rfl, HN⟩ := hrel
    have CR := Lib.hid (C.out.later HN.out)
    by_cases hlt : k < F.length
    · obtain ⟨yb, yo, rfl, hc⟩ := X3.out.row HN.out k hlt
      have hin : F.getD k Ses.zero ∈ F := by rw [sgetD hlt]; exact List.getElem_mem hlt
      have hye := HE.out _ hin
      have hcy := cntI_yes (id := si) hlt
      have hcn := cntI_no (id := si) hlt
      have hcl := cntI_le F si k
      obtain ⟨⟨eu, ei, ⟨ea, eb, ec, es⟩⟩, hr⟩ : ∃ r, F.getD k Ses.zero = r := ⟨_, rfl⟩
      rw [hr] at hc hye hcy hcn
      try simp only at hye hcy hcn
      have HC0 := Lib.hid hc
      obtain ⟨q0, q1, q2, q3, q4, q5⟩ := cells6_regrown hc
      try simp only at q0 q1 q2 q3 q4 q5
      obtain ⟨c0, c1, c2, c3, c4, c5⟩ := sixS_of CR.out
      replace c1 := cell_regrown c1
      have t5 : (0 : Int) ≤ (k : Int) := by omega
      have t6 : (k : Int) < (F.length : Int) := by omega
      clear hr hc hin
      by_cases hi : ei = si
      · have ht : (ei == si) = true := by rw [beq_iff_eq]; exact hi
        have hcy := hcy hi
        have hye := hye hi
        simp only [Ses.mk.injEq, Val.mk.injEq] at hye
        obtain ⟨e1, e2, e3, e4, e5, e6⟩ := hye
        have HY := Lib.hid hcy
        clear hcn hcy hi
        go_wp2_with fail
        refine wp_region_quiet_below (by kernel_rfl) (by kernel_rfl) ?_
        repeat (go_big_quiet_step (fail))
        refine wpQuiet_nil ?_
        intro w20 hw20
        have b20 := regrownZ hw20
        have N20 := Lib.hid (below2Z HN.out b20)
        have C20 := Lib.hid (CR.out.later b20)
        have Y20 := Lib.hid (HC0.out.later b20)
        clear hw20 b20 q0 q1 q2 q3 q4 q5 c0 c1 c2 c3 c4 c5
        obtain ⟨y0, y1, y2, y3, y4, y5⟩ := cells6_regrown Y20.out
        obtain ⟨z0, z1, z2, z3, z4, z5⟩ := cells6_regrown C20.out
        simp only [Nat.zero_add] at z0 z1 z2 z3 z4 z5
        try simp only at y0 y1 y2 y3 y4 y5
        have hne := fun w => ses_neq eu su ei ea eb ec si sa sb sc es ss w
        have hsm : sesSame ⟨eu, ei, ⟨ea, eb, ec, es⟩⟩ ⟨su, si, ⟨sa, sb, sc, ss⟩⟩ = true := sesSame_iff.2 (by rw [e1, e2, e3, e4, e5, e6])
        rw [hsm] at hne
        have hw1 : IntKind.i64.wrap (((cntI F si k : Nat) : Int) + 1) = ((cntI F si k : Nat) : Int) + 1 := IntWalk.i64_in _ (by omega)
        clear e1 e2 e3 e4 e5 e6 hsm ht
        go_wp2_with fail
        refine wp_region_quiet_below (by kernel_rfl) (by kernel_rfl) ?_
        repeat (go_big_quiet_step (fail))
        refine wpQuiet_nil ?_
        intro w21 hw21
        have N21 := Lib.hid (below2Z N20.out (regrownZ hw21))
        clear hw21 y0 y1 y2 y3 y4 y5 z0 z1 z2 z3 z4 z5
        go_wp2_with fail
        go_roundw
        case rel => exact ⟨k + 1, by omega, by go_num, by rw [HY.out]; go_num, N21⟩
        case measure => simp [intOf]; omega
      · have ht : (ei == si) = false := by rw [beq_eq_false_iff_ne]; exact hi
        have HY := Lib.hid (hcn hi)
        clear hcn hcy hi hye
        go_wp2_with fail
        refine wp_region_quiet_below (by kernel_rfl) (by kernel_rfl) ?_
        repeat (go_big_quiet_step (fail))
        refine wpQuiet_nil ?_
        intro w20 hw20
        have N20 := Lib.hid (below2Z HN.out (regrownZ hw20))
        clear hw20 q0 q1 q2 q3 q4 q5 c0 c1 c2 c3 c4 c5
        go_wp2_with fail
        go_roundw
        case rel => exact ⟨k + 1, by omega, by go_num, by rw [HY.out], N20⟩
        case measure => simp [intOf]; omega
    · obtain rfl : k = F.length := by omega
      rw [HC.out]
      have VR := Lib.hid (V.out.later HN.out)
      have X1R := Lib.hid (X1.out.later HN.out)
      have X2R := Lib.hid (X2.out.later HN.out)
      have HBR := Lib.hid (below2Z HB.out HN.out)
      obtain ⟨c0, c1, c2, c3, c4, c5⟩ := sixS_of CR.out
      clear HB HN V X1 X2 C X3
      go_wp2_with fail
      refine (sof_any X2R.out (by rw [HN2.out]; omega) su).mono ?_
      rintro e w30 ⟨x4, rfl, h4, b30⟩
      have X4 := Lib.hid (h4.rd sesOK)
      rw [HG3.out] at X4
      obtain ⟨a4, k4, rfl, -⟩ := X4.out.open'
      replace VR := Lib.hid (VR.out.later b30)
      replace X1R := Lib.hid (X1R.out.later b30)
      replace X2R := Lib.hid (X2R.out.later b30)
      replace CR := Lib.hid (CR.out.later b30)
      replace HBR := Lib.hid (below2Z HBR.out b30)
      clear h4 b30 c0 c1 c2 c3 c4 c5
      go_wp2_with fail
      go_loopw [15] (fun i wr2 => ∃ k : Nat, k ≤ G.length ∧ i = .int .i64 k ∧ Hid (Below w30.heap.size w30 wr2)) (fun i _ => G.length - (intOf i).toNat)
      case atStart => exact ⟨0, by omega, rfl, Below.refl _ _⟩
      case round =>
        obtain ⟨k, hk, rfl, HN⟩ := hrel
        by_cases hlt : k < G.length
        · obtain ⟨yb, yo, rfl, hc⟩ := X4.out.row HN.out k hlt
          have hin : G.getD k Ses.zero ∈ G := by rw [sgetD hlt]; exact List.getElem_mem hlt
          have hye := HG.out _ hin
          obtain ⟨⟨eu, ei, ⟨ea, eb, ec, es⟩⟩, hr⟩ : ∃ r, G.getD k Ses.zero = r := ⟨_, rfl⟩
          rw [hr] at hc hye
          try simp only at hye
          obtain ⟨q0, q1, q2, q3, q4, q5⟩ := cells6_regrown hc
          try simp only at q0 q1 q2 q3 q4 q5
          obtain ⟨c0, c1, c2, c3, c4, c5⟩ := sixS_of (CR.out.later HN.out)
          replace c1 := cell_regrown c1
          have t5 : (0 : Int) ≤ (k : Int) := by omega
          have t6 : (k : Int) < (G.length : Int) := by omega
          have ht : (ei == si) = false := by rw [beq_eq_false_iff_ne]; exact hye
          clear hr hc hin hye
          go_wp2_with fail
          refine wp_region_quiet_below (by kernel_rfl) (by kernel_rfl) ?_
          repeat (go_big_quiet_step (fail))
          refine wpQuiet_nil ?_
          intro w20 hw20
          have N20 := Lib.hid (below2Z HN.out (regrownZ hw20))
          clear hw20 q0 q1 q2 q3 q4 q5 c0 c1 c2 c3 c4 c5
          go_wp2_with fail
          go_roundw
          case rel => exact ⟨k + 1, by omega, by go_num, N20⟩
          case measure => simp [intOf]; omega
        · obtain rfl : k = G.length := by omega
          replace VR := Lib.hid (VR.out.later HN.out)
          replace X1R := Lib.hid (X1R.out.later HN.out)
          replace X2R := Lib.hid (X2R.out.later HN.out)
          replace HBR := Lib.hid (below2Z HBR.out HN.out)
          obtain ⟨c0, c1, c2, c3, c4, c5⟩ := sixS_of (CR.out.later HN.out)
          clear HN X4 CR
          by_cases hot : ot = su
          · subst hot
            go_wp2_with fail
            all_goals
              refine (live9 _).mono ?_
              rintro e w40 ⟨rfl, b40⟩
              have HBR2 := Lib.hid (below2Z HBR.out b40)
              clear b40 c0 c1 c2 c3 c4 c5
              go_wp2_with fail
              go_ret
              exact ⟨rfl, HBR2.out⟩
          · have t7 : (ot != su) = true := by rw [bne_iff_ne]; exact hot
            have t8 : (ot == su) = false := by rw [beq_eq_false_iff_ne]; exact hot
            have O1 := Lib.hid (HO1.out hot)
            have O2 := Lib.hid (HO2.out hot)
            go_wp2_with fail
            have HB := HBR
            clear HBR
            refine (sof_any X1R.out (by rw [HN1.out]; omega) ot).mono ?_
            rintro e w41 ⟨x5, rfl, h5, b41⟩
            replace VR := Lib.hid (VR.out.later b41)
            replace X1R := Lib.hid (X1R.out.later b41)
            replace X2R := Lib.hid (X2R.out.later b41)
            replace HB := Lib.hid (below2Z HB.out b41)
            have X5 := Lib.hid (h5.rd sesOK)
            rw [O1.out] at X5
            clear h5 c0 c1 c2 c3 c4 c5
            clear b41
            go_wp2_with fail
            refine (sof_any VR.out (by omega) ot).mono ?_
            rintro e w42 ⟨x6, rfl, h6, b42⟩
            replace VR := Lib.hid (VR.out.later b42)
            replace X2R := Lib.hid (X2R.out.later b42)
            replace X5 := Lib.hid (X5.out.later b42)
            replace HB := Lib.hid (below2Z HB.out b42)
            have X6 := Lib.hid (h6.rd sesOK)
            clear h6
            clear b42
            go_wp2_with fail
            refine (rssame_any X5.out X6.out (Lib.hid (sessSame_self _))).mono ?_
            rintro e w43 ⟨rfl, b43⟩
            replace VR := Lib.hid (VR.out.later b43)
            replace X2R := Lib.hid (X2R.out.later b43)
            replace X5 := Lib.hid (X5.out.later b43)
            replace X6 := Lib.hid (X6.out.later b43)
            replace HB := Lib.hid (below2Z HB.out b43)
            clear b43
            go_wp2_with fail
            refine (sof_any X2R.out (by rw [HN2.out]; omega) ot).mono ?_
            rintro e w44 ⟨x7, rfl, h7, b44⟩
            replace VR := Lib.hid (VR.out.later b44)
            replace X2R := Lib.hid (X2R.out.later b44)
            replace HB := Lib.hid (below2Z HB.out b44)
            have X7 := Lib.hid (h7.rd sesOK)
            rw [O2.out] at X7
            clear h7
            clear b44
            go_wp2_with fail
            refine (sof_any VR.out (by omega) ot).mono ?_
            rintro e w45 ⟨x8, rfl, h8, b45⟩
            replace VR := Lib.hid (VR.out.later b45)
            replace X7 := Lib.hid (X7.out.later b45)
            replace HB := Lib.hid (below2Z HB.out b45)
            have X8 := Lib.hid (h8.rd sesOK)
            clear h8
            clear b45
            go_wp2_with fail
            refine (rssame_any X7.out X8.out (Lib.hid (sessSame_self _))).mono ?_
            rintro e w46 ⟨rfl, b46⟩
            replace X7 := Lib.hid (X7.out.later b46)
            replace X8 := Lib.hid (X8.out.later b46)
            replace HB := Lib.hid (below2Z HB.out b46)
            clear b46
            go_wp2_with fail
            refine (live9 _).mono ?_
            rintro e w47 ⟨rfl, b47⟩
            replace HB := Lib.hid (below2Z HB.out b47)
            clear b47
            go_wp2_with fail
            go_ret
            exact ⟨rfl, HB.out⟩

theorem walkSessKeeps {w : World} {v : Value} {l : List Ses} (hv : Sess w v l) (_ : ∀ s ∈ l, SesFit s) (s : Ses) (_ : SesFit s) (ot : List UInt8) (_ : ot.length ≤ maxLen) :
    Calls Try.prog 5 #[v, .agg #[.string ⟨s.u.toArray⟩, .int .i64 s.id, .int .i64 s.v.sh, .int .i64 s.v.pr, .int .i64 s.v.si, .string ⟨s.v.st.toArray⟩], .string ⟨ot.toArray⟩] w fun e w' => e = .returned (.bool true) ∧ Below w.heap.size w w' := by
  cases hw : fewSes l with
  | false => exact skeep_1 hv s.u s.v.st s.id s.v.sh s.v.pr s.v.si ot hw
  | true =>
    cases hm : seMay l with
    | false => exact skeep_2 hv s.u s.v.st s.id s.v.sh s.v.pr s.v.si ot hw hm
    | true =>
      cases hs : fewSes [s] with
      | false => exact skeep_3 hv s.u s.v.st s.id s.v.sh s.v.pr s.v.si ot hw hm hs
      | true =>
        by_cases ho : ot.length ≤ 40
        · obtain ⟨m, n, hp⟩ : ∃ m n, sePut l s = (m, n) := ⟨_, _, rfl⟩
          by_cases hn : n = 0
          · subst hn
            exact skeep_6 hv s.u s.v.st s.id s.v.sh s.v.pr s.v.si ot hw hm hs ho hp
          · have := sePut_err hp hn
            subst this
            exact skeep_5 hv s.u s.v.st s.id s.v.sh s.v.pr s.v.si ot hw hm hs ho hn hp
        · exact skeep_4 hv s.u s.v.st s.id s.v.sh s.v.pr s.v.si ot hw hm hs ho

end Go.Proofs.Ytkmbnpjnjlcjmaa
