/-
  THE WALK OF SessTwo.
-/
import Derived.Test.YtkmbnpjnjlcjmaaSesLive
import Derived.Test.YtkmbnpjnjlcjmaaBesBest
import Derived.Test.YtkmbnpjnjlcjmaaSeqS
namespace Go.Proofs.Ytkmbnpjnjlcjmaa
open Go.RowKit

theorem few_shortW {l : List Ses} (h : fewSes l = true) : ShortS l := fun s hs => by
  have := (few_get h).2 s hs
  exact ⟨by omega, by omega⟩

theorem sePut_new2 {l : List Ses} {s : Ses} (h1 : seMay l = true) (h2 : seOne s = true) (h3 : l.length < 32) : sePut l s = (putO seLt seIs l s, 0) := by
  unfold sePut
  rw [if_pos ⟨h1, h2⟩, if_pos (.inr h3)]

theorem putO_le (l : List Ses) (s : Ses) : (putO seLt seIs l s).length ≤ l.length + 1 := by
  rw [putO_len]
  split <;> omega

set_option maxHeartbeats 3200000 in
set_option maxRecDepth 100000 in
theorem stwo_1 {w : World} {v : Value} {l : List Ses} (hv : Sess w v l) (au ax bu bx : List UInt8) (ai aa ab ac bi ba bb bc : Int) (h30 : ¬ l.length ≤ 30) :
    Calls Try.prog 7 #[v, .agg #[.string ⟨au.toArray⟩, .int .i64 ai, .int .i64 aa, .int .i64 ab, .int .i64 ac, .string ⟨ax.toArray⟩], .agg #[.string ⟨bu.toArray⟩, .int .i64 bi, .int .i64 ba, .int .i64 bb, .int .i64 bc, .string ⟨bx.toArray⟩]] w fun e w' => e = .returned (.bool true) ∧ Below w.heap.size w w' := by
  have b0 := bl_newZ w (.cells #[.string ⟨au.toArray⟩, .int .i64 ai, .int .i64 aa, .int .i64 ab, .int .i64 ac, .string ⟨ax.toArray⟩] 34)
  have b00 := bl_newZ (w.alloc (.cells #[.string ⟨au.toArray⟩, .int .i64 ai, .int .i64 aa, .int .i64 ab, .int .i64 ac, .string ⟨ax.toArray⟩] 34)) (.cells #[.string ⟨bu.toArray⟩, .int .i64 bi, .int .i64 ba, .int .i64 bb, .int .i64 bc, .string ⟨bx.toArray⟩] 34)
  have HB := Lib.hid (below2Z b0 b00)
  have DA := Lib.hid ((cellsAt_made (w := w) (cs := #[.string ⟨au.toArray⟩, .int .i64 ai, .int .i64 aa, .int .i64 ab, .int .i64 ac, .string ⟨ax.toArray⟩]) (vs := sesVals ⟨au, ai, ⟨aa, ab, ac, ax⟩⟩) rfl 34 rfl).later b00)
  have DB := Lib.hid (cellsAt_made (w := w.alloc (.cells #[.string ⟨au.toArray⟩, .int .i64 ai, .int .i64 aa, .int .i64 ab, .int .i64 ac, .string ⟨ax.toArray⟩] 34)) (cs := #[.string ⟨bu.toArray⟩, .int .i64 bi, .int .i64 ba, .int .i64 bb, .int .i64 bc, .string ⟨bx.toArray⟩]) (vs := sesVals ⟨bu, bi, ⟨ba, bb, bc, bx⟩⟩) rfl 34 (B := w.heap.size + 1) (by simp))
  have V := Lib.hid (hv.later (below2Z b0 b00))
  obtain ⟨ao, cap, rfl, hm⟩ := hv.open'
  clear b0 b00 hv
  have t1 : decide (30 < (l.length : Int)) = true := by rw [decide_eq_true_eq]; omega
  clear h30
  go_enter Try.func7, Try.ntmps7
  go_wp2_with fail
  refine (live9 _).mono ?_
  rintro e w1 ⟨rfl, b1⟩
  replace HB := Lib.hid (below2Z HB.out b1)
  clear b1
  go_wp2_with fail
  go_ret
  exact ⟨rfl, HB.out⟩

set_option maxHeartbeats 3200000 in
set_option maxRecDepth 100000 in
theorem stwo_2 {w : World} {v : Value} {l : List Ses} (hv : Sess w v l) (au ax bu bx : List UInt8) (ai aa ab ac bi ba bb bc : Int) (h30 : l.length ≤ 30) (hw : fewSes l = false) :
    Calls Try.prog 7 #[v, .agg #[.string ⟨au.toArray⟩, .int .i64 ai, .int .i64 aa, .int .i64 ab, .int .i64 ac, .string ⟨ax.toArray⟩], .agg #[.string ⟨bu.toArray⟩, .int .i64 bi, .int .i64 ba, .int .i64 bb, .int .i64 bc, .string ⟨bx.toArray⟩]] w fun e w' => e = .returned (.bool true) ∧ Below w.heap.size w w' := by
  have b0 := bl_newZ w (.cells #[.string ⟨au.toArray⟩, .int .i64 ai, .int .i64 aa, .int .i64 ab, .int .i64 ac, .string ⟨ax.toArray⟩] 34)
  have b00 := bl_newZ (w.alloc (.cells #[.string ⟨au.toArray⟩, .int .i64 ai, .int .i64 aa, .int .i64 ab, .int .i64 ac, .string ⟨ax.toArray⟩] 34)) (.cells #[.string ⟨bu.toArray⟩, .int .i64 bi, .int .i64 ba, .int .i64 bb, .int .i64 bc, .string ⟨bx.toArray⟩] 34)
  have HB := Lib.hid (below2Z b0 b00)
  have DA := Lib.hid ((cellsAt_made (w := w) (cs := #[.string ⟨au.toArray⟩, .int .i64 ai, .int .i64 aa, .int .i64 ab, .int .i64 ac, .string ⟨ax.toArray⟩]) (vs := sesVals ⟨au, ai, ⟨aa, ab, ac, ax⟩⟩) rfl 34 rfl).later b00)
  have DB := Lib.hid (cellsAt_made (w := w.alloc (.cells #[.string ⟨au.toArray⟩, .int .i64 ai, .int .i64 aa, .int .i64 ab, .int .i64 ac, .string ⟨ax.toArray⟩] 34)) (cs := #[.string ⟨bu.toArray⟩, .int .i64 bi, .int .i64 ba, .int .i64 bb, .int .i64 bc, .string ⟨bx.toArray⟩]) (vs := sesVals ⟨bu, bi, ⟨ba, bb, bc, bx⟩⟩) rfl 34 (B := w.heap.size + 1) (by simp))
  have V := Lib.hid (hv.later (below2Z b0 b00))
  have HF := Lib.hid (few09_eq V.out hw)
  obtain ⟨ao, cap, rfl, hm⟩ := hv.open'
  clear b0 b00 hv
  have t1 : decide (30 < (l.length : Int)) = false := by rw [decide_eq_false_iff_not]; omega
  clear h30 hw
  go_enter Try.func7, Try.ntmps7
  go_wp2_with fail
  refine HF.out.mono ?_
  rintro e w0 ⟨rfl, rfl⟩
  go_wp2_with fail
  refine (live9 _).mono ?_
  rintro e w1 ⟨rfl, b1⟩
  replace HB := Lib.hid (below2Z HB.out b1)
  clear b1
  go_wp2_with fail
  go_ret
  exact ⟨rfl, HB.out⟩

set_option maxHeartbeats 3200000 in
set_option maxRecDepth 100000 in
theorem stwo_3 {w : World} {v : Value} {l : List Ses} (hv : Sess w v l) (au ax bu bx : List UInt8) (ai aa ab ac bi ba bb bc : Int) (h30 : l.length ≤ 30) (hw : fewSes l = true) (hm9 : seMay l = false) :
    Calls Try.prog 7 #[v, .agg #[.string ⟨au.toArray⟩, .int .i64 ai, .int .i64 aa, .int .i64 ab, .int .i64 ac, .string ⟨ax.toArray⟩], .agg #[.string ⟨bu.toArray⟩, .int .i64 bi, .int .i64 ba, .int .i64 bb, .int .i64 bc, .string ⟨bx.toArray⟩]] w fun e w' => e = .returned (.bool true) ∧ Below w.heap.size w w' := by
  have b0 := bl_newZ w (.cells #[.string ⟨au.toArray⟩, .int .i64 ai, .int .i64 aa, .int .i64 ab, .int .i64 ac, .string ⟨ax.toArray⟩] 34)
  have b00 := bl_newZ (w.alloc (.cells #[.string ⟨au.toArray⟩, .int .i64 ai, .int .i64 aa, .int .i64 ab, .int .i64 ac, .string ⟨ax.toArray⟩] 34)) (.cells #[.string ⟨bu.toArray⟩, .int .i64 bi, .int .i64 ba, .int .i64 bb, .int .i64 bc, .string ⟨bx.toArray⟩] 34)
  have HB := Lib.hid (below2Z b0 b00)
  have DA := Lib.hid ((cellsAt_made (w := w) (cs := #[.string ⟨au.toArray⟩, .int .i64 ai, .int .i64 aa, .int .i64 ab, .int .i64 ac, .string ⟨ax.toArray⟩]) (vs := sesVals ⟨au, ai, ⟨aa, ab, ac, ax⟩⟩) rfl 34 rfl).later b00)
  have DB := Lib.hid (cellsAt_made (w := w.alloc (.cells #[.string ⟨au.toArray⟩, .int .i64 ai, .int .i64 aa, .int .i64 ab, .int .i64 ac, .string ⟨ax.toArray⟩] 34)) (cs := #[.string ⟨bu.toArray⟩, .int .i64 bi, .int .i64 ba, .int .i64 bb, .int .i64 bc, .string ⟨bx.toArray⟩]) (vs := sesVals ⟨bu, bi, ⟨ba, bb, bc, bx⟩⟩) rfl 34 (B := w.heap.size + 1) (by simp))
  have V := Lib.hid (hv.later (below2Z b0 b00))
  have HF := Lib.hid (few09_eq V.out hw)
  have HS := Lib.hid (few_shortW hw)
  obtain ⟨ao, cap, rfl, hm⟩ := hv.open'
  clear b0 b00 hv
  have t1 : decide (30 < (l.length : Int)) = false := by rw [decide_eq_false_iff_not]; omega
  clear h30 hw
  go_enter Try.func7, Try.ntmps7
  go_wp2_with fail
  refine HF.out.mono ?_
  rintro e w0 ⟨rfl, rfl⟩
  go_wp2_with fail
  refine (rsmay9_any V.out HS.out (Lib.hid hm9)).mono ?_
  rintro e w1 ⟨rfl, b1⟩
  replace HB := Lib.hid (below2Z HB.out b1)
  clear b1
  go_wp2_with fail
  refine (live9 _).mono ?_
  rintro e w2 ⟨rfl, b2⟩
  replace HB := Lib.hid (below2Z HB.out b2)
  clear b2
  go_wp2_with fail
  go_ret
  exact ⟨rfl, HB.out⟩

set_option maxHeartbeats 3200000 in
set_option maxRecDepth 100000 in
theorem stwo_4 {w : World} {v : Value} {l : List Ses} (hv : Sess w v l) (au ax bu bx : List UInt8) (ai aa ab ac bi ba bb bc : Int) (h30 : l.length ≤ 30) (hw : fewSes l = true) (hm9 : seMay l = true) (hs : fewSes [⟨au, ai, ⟨aa, ab, ac, ax⟩⟩, ⟨bu, bi, ⟨ba, bb, bc, bx⟩⟩] = false) :
    Calls Try.prog 7 #[v, .agg #[.string ⟨au.toArray⟩, .int .i64 ai, .int .i64 aa, .int .i64 ab, .int .i64 ac, .string ⟨ax.toArray⟩], .agg #[.string ⟨bu.toArray⟩, .int .i64 bi, .int .i64 ba, .int .i64 bb, .int .i64 bc, .string ⟨bx.toArray⟩]] w fun e w' => e = .returned (.bool true) ∧ Below w.heap.size w w' := by
  have b0 := bl_newZ w (.cells #[.string ⟨au.toArray⟩, .int .i64 ai, .int .i64 aa, .int .i64 ab, .int .i64 ac, .string ⟨ax.toArray⟩] 34)
  have b00 := bl_newZ (w.alloc (.cells #[.string ⟨au.toArray⟩, .int .i64 ai, .int .i64 aa, .int .i64 ab, .int .i64 ac, .string ⟨ax.toArray⟩] 34)) (.cells #[.string ⟨bu.toArray⟩, .int .i64 bi, .int .i64 ba, .int .i64 bb, .int .i64 bc, .string ⟨bx.toArray⟩] 34)
  have HB := Lib.hid (below2Z b0 b00)
  have DA := Lib.hid ((cellsAt_made (w := w) (cs := #[.string ⟨au.toArray⟩, .int .i64 ai, .int .i64 aa, .int .i64 ab, .int .i64 ac, .string ⟨ax.toArray⟩]) (vs := sesVals ⟨au, ai, ⟨aa, ab, ac, ax⟩⟩) rfl 34 rfl).later b00)
  have DB := Lib.hid (cellsAt_made (w := w.alloc (.cells #[.string ⟨au.toArray⟩, .int .i64 ai, .int .i64 aa, .int .i64 ab, .int .i64 ac, .string ⟨ax.toArray⟩] 34)) (cs := #[.string ⟨bu.toArray⟩, .int .i64 bi, .int .i64 ba, .int .i64 bb, .int .i64 bc, .string ⟨bx.toArray⟩]) (vs := sesVals ⟨bu, bi, ⟨ba, bb, bc, bx⟩⟩) rfl 34 (B := w.heap.size + 1) (by simp))
  have V := Lib.hid (hv.later (below2Z b0 b00))
  have HF := Lib.hid (few09_eq V.out hw)
  have HS := Lib.hid (few_shortW hw)
  have HF2 : Hid (∀ (w0 : World) (B : Nat), B = w0.heap.size → Calls Try.prog 15 #[.slice (some ⟨B, 0, none⟩) 2 2] (w0.alloc (.cells #[.string ⟨au.toArray⟩, .int .i64 ai, .int .i64 aa, .int .i64 ab, .int .i64 ac, .string ⟨ax.toArray⟩, .string ⟨bu.toArray⟩, .int .i64 bi, .int .i64 ba, .int .i64 bb, .int .i64 bc, .string ⟨bx.toArray⟩] 34)) fun e w1 => e = .returned (.bool false) ∧ w0.alloc (.cells #[.string ⟨au.toArray⟩, .int .i64 ai, .int .i64 aa, .int .i64 ab, .int .i64 ac, .string ⟨ax.toArray⟩, .string ⟨bu.toArray⟩, .int .i64 bi, .int .i64 ba, .int .i64 bb, .int .i64 bc, .string ⟨bx.toArray⟩] 34) = w1) := Lib.hid (fun w0 B hB => few09_eq (rdS_made sesOK (l := [⟨au, ai, ⟨aa, ab, ac, ax⟩⟩, ⟨bu, bi, ⟨ba, bb, bc, bx⟩⟩]) rfl (by simp) hB) hs)
  obtain ⟨ao, cap, rfl, hm⟩ := hv.open'
  clear b0 b00 hv
  have t1 : decide (30 < (l.length : Int)) = false := by rw [decide_eq_false_iff_not]; omega
  have HM9 := Lib.hid hm9
  clear h30 hw hm9
  go_enter Try.func7, Try.ntmps7
  go_wp2_with fail
  refine HF.out.mono ?_
  rintro e w0 ⟨rfl, rfl⟩
  go_wp2_with fail
  refine (rsmay9_any V.out HS.out HM9).mono ?_
  rintro e w1 ⟨rfl, b1⟩
  replace V := Lib.hid (V.out.later b1)
  replace DA := Lib.hid (DA.out.later b1)
  replace DB := Lib.hid (DB.out.later b1)
  replace HB := Lib.hid (below2Z HB.out b1)
  clear b1
  obtain ⟨a0, a1, a2, a3, a4, a5⟩ := sixS_of DA.out
  obtain ⟨b0, b1, b2, b3, b4, b5⟩ := sixS_of DB.out
  go_wp2_with fail
  refine (HF2.out _ _ rfl).mono ?_
  rintro e w0 ⟨rfl, rfl⟩
  have b2 := bl_newZ w1 (.cells #[.string ⟨au.toArray⟩, .int .i64 ai, .int .i64 aa, .int .i64 ab, .int .i64 ac, .string ⟨ax.toArray⟩, .string ⟨bu.toArray⟩, .int .i64 bi, .int .i64 ba, .int .i64 bb, .int .i64 bc, .string ⟨bx.toArray⟩] 34)
  replace V := Lib.hid (V.out.later b2)
  replace DA := Lib.hid (DA.out.later b2)
  replace DB := Lib.hid (DB.out.later b2)
  replace HB := Lib.hid (below2Z HB.out b2)
  clear b2
  clear a0 a1 a2 a3 a4 a5 b0 b1 b2 b3 b4 b5
  go_wp2_with fail
  refine (live9 _).mono ?_
  rintro e w3 ⟨rfl, b3⟩
  replace HB := Lib.hid (below2Z HB.out b3)
  clear b3
  go_wp2_with fail
  go_ret
  exact ⟨rfl, HB.out⟩

set_option maxHeartbeats 3200000 in
set_option maxRecDepth 100000 in
theorem stwo_5 {w : World} {v : Value} {l : List Ses} (hv : Sess w v l) (au ax bu bx : List UInt8) (ai aa ab ac bi ba bb bc : Int) (h30 : l.length ≤ 30) (hw : fewSes l = true) (hm9 : seMay l = true) (hs : fewSes [⟨au, ai, ⟨aa, ab, ac, ax⟩⟩, ⟨bu, bi, ⟨ba, bb, bc, bx⟩⟩] = true) (h1 : seOne ⟨au, ai, ⟨aa, ab, ac, ax⟩⟩ = false) :
    Calls Try.prog 7 #[v, .agg #[.string ⟨au.toArray⟩, .int .i64 ai, .int .i64 aa, .int .i64 ab, .int .i64 ac, .string ⟨ax.toArray⟩], .agg #[.string ⟨bu.toArray⟩, .int .i64 bi, .int .i64 ba, .int .i64 bb, .int .i64 bc, .string ⟨bx.toArray⟩]] w fun e w' => e = .returned (.bool true) ∧ Below w.heap.size w w' := by
  have b0 := bl_newZ w (.cells #[.string ⟨au.toArray⟩, .int .i64 ai, .int .i64 aa, .int .i64 ab, .int .i64 ac, .string ⟨ax.toArray⟩] 34)
  have b00 := bl_newZ (w.alloc (.cells #[.string ⟨au.toArray⟩, .int .i64 ai, .int .i64 aa, .int .i64 ab, .int .i64 ac, .string ⟨ax.toArray⟩] 34)) (.cells #[.string ⟨bu.toArray⟩, .int .i64 bi, .int .i64 ba, .int .i64 bb, .int .i64 bc, .string ⟨bx.toArray⟩] 34)
  have HB := Lib.hid (below2Z b0 b00)
  have DA := Lib.hid ((cellsAt_made (w := w) (cs := #[.string ⟨au.toArray⟩, .int .i64 ai, .int .i64 aa, .int .i64 ab, .int .i64 ac, .string ⟨ax.toArray⟩]) (vs := sesVals ⟨au, ai, ⟨aa, ab, ac, ax⟩⟩) rfl 34 rfl).later b00)
  have DB := Lib.hid (cellsAt_made (w := w.alloc (.cells #[.string ⟨au.toArray⟩, .int .i64 ai, .int .i64 aa, .int .i64 ab, .int .i64 ac, .string ⟨ax.toArray⟩] 34)) (cs := #[.string ⟨bu.toArray⟩, .int .i64 bi, .int .i64 ba, .int .i64 bb, .int .i64 bc, .string ⟨bx.toArray⟩]) (vs := sesVals ⟨bu, bi, ⟨ba, bb, bc, bx⟩⟩) rfl 34 (B := w.heap.size + 1) (by simp))
  have V := Lib.hid (hv.later (below2Z b0 b00))
  have HF := Lib.hid (few09_eq V.out hw)
  have HS := Lib.hid (few_shortW hw)
  have HF2 : Hid (∀ (w0 : World) (B : Nat), B = w0.heap.size → Calls Try.prog 15 #[.slice (some ⟨B, 0, none⟩) 2 2] (w0.alloc (.cells #[.string ⟨au.toArray⟩, .int .i64 ai, .int .i64 aa, .int .i64 ab, .int .i64 ac, .string ⟨ax.toArray⟩, .string ⟨bu.toArray⟩, .int .i64 bi, .int .i64 ba, .int .i64 bb, .int .i64 bc, .string ⟨bx.toArray⟩] 34)) fun e w1 => e = .returned (.bool true) ∧ w0.alloc (.cells #[.string ⟨au.toArray⟩, .int .i64 ai, .int .i64 aa, .int .i64 ab, .int .i64 ac, .string ⟨ax.toArray⟩, .string ⟨bu.toArray⟩, .int .i64 bi, .int .i64 ba, .int .i64 bb, .int .i64 bc, .string ⟨bx.toArray⟩] 34) = w1) := Lib.hid (fun w0 B hB => few09_eq (rdS_made sesOK (l := [⟨au, ai, ⟨aa, ab, ac, ax⟩⟩, ⟨bu, bi, ⟨ba, bb, bc, bx⟩⟩]) rfl (by simp) hB) hs)
  have sa := few_shortW hs ⟨au, ai, ⟨aa, ab, ac, ax⟩⟩ (by simp)
  have sb := few_shortW hs ⟨bu, bi, ⟨ba, bb, bc, bx⟩⟩ (by simp)
  try simp only at sa sb
  obtain ⟨sa1, sa2⟩ := sa
  obtain ⟨sb1, sb2⟩ := sb
  obtain ⟨ao, cap, rfl, hm⟩ := hv.open'
  clear b0 b00 hv
  have HO := Lib.hid h1
  clear h1
  have t1 : decide (30 < (l.length : Int)) = false := by rw [decide_eq_false_iff_not]; omega
  have HM9 := Lib.hid hm9
  clear h30 hw hm9
  go_enter Try.func7, Try.ntmps7
  go_wp2_with fail
  refine HF.out.mono ?_
  rintro e w0 ⟨rfl, rfl⟩
  go_wp2_with fail
  refine (rsmay9_any V.out HS.out HM9).mono ?_
  rintro e w1 ⟨rfl, b1⟩
  replace V := Lib.hid (V.out.later b1)
  replace DA := Lib.hid (DA.out.later b1)
  replace DB := Lib.hid (DB.out.later b1)
  replace HB := Lib.hid (below2Z HB.out b1)
  clear b1
  obtain ⟨a0, a1, a2, a3, a4, a5⟩ := sixS_of DA.out
  obtain ⟨b0, b1, b2, b3, b4, b5⟩ := sixS_of DB.out
  go_wp2_with fail
  refine (HF2.out _ _ rfl).mono ?_
  rintro e w0 ⟨rfl, rfl⟩
  have b2 := bl_newZ w1 (.cells #[.string ⟨au.toArray⟩, .int .i64 ai, .int .i64 aa, .int .i64 ab, .int .i64 ac, .string ⟨ax.toArray⟩, .string ⟨bu.toArray⟩, .int .i64 bi, .int .i64 ba, .int .i64 bb, .int .i64 bc, .string ⟨bx.toArray⟩] 34)
  replace V := Lib.hid (V.out.later b2)
  replace DA := Lib.hid (DA.out.later b2)
  replace DB := Lib.hid (DB.out.later b2)
  replace HB := Lib.hid (below2Z HB.out b2)
  clear b2
  clear a0 a1 a2 a3 a4 a5 b0 b1 b2 b3 b4 b5
  obtain ⟨a0, a1, a2, a3, a4, a5⟩ := sixS_of DA.out
  go_wp2_with fail
  refine (rone_any au ax ai aa ab ac sa1 sa2 HO _).mono ?_
  rintro e w3 ⟨rfl, b3⟩
  replace HB := Lib.hid (below2Z HB.out b3)
  clear b3
  go_wp2_with fail
  refine (live9 _).mono ?_
  rintro e w4 ⟨rfl, b4⟩
  replace HB := Lib.hid (below2Z HB.out b4)
  clear b4
  go_wp2_with fail
  go_ret
  exact ⟨rfl, HB.out⟩

set_option maxHeartbeats 3200000 in
set_option maxRecDepth 100000 in
theorem stwo_6 {w : World} {v : Value} {l : List Ses} (hv : Sess w v l) (au ax bu bx : List UInt8) (ai aa ab ac bi ba bb bc : Int) (h30 : l.length ≤ 30) (hw : fewSes l = true) (hm9 : seMay l = true) (hs : fewSes [⟨au, ai, ⟨aa, ab, ac, ax⟩⟩, ⟨bu, bi, ⟨ba, bb, bc, bx⟩⟩] = true) (h1 : seOne ⟨au, ai, ⟨aa, ab, ac, ax⟩⟩ = true) (h2 : seOne ⟨bu, bi, ⟨ba, bb, bc, bx⟩⟩ = false) :
    Calls Try.prog 7 #[v, .agg #[.string ⟨au.toArray⟩, .int .i64 ai, .int .i64 aa, .int .i64 ab, .int .i64 ac, .string ⟨ax.toArray⟩], .agg #[.string ⟨bu.toArray⟩, .int .i64 bi, .int .i64 ba, .int .i64 bb, .int .i64 bc, .string ⟨bx.toArray⟩]] w fun e w' => e = .returned (.bool true) ∧ Below w.heap.size w w' := by
  have b0 := bl_newZ w (.cells #[.string ⟨au.toArray⟩, .int .i64 ai, .int .i64 aa, .int .i64 ab, .int .i64 ac, .string ⟨ax.toArray⟩] 34)
  have b00 := bl_newZ (w.alloc (.cells #[.string ⟨au.toArray⟩, .int .i64 ai, .int .i64 aa, .int .i64 ab, .int .i64 ac, .string ⟨ax.toArray⟩] 34)) (.cells #[.string ⟨bu.toArray⟩, .int .i64 bi, .int .i64 ba, .int .i64 bb, .int .i64 bc, .string ⟨bx.toArray⟩] 34)
  have HB := Lib.hid (below2Z b0 b00)
  have DA := Lib.hid ((cellsAt_made (w := w) (cs := #[.string ⟨au.toArray⟩, .int .i64 ai, .int .i64 aa, .int .i64 ab, .int .i64 ac, .string ⟨ax.toArray⟩]) (vs := sesVals ⟨au, ai, ⟨aa, ab, ac, ax⟩⟩) rfl 34 rfl).later b00)
  have DB := Lib.hid (cellsAt_made (w := w.alloc (.cells #[.string ⟨au.toArray⟩, .int .i64 ai, .int .i64 aa, .int .i64 ab, .int .i64 ac, .string ⟨ax.toArray⟩] 34)) (cs := #[.string ⟨bu.toArray⟩, .int .i64 bi, .int .i64 ba, .int .i64 bb, .int .i64 bc, .string ⟨bx.toArray⟩]) (vs := sesVals ⟨bu, bi, ⟨ba, bb, bc, bx⟩⟩) rfl 34 (B := w.heap.size + 1) (by simp))
  have V := Lib.hid (hv.later (below2Z b0 b00))
  have HF := Lib.hid (few09_eq V.out hw)
  have HS := Lib.hid (few_shortW hw)
  have HF2 : Hid (∀ (w0 : World) (B : Nat), B = w0.heap.size → Calls Try.prog 15 #[.slice (some ⟨B, 0, none⟩) 2 2] (w0.alloc (.cells #[.string ⟨au.toArray⟩, .int .i64 ai, .int .i64 aa, .int .i64 ab, .int .i64 ac, .string ⟨ax.toArray⟩, .string ⟨bu.toArray⟩, .int .i64 bi, .int .i64 ba, .int .i64 bb, .int .i64 bc, .string ⟨bx.toArray⟩] 34)) fun e w1 => e = .returned (.bool true) ∧ w0.alloc (.cells #[.string ⟨au.toArray⟩, .int .i64 ai, .int .i64 aa, .int .i64 ab, .int .i64 ac, .string ⟨ax.toArray⟩, .string ⟨bu.toArray⟩, .int .i64 bi, .int .i64 ba, .int .i64 bb, .int .i64 bc, .string ⟨bx.toArray⟩] 34) = w1) := Lib.hid (fun w0 B hB => few09_eq (rdS_made sesOK (l := [⟨au, ai, ⟨aa, ab, ac, ax⟩⟩, ⟨bu, bi, ⟨ba, bb, bc, bx⟩⟩]) rfl (by simp) hB) hs)
  have sa := few_shortW hs ⟨au, ai, ⟨aa, ab, ac, ax⟩⟩ (by simp)
  have sb := few_shortW hs ⟨bu, bi, ⟨ba, bb, bc, bx⟩⟩ (by simp)
  try simp only at sa sb
  obtain ⟨sa1, sa2⟩ := sa
  obtain ⟨sb1, sb2⟩ := sb
  obtain ⟨ao, cap, rfl, hm⟩ := hv.open'
  clear b0 b00 hv
  have HO := Lib.hid h1
  have HO2 := Lib.hid h2
  clear h1 h2
  have t1 : decide (30 < (l.length : Int)) = false := by rw [decide_eq_false_iff_not]; omega
  have HM9 := Lib.hid hm9
  clear h30 hw hm9
  go_enter Try.func7, Try.ntmps7
  go_wp2_with fail
  refine HF.out.mono ?_
  rintro e w0 ⟨rfl, rfl⟩
  go_wp2_with fail
  refine (rsmay9_any V.out HS.out HM9).mono ?_
  rintro e w1 ⟨rfl, b1⟩
  replace V := Lib.hid (V.out.later b1)
  replace DA := Lib.hid (DA.out.later b1)
  replace DB := Lib.hid (DB.out.later b1)
  replace HB := Lib.hid (below2Z HB.out b1)
  clear b1
  obtain ⟨a0, a1, a2, a3, a4, a5⟩ := sixS_of DA.out
  obtain ⟨b0, b1, b2, b3, b4, b5⟩ := sixS_of DB.out
  go_wp2_with fail
  refine (HF2.out _ _ rfl).mono ?_
  rintro e w0 ⟨rfl, rfl⟩
  have b2 := bl_newZ w1 (.cells #[.string ⟨au.toArray⟩, .int .i64 ai, .int .i64 aa, .int .i64 ab, .int .i64 ac, .string ⟨ax.toArray⟩, .string ⟨bu.toArray⟩, .int .i64 bi, .int .i64 ba, .int .i64 bb, .int .i64 bc, .string ⟨bx.toArray⟩] 34)
  replace V := Lib.hid (V.out.later b2)
  replace DA := Lib.hid (DA.out.later b2)
  replace DB := Lib.hid (DB.out.later b2)
  replace HB := Lib.hid (below2Z HB.out b2)
  clear b2
  clear a0 a1 a2 a3 a4 a5 b0 b1 b2 b3 b4 b5
  obtain ⟨a0, a1, a2, a3, a4, a5⟩ := sixS_of DA.out
  go_wp2_with fail
  refine (rone_any au ax ai aa ab ac sa1 sa2 HO _).mono ?_
  rintro e w3 ⟨rfl, b3⟩
  replace V := Lib.hid (V.out.later b3)
  replace DA := Lib.hid (DA.out.later b3)
  replace DB := Lib.hid (DB.out.later b3)
  replace HB := Lib.hid (below2Z HB.out b3)
  clear b3
  clear a0 a1 a2 a3 a4 a5
  obtain ⟨b0, b1, b2, b3, b4, b5⟩ := sixS_of DB.out
  go_wp2_with fail
  refine (rone_any bu bx bi ba bb bc sb1 sb2 HO2 _).mono ?_
  rintro e w4 ⟨rfl, b4⟩
  replace HB := Lib.hid (below2Z HB.out b4)
  clear b4
  go_wp2_with fail
  refine (live9 _).mono ?_
  rintro e w5 ⟨rfl, b5⟩
  replace HB := Lib.hid (below2Z HB.out b5)
  clear b5
  go_wp2_with fail
  go_ret
  exact ⟨rfl, HB.out⟩

set_option maxHeartbeats 3200000 in
set_option maxRecDepth 100000 in
theorem stwo_7 {w : World} {v : Value} {l : List Ses} (hv : Sess w v l) (au ax bu bx : List UInt8) (ai aa ab ac bi ba bb bc : Int) (h30 : l.length ≤ 30) (hw : fewSes l = true) (hm9 : seMay l = true) (hs : fewSes [⟨au, ai, ⟨aa, ab, ac, ax⟩⟩, ⟨bu, bi, ⟨ba, bb, bc, bx⟩⟩] = true) (h1 : seOne ⟨au, ai, ⟨aa, ab, ac, ax⟩⟩ = true) (h2 : seOne ⟨bu, bi, ⟨ba, bb, bc, bx⟩⟩ = true) (he : au = bu ∧ ai = bi) :
    Calls Try.prog 7 #[v, .agg #[.string ⟨au.toArray⟩, .int .i64 ai, .int .i64 aa, .int .i64 ab, .int .i64 ac, .string ⟨ax.toArray⟩], .agg #[.string ⟨bu.toArray⟩, .int .i64 bi, .int .i64 ba, .int .i64 bb, .int .i64 bc, .string ⟨bx.toArray⟩]] w fun e w' => e = .returned (.bool true) ∧ Below w.heap.size w w' := by
  have b0 := bl_newZ w (.cells #[.string ⟨au.toArray⟩, .int .i64 ai, .int .i64 aa, .int .i64 ab, .int .i64 ac, .string ⟨ax.toArray⟩] 34)
  have b00 := bl_newZ (w.alloc (.cells #[.string ⟨au.toArray⟩, .int .i64 ai, .int .i64 aa, .int .i64 ab, .int .i64 ac, .string ⟨ax.toArray⟩] 34)) (.cells #[.string ⟨bu.toArray⟩, .int .i64 bi, .int .i64 ba, .int .i64 bb, .int .i64 bc, .string ⟨bx.toArray⟩] 34)
  have HB := Lib.hid (below2Z b0 b00)
  have DA := Lib.hid ((cellsAt_made (w := w) (cs := #[.string ⟨au.toArray⟩, .int .i64 ai, .int .i64 aa, .int .i64 ab, .int .i64 ac, .string ⟨ax.toArray⟩]) (vs := sesVals ⟨au, ai, ⟨aa, ab, ac, ax⟩⟩) rfl 34 rfl).later b00)
  have DB := Lib.hid (cellsAt_made (w := w.alloc (.cells #[.string ⟨au.toArray⟩, .int .i64 ai, .int .i64 aa, .int .i64 ab, .int .i64 ac, .string ⟨ax.toArray⟩] 34)) (cs := #[.string ⟨bu.toArray⟩, .int .i64 bi, .int .i64 ba, .int .i64 bb, .int .i64 bc, .string ⟨bx.toArray⟩]) (vs := sesVals ⟨bu, bi, ⟨ba, bb, bc, bx⟩⟩) rfl 34 (B := w.heap.size + 1) (by simp))
  have V := Lib.hid (hv.later (below2Z b0 b00))
  have HF := Lib.hid (few09_eq V.out hw)
  have HS := Lib.hid (few_shortW hw)
  have HF2 : Hid (∀ (w0 : World) (B : Nat), B = w0.heap.size → Calls Try.prog 15 #[.slice (some ⟨B, 0, none⟩) 2 2] (w0.alloc (.cells #[.string ⟨au.toArray⟩, .int .i64 ai, .int .i64 aa, .int .i64 ab, .int .i64 ac, .string ⟨ax.toArray⟩, .string ⟨bu.toArray⟩, .int .i64 bi, .int .i64 ba, .int .i64 bb, .int .i64 bc, .string ⟨bx.toArray⟩] 34)) fun e w1 => e = .returned (.bool true) ∧ w0.alloc (.cells #[.string ⟨au.toArray⟩, .int .i64 ai, .int .i64 aa, .int .i64 ab, .int .i64 ac, .string ⟨ax.toArray⟩, .string ⟨bu.toArray⟩, .int .i64 bi, .int .i64 ba, .int .i64 bb, .int .i64 bc, .string ⟨bx.toArray⟩] 34) = w1) := Lib.hid (fun w0 B hB => few09_eq (rdS_made sesOK (l := [⟨au, ai, ⟨aa, ab, ac, ax⟩⟩, ⟨bu, bi, ⟨ba, bb, bc, bx⟩⟩]) rfl (by simp) hB) hs)
  have sa := few_shortW hs ⟨au, ai, ⟨aa, ab, ac, ax⟩⟩ (by simp)
  have sb := few_shortW hs ⟨bu, bi, ⟨ba, bb, bc, bx⟩⟩ (by simp)
  try simp only at sa sb
  obtain ⟨sa1, sa2⟩ := sa
  obtain ⟨sb1, sb2⟩ := sb
  obtain ⟨ao, cap, rfl, hm⟩ := hv.open'
  clear b0 b00 hv
  obtain ⟨mA, hA⟩ : ∃ m, putO seLt seIs l ⟨au, ai, ⟨aa, ab, ac, ax⟩⟩ = m := ⟨_, rfl⟩
  obtain ⟨mB, hB⟩ : ∃ m, putO seLt seIs l ⟨bu, bi, ⟨ba, bb, bc, bx⟩⟩ = m := ⟨_, rfl⟩
  have p1 : sePut l ⟨au, ai, ⟨aa, ab, ac, ax⟩⟩ = (mA, 0) := by rw [← hA]; exact sePut_new2 hm9 h1 (by omega)
  have p2 : sePut l ⟨bu, bi, ⟨ba, bb, bc, bx⟩⟩ = (mB, 0) := by rw [← hB]; exact sePut_new2 hm9 h2 (by omega)
  have mmA := put_may p1
  have mmB := put_may p2
  have lA : mA.length ≤ 31 := by rw [← hA]; have := putO_le l ⟨au, ai, ⟨aa, ab, ac, ax⟩⟩; omega
  have lB : mB.length ≤ 31 := by rw [← hB]; have := putO_le l ⟨bu, bi, ⟨ba, bb, bc, bx⟩⟩; omega
  have hri := (seMay_rise hm9).2.1
  have p5 : sePut mA ⟨au, ai, ⟨aa, ab, ac, ax⟩⟩ = (mA, 0) := by rw [sePut_new2 mmA h1 (by omega), ← hA, put_put seOrd hri (seOrd.refl _)]
  have p3 : sePut mA ⟨bu, bi, ⟨ba, bb, bc, bx⟩⟩ = (mB, 0) := by rw [sePut_new2 mmA h2 (by omega), ← hA, put_put seOrd hri (seIs_iff.2 he), hB]
  have p4 : sePut mB ⟨au, ai, ⟨aa, ab, ac, ax⟩⟩ = (mA, 0) := by rw [sePut_new2 mmB h1 (by omega), ← hB, put_put seOrd hri (seIs_iff.2 ⟨he.1.symm, he.2.symm⟩), hA]
  have sA : ShortS mA := fun z hz => by rw [← hA, mem_putO seOrd hri] at hz; exact hz.elim (fun e => by rw [e]; exact ⟨sa1, sa2⟩) (fun h => HS.out z h.1)
  have sB : ShortS mB := fun z hz => by rw [← hB, mem_putO seOrd hri] at hz; exact hz.elim (fun e => by rw [e]; exact ⟨sb1, sb2⟩) (fun h => HS.out z h.1)
  have P1 := Lib.hid p1
  have P2 := Lib.hid p2
  have P3 := Lib.hid p3
  have P4 := Lib.hid p4
  have P5 := Lib.hid p5
  have SA := Lib.hid sA
  have SB := Lib.hid sB
  have t2 : (au == bu) = true := by rw [beq_iff_eq]; exact he.1
  have t3 : (ai == bi) = true := by rw [beq_iff_eq]; exact he.2
  clear p1 p2 p3 p4 p5 sA sB mmA mmB lA lB hri hA hB
  have HO := Lib.hid h1
  have HO2 := Lib.hid h2
  clear h1 h2 he
  have t1 : decide (30 < (l.length : Int)) = false := by rw [decide_eq_false_iff_not]; omega
  have HM9 := Lib.hid hm9
  clear h30 hw hm9
  go_enter Try.func7, Try.ntmps7
  go_wp2_with fail
  refine HF.out.mono ?_
  rintro e w0 ⟨rfl, rfl⟩
  go_wp2_with fail
  refine (rsmay9_any V.out HS.out HM9).mono ?_
  rintro e w1 ⟨rfl, b1⟩
  replace V := Lib.hid (V.out.later b1)
  replace DA := Lib.hid (DA.out.later b1)
  replace DB := Lib.hid (DB.out.later b1)
  replace HB := Lib.hid (below2Z HB.out b1)
  clear b1
  obtain ⟨a0, a1, a2, a3, a4, a5⟩ := sixS_of DA.out
  obtain ⟨b0, b1, b2, b3, b4, b5⟩ := sixS_of DB.out
  go_wp2_with fail
  refine (HF2.out _ _ rfl).mono ?_
  rintro e w0 ⟨rfl, rfl⟩
  have b2 := bl_newZ w1 (.cells #[.string ⟨au.toArray⟩, .int .i64 ai, .int .i64 aa, .int .i64 ab, .int .i64 ac, .string ⟨ax.toArray⟩, .string ⟨bu.toArray⟩, .int .i64 bi, .int .i64 ba, .int .i64 bb, .int .i64 bc, .string ⟨bx.toArray⟩] 34)
  replace V := Lib.hid (V.out.later b2)
  replace DA := Lib.hid (DA.out.later b2)
  replace DB := Lib.hid (DB.out.later b2)
  replace HB := Lib.hid (below2Z HB.out b2)
  clear b2
  clear a0 a1 a2 a3 a4 a5 b0 b1 b2 b3 b4 b5
  obtain ⟨a0, a1, a2, a3, a4, a5⟩ := sixS_of DA.out
  go_wp2_with fail
  refine (rone_any au ax ai aa ab ac sa1 sa2 HO _).mono ?_
  rintro e w3 ⟨rfl, b3⟩
  replace V := Lib.hid (V.out.later b3)
  replace DA := Lib.hid (DA.out.later b3)
  replace DB := Lib.hid (DB.out.later b3)
  replace HB := Lib.hid (below2Z HB.out b3)
  clear b3
  clear a0 a1 a2 a3 a4 a5
  obtain ⟨b0, b1, b2, b3, b4, b5⟩ := sixS_of DB.out
  go_wp2_with fail
  refine (rone_any bu bx bi ba bb bc sb1 sb2 HO2 _).mono ?_
  rintro e w4 ⟨rfl, b4⟩
  replace V := Lib.hid (V.out.later b4)
  replace DA := Lib.hid (DA.out.later b4)
  replace DB := Lib.hid (DB.out.later b4)
  replace HB := Lib.hid (below2Z HB.out b4)
  clear b4
  clear b0 b1 b2 b3 b4 b5
  obtain ⟨a0, a1, a2, a3, a4, a5⟩ := sixS_of DA.out
  go_wp2_with fail
  refine (sput_any V.out HS.out ⟨au, ai, ⟨aa, ab, ac, ax⟩⟩ sa1 sa2 P1).mono ?_
  rintro e w5 ⟨x1, rfl, h1, b5⟩
  replace V := Lib.hid (V.out.later b5)
  replace DA := Lib.hid (DA.out.later b5)
  replace DB := Lib.hid (DB.out.later b5)
  replace HB := Lib.hid (below2Z HB.out b5)
  have X1 := Lib.hid (h1)
  clear h1 a0 a1 a2 a3 a4 a5
  clear b5
  obtain ⟨b0, b1, b2, b3, b4, b5⟩ := sixS_of DB.out
  go_wp2_with fail
  refine (sput_any V.out HS.out ⟨bu, bi, ⟨ba, bb, bc, bx⟩⟩ sb1 sb2 P2).mono ?_
  rintro e w6 ⟨x2, rfl, h2, b6⟩
  replace V := Lib.hid (V.out.later b6)
  replace DA := Lib.hid (DA.out.later b6)
  replace DB := Lib.hid (DB.out.later b6)
  replace X1 := Lib.hid (X1.out.later b6)
  replace HB := Lib.hid (below2Z HB.out b6)
  have X2 := Lib.hid (h2)
  clear h2 b0 b1 b2 b3 b4 b5
  clear b6
  obtain ⟨b0, b1, b2, b3, b4, b5⟩ := sixS_of DB.out
  go_wp2_with fail
  refine (sput_any X1.out SA.out ⟨bu, bi, ⟨ba, bb, bc, bx⟩⟩ sb1 sb2 P3).mono ?_
  rintro e w7 ⟨x3, rfl, h3, b7⟩
  replace V := Lib.hid (V.out.later b7)
  replace DA := Lib.hid (DA.out.later b7)
  replace DB := Lib.hid (DB.out.later b7)
  replace X1 := Lib.hid (X1.out.later b7)
  replace X2 := Lib.hid (X2.out.later b7)
  replace HB := Lib.hid (below2Z HB.out b7)
  have X3 := Lib.hid (h3)
  clear h3 b0 b1 b2 b3 b4 b5
  clear b7
  obtain ⟨a0, a1, a2, a3, a4, a5⟩ := sixS_of DA.out
  go_wp2_with fail
  refine (sput_any X2.out SB.out ⟨au, ai, ⟨aa, ab, ac, ax⟩⟩ sa1 sa2 P4).mono ?_
  rintro e w8 ⟨x4, rfl, h4, b8⟩
  replace V := Lib.hid (V.out.later b8)
  replace DA := Lib.hid (DA.out.later b8)
  replace DB := Lib.hid (DB.out.later b8)
  replace X1 := Lib.hid (X1.out.later b8)
  replace X2 := Lib.hid (X2.out.later b8)
  replace X3 := Lib.hid (X3.out.later b8)
  replace HB := Lib.hid (below2Z HB.out b8)
  have X4 := Lib.hid (h4)
  clear h4 a0 a1 a2 a3 a4 a5
  clear b8
  obtain ⟨a0, a1, a2, a3, a4, a5⟩ := sixS_of DA.out
  go_wp2_with fail
  refine (sput_any X1.out SA.out ⟨au, ai, ⟨aa, ab, ac, ax⟩⟩ sa1 sa2 P5).mono ?_
  rintro e w9 ⟨x5, rfl, h5, b9⟩
  replace V := Lib.hid (V.out.later b9)
  replace DA := Lib.hid (DA.out.later b9)
  replace DB := Lib.hid (DB.out.later b9)
  replace X1 := Lib.hid (X1.out.later b9)
  replace X2 := Lib.hid (X2.out.later b9)
  replace X3 := Lib.hid (X3.out.later b9)
  replace X4 := Lib.hid (X4.out.later b9)
  replace HB := Lib.hid (below2Z HB.out b9)
  have X5 := Lib.hid (h5)
  clear h5 a0 a1 a2 a3 a4 a5
  clear b9
  go_wp2_with fail
  refine (rssame_any X1.out X5.out (Lib.hid (sessSame_self _))).mono ?_
  rintro e w10 ⟨rfl, b10⟩
  replace V := Lib.hid (V.out.later b10)
  replace DA := Lib.hid (DA.out.later b10)
  replace DB := Lib.hid (DB.out.later b10)
  replace X1 := Lib.hid (X1.out.later b10)
  replace X2 := Lib.hid (X2.out.later b10)
  replace X3 := Lib.hid (X3.out.later b10)
  replace X4 := Lib.hid (X4.out.later b10)
  replace X5 := Lib.hid (X5.out.later b10)
  replace HB := Lib.hid (below2Z HB.out b10)
  clear b10
  obtain ⟨a0, a1, a2, a3, a4, a5⟩ := sixS_of DA.out
  obtain ⟨b0, b1, b2, b3, b4, b5⟩ := sixS_of DB.out
  go_wp2_with fail
  refine (rssame_any X3.out X2.out (Lib.hid (sessSame_self _))).mono ?_
  rintro e w11 ⟨rfl, b11⟩
  replace X1 := Lib.hid (X1.out.later b11)
  replace X2 := Lib.hid (X2.out.later b11)
  replace X3 := Lib.hid (X3.out.later b11)
  replace X4 := Lib.hid (X4.out.later b11)
  replace HB := Lib.hid (below2Z HB.out b11)
  clear b11
  go_wp2_with fail
  refine (rssame_any X4.out X1.out (Lib.hid (sessSame_self _))).mono ?_
  rintro e w12 ⟨rfl, b12⟩
  replace X1 := Lib.hid (X1.out.later b12)
  replace X2 := Lib.hid (X2.out.later b12)
  replace X3 := Lib.hid (X3.out.later b12)
  replace X4 := Lib.hid (X4.out.later b12)
  replace HB := Lib.hid (below2Z HB.out b12)
  clear b12
  go_wp2_with fail
  refine (live9 _).mono ?_
  rintro e w13 ⟨rfl, b13⟩
  replace HB := Lib.hid (below2Z HB.out b13)
  clear b13
  go_wp2_with fail
  go_ret
  exact ⟨rfl, HB.out⟩

set_option maxHeartbeats 3200000 in
set_option maxRecDepth 100000 in
theorem stwo_8 {w : World} {v : Value} {l : List Ses} (hv : Sess w v l) (au ax bu bx : List UInt8) (ai aa ab ac bi ba bb bc : Int) (h30 : l.length ≤ 30) (hw : fewSes l = true) (hm9 : seMay l = true) (hs : fewSes [⟨au, ai, ⟨aa, ab, ac, ax⟩⟩, ⟨bu, bi, ⟨ba, bb, bc, bx⟩⟩] = true) (h1 : seOne ⟨au, ai, ⟨aa, ab, ac, ax⟩⟩ = true) (h2 : seOne ⟨bu, bi, ⟨ba, bb, bc, bx⟩⟩ = true) (he : ¬ (au = bu ∧ ai = bi)) :
    Calls Try.prog 7 #[v, .agg #[.string ⟨au.toArray⟩, .int .i64 ai, .int .i64 aa, .int .i64 ab, .int .i64 ac, .string ⟨ax.toArray⟩], .agg #[.string ⟨bu.toArray⟩, .int .i64 bi, .int .i64 ba, .int .i64 bb, .int .i64 bc, .string ⟨bx.toArray⟩]] w fun e w' => e = .returned (.bool true) ∧ Below w.heap.size w w' := by
  have b0 := bl_newZ w (.cells #[.string ⟨au.toArray⟩, .int .i64 ai, .int .i64 aa, .int .i64 ab, .int .i64 ac, .string ⟨ax.toArray⟩] 34)
  have b00 := bl_newZ (w.alloc (.cells #[.string ⟨au.toArray⟩, .int .i64 ai, .int .i64 aa, .int .i64 ab, .int .i64 ac, .string ⟨ax.toArray⟩] 34)) (.cells #[.string ⟨bu.toArray⟩, .int .i64 bi, .int .i64 ba, .int .i64 bb, .int .i64 bc, .string ⟨bx.toArray⟩] 34)
  have HB := Lib.hid (below2Z b0 b00)
  have DA := Lib.hid ((cellsAt_made (w := w) (cs := #[.string ⟨au.toArray⟩, .int .i64 ai, .int .i64 aa, .int .i64 ab, .int .i64 ac, .string ⟨ax.toArray⟩]) (vs := sesVals ⟨au, ai, ⟨aa, ab, ac, ax⟩⟩) rfl 34 rfl).later b00)
  have DB := Lib.hid (cellsAt_made (w := w.alloc (.cells #[.string ⟨au.toArray⟩, .int .i64 ai, .int .i64 aa, .int .i64 ab, .int .i64 ac, .string ⟨ax.toArray⟩] 34)) (cs := #[.string ⟨bu.toArray⟩, .int .i64 bi, .int .i64 ba, .int .i64 bb, .int .i64 bc, .string ⟨bx.toArray⟩]) (vs := sesVals ⟨bu, bi, ⟨ba, bb, bc, bx⟩⟩) rfl 34 (B := w.heap.size + 1) (by simp))
  have V := Lib.hid (hv.later (below2Z b0 b00))
  have HF := Lib.hid (few09_eq V.out hw)
  have HS := Lib.hid (few_shortW hw)
  have HF2 : Hid (∀ (w0 : World) (B : Nat), B = w0.heap.size → Calls Try.prog 15 #[.slice (some ⟨B, 0, none⟩) 2 2] (w0.alloc (.cells #[.string ⟨au.toArray⟩, .int .i64 ai, .int .i64 aa, .int .i64 ab, .int .i64 ac, .string ⟨ax.toArray⟩, .string ⟨bu.toArray⟩, .int .i64 bi, .int .i64 ba, .int .i64 bb, .int .i64 bc, .string ⟨bx.toArray⟩] 34)) fun e w1 => e = .returned (.bool true) ∧ w0.alloc (.cells #[.string ⟨au.toArray⟩, .int .i64 ai, .int .i64 aa, .int .i64 ab, .int .i64 ac, .string ⟨ax.toArray⟩, .string ⟨bu.toArray⟩, .int .i64 bi, .int .i64 ba, .int .i64 bb, .int .i64 bc, .string ⟨bx.toArray⟩] 34) = w1) := Lib.hid (fun w0 B hB => few09_eq (rdS_made sesOK (l := [⟨au, ai, ⟨aa, ab, ac, ax⟩⟩, ⟨bu, bi, ⟨ba, bb, bc, bx⟩⟩]) rfl (by simp) hB) hs)
  have sa := few_shortW hs ⟨au, ai, ⟨aa, ab, ac, ax⟩⟩ (by simp)
  have sb := few_shortW hs ⟨bu, bi, ⟨ba, bb, bc, bx⟩⟩ (by simp)
  try simp only at sa sb
  obtain ⟨sa1, sa2⟩ := sa
  obtain ⟨sb1, sb2⟩ := sb
  obtain ⟨ao, cap, rfl, hm⟩ := hv.open'
  clear b0 b00 hv
  obtain ⟨mA, hA⟩ : ∃ m, putO seLt seIs l ⟨au, ai, ⟨aa, ab, ac, ax⟩⟩ = m := ⟨_, rfl⟩
  obtain ⟨mB, hB⟩ : ∃ m, putO seLt seIs l ⟨bu, bi, ⟨ba, bb, bc, bx⟩⟩ = m := ⟨_, rfl⟩
  have p1 : sePut l ⟨au, ai, ⟨aa, ab, ac, ax⟩⟩ = (mA, 0) := by rw [← hA]; exact sePut_new2 hm9 h1 (by omega)
  have p2 : sePut l ⟨bu, bi, ⟨ba, bb, bc, bx⟩⟩ = (mB, 0) := by rw [← hB]; exact sePut_new2 hm9 h2 (by omega)
  have mmA := put_may p1
  have mmB := put_may p2
  have lA : mA.length ≤ 31 := by rw [← hA]; have := putO_le l ⟨au, ai, ⟨aa, ab, ac, ax⟩⟩; omega
  have lB : mB.length ≤ 31 := by rw [← hB]; have := putO_le l ⟨bu, bi, ⟨ba, bb, bc, bx⟩⟩; omega
  have hri := (seMay_rise hm9).2.1
  have p5 : sePut mA ⟨au, ai, ⟨aa, ab, ac, ax⟩⟩ = (mA, 0) := by rw [sePut_new2 mmA h1 (by omega), ← hA, put_put seOrd hri (seOrd.refl _)]
  obtain ⟨mC, hC⟩ : ∃ m, putO seLt seIs mA ⟨bu, bi, ⟨ba, bb, bc, bx⟩⟩ = m := ⟨_, rfl⟩
  have p3 : sePut mA ⟨bu, bi, ⟨ba, bb, bc, bx⟩⟩ = (mC, 0) := by rw [sePut_new2 mmA h2 (by omega), hC]
  have p4 : sePut mB ⟨au, ai, ⟨aa, ab, ac, ax⟩⟩ = (mC, 0) := by rw [sePut_new2 mmB h1 (by omega), ← hC, ← hA, ← hB]; exact congrArg (fun z => (z, 0)) (put_comm seOrd hri (Bool.eq_false_iff.2 (fun h => he (seIs_iff.1 h)))).symm
  have sA : ShortS mA := fun z hz => by rw [← hA, mem_putO seOrd hri] at hz; exact hz.elim (fun e => by rw [e]; exact ⟨sa1, sa2⟩) (fun h => HS.out z h.1)
  have sB : ShortS mB := fun z hz => by rw [← hB, mem_putO seOrd hri] at hz; exact hz.elim (fun e => by rw [e]; exact ⟨sb1, sb2⟩) (fun h => HS.out z h.1)
  have P1 := Lib.hid p1
  have P2 := Lib.hid p2
  have P3 := Lib.hid p3
  have P4 := Lib.hid p4
  have P5 := Lib.hid p5
  have SA := Lib.hid sA
  have SB := Lib.hid sB
  have HE := Lib.hid he
  clear p1 p2 p3 p4 p5 sA sB mmA mmB lA lB hri hA hB hC
  have HO := Lib.hid h1
  have HO2 := Lib.hid h2
  clear h1 h2 he
  have t1 : decide (30 < (l.length : Int)) = false := by rw [decide_eq_false_iff_not]; omega
  have HM9 := Lib.hid hm9
  clear h30 hw hm9
  go_enter Try.func7, Try.ntmps7
  go_wp2_with fail
  refine HF.out.mono ?_
  rintro e w0 ⟨rfl, rfl⟩
  go_wp2_with fail
  refine (rsmay9_any V.out HS.out HM9).mono ?_
  rintro e w1 ⟨rfl, b1⟩
  replace V := Lib.hid (V.out.later b1)
  replace DA := Lib.hid (DA.out.later b1)
  replace DB := Lib.hid (DB.out.later b1)
  replace HB := Lib.hid (below2Z HB.out b1)
  clear b1
  obtain ⟨a0, a1, a2, a3, a4, a5⟩ := sixS_of DA.out
  obtain ⟨b0, b1, b2, b3, b4, b5⟩ := sixS_of DB.out
  go_wp2_with fail
  refine (HF2.out _ _ rfl).mono ?_
  rintro e w0 ⟨rfl, rfl⟩
  have b2 := bl_newZ w1 (.cells #[.string ⟨au.toArray⟩, .int .i64 ai, .int .i64 aa, .int .i64 ab, .int .i64 ac, .string ⟨ax.toArray⟩, .string ⟨bu.toArray⟩, .int .i64 bi, .int .i64 ba, .int .i64 bb, .int .i64 bc, .string ⟨bx.toArray⟩] 34)
  replace V := Lib.hid (V.out.later b2)
  replace DA := Lib.hid (DA.out.later b2)
  replace DB := Lib.hid (DB.out.later b2)
  replace HB := Lib.hid (below2Z HB.out b2)
  clear b2
  clear a0 a1 a2 a3 a4 a5 b0 b1 b2 b3 b4 b5
  obtain ⟨a0, a1, a2, a3, a4, a5⟩ := sixS_of DA.out
  go_wp2_with fail
  refine (rone_any au ax ai aa ab ac sa1 sa2 HO _).mono ?_
  rintro e w3 ⟨rfl, b3⟩
  replace V := Lib.hid (V.out.later b3)
  replace DA := Lib.hid (DA.out.later b3)
  replace DB := Lib.hid (DB.out.later b3)
  replace HB := Lib.hid (below2Z HB.out b3)
  clear b3
  clear a0 a1 a2 a3 a4 a5
  obtain ⟨b0, b1, b2, b3, b4, b5⟩ := sixS_of DB.out
  go_wp2_with fail
  refine (rone_any bu bx bi ba bb bc sb1 sb2 HO2 _).mono ?_
  rintro e w4 ⟨rfl, b4⟩
  replace V := Lib.hid (V.out.later b4)
  replace DA := Lib.hid (DA.out.later b4)
  replace DB := Lib.hid (DB.out.later b4)
  replace HB := Lib.hid (below2Z HB.out b4)
  clear b4
  clear b0 b1 b2 b3 b4 b5
  obtain ⟨a0, a1, a2, a3, a4, a5⟩ := sixS_of DA.out
  go_wp2_with fail
  refine (sput_any V.out HS.out ⟨au, ai, ⟨aa, ab, ac, ax⟩⟩ sa1 sa2 P1).mono ?_
  rintro e w5 ⟨x1, rfl, h1, b5⟩
  replace V := Lib.hid (V.out.later b5)
  replace DA := Lib.hid (DA.out.later b5)
  replace DB := Lib.hid (DB.out.later b5)
  replace HB := Lib.hid (below2Z HB.out b5)
  have X1 := Lib.hid (h1)
  clear h1 a0 a1 a2 a3 a4 a5
  clear b5
  obtain ⟨b0, b1, b2, b3, b4, b5⟩ := sixS_of DB.out
  go_wp2_with fail
  refine (sput_any V.out HS.out ⟨bu, bi, ⟨ba, bb, bc, bx⟩⟩ sb1 sb2 P2).mono ?_
  rintro e w6 ⟨x2, rfl, h2, b6⟩
  replace V := Lib.hid (V.out.later b6)
  replace DA := Lib.hid (DA.out.later b6)
  replace DB := Lib.hid (DB.out.later b6)
  replace X1 := Lib.hid (X1.out.later b6)
  replace HB := Lib.hid (below2Z HB.out b6)
  have X2 := Lib.hid (h2)
  clear h2 b0 b1 b2 b3 b4 b5
  clear b6
  obtain ⟨b0, b1, b2, b3, b4, b5⟩ := sixS_of DB.out
  go_wp2_with fail
  refine (sput_any X1.out SA.out ⟨bu, bi, ⟨ba, bb, bc, bx⟩⟩ sb1 sb2 P3).mono ?_
  rintro e w7 ⟨x3, rfl, h3, b7⟩
  replace V := Lib.hid (V.out.later b7)
  replace DA := Lib.hid (DA.out.later b7)
  replace DB := Lib.hid (DB.out.later b7)
  replace X1 := Lib.hid (X1.out.later b7)
  replace X2 := Lib.hid (X2.out.later b7)
  replace HB := Lib.hid (below2Z HB.out b7)
  have X3 := Lib.hid (h3)
  clear h3 b0 b1 b2 b3 b4 b5
  clear b7
  obtain ⟨a0, a1, a2, a3, a4, a5⟩ := sixS_of DA.out
  go_wp2_with fail
  refine (sput_any X2.out SB.out ⟨au, ai, ⟨aa, ab, ac, ax⟩⟩ sa1 sa2 P4).mono ?_
  rintro e w8 ⟨x4, rfl, h4, b8⟩
  replace V := Lib.hid (V.out.later b8)
  replace DA := Lib.hid (DA.out.later b8)
  replace DB := Lib.hid (DB.out.later b8)
  replace X1 := Lib.hid (X1.out.later b8)
  replace X2 := Lib.hid (X2.out.later b8)
  replace X3 := Lib.hid (X3.out.later b8)
  replace HB := Lib.hid (below2Z HB.out b8)
  have X4 := Lib.hid (h4)
  clear h4 a0 a1 a2 a3 a4 a5
  clear b8
  obtain ⟨a0, a1, a2, a3, a4, a5⟩ := sixS_of DA.out
  go_wp2_with fail
  refine (sput_any X1.out SA.out ⟨au, ai, ⟨aa, ab, ac, ax⟩⟩ sa1 sa2 P5).mono ?_
  rintro e w9 ⟨x5, rfl, h5, b9⟩
  replace V := Lib.hid (V.out.later b9)
  replace DA := Lib.hid (DA.out.later b9)
  replace DB := Lib.hid (DB.out.later b9)
  replace X1 := Lib.hid (X1.out.later b9)
  replace X2 := Lib.hid (X2.out.later b9)
  replace X3 := Lib.hid (X3.out.later b9)
  replace X4 := Lib.hid (X4.out.later b9)
  replace HB := Lib.hid (below2Z HB.out b9)
  have X5 := Lib.hid (h5)
  clear h5 a0 a1 a2 a3 a4 a5
  clear b9
  go_wp2_with fail
  refine (rssame_any X1.out X5.out (Lib.hid (sessSame_self _))).mono ?_
  rintro e w10 ⟨rfl, b10⟩
  replace V := Lib.hid (V.out.later b10)
  replace DA := Lib.hid (DA.out.later b10)
  replace DB := Lib.hid (DB.out.later b10)
  replace X1 := Lib.hid (X1.out.later b10)
  replace X2 := Lib.hid (X2.out.later b10)
  replace X3 := Lib.hid (X3.out.later b10)
  replace X4 := Lib.hid (X4.out.later b10)
  replace X5 := Lib.hid (X5.out.later b10)
  replace HB := Lib.hid (below2Z HB.out b10)
  clear b10
  obtain ⟨a0, a1, a2, a3, a4, a5⟩ := sixS_of DA.out
  obtain ⟨b0, b1, b2, b3, b4, b5⟩ := sixS_of DB.out
  by_cases hu : au = bu
  · have t2 : (au == bu) = true := by rw [beq_iff_eq]; exact hu
    have t3 : (ai == bi) = false := by rw [beq_eq_false_iff_ne]; exact fun h => HE.out ⟨hu, h⟩
    clear hu
    go_wp2_with fail
    refine (rssame_any X3.out X4.out (Lib.hid (sessSame_self _))).mono ?_
    rintro e w11 ⟨rfl, b11⟩
    replace HB := Lib.hid (below2Z HB.out b11)
    clear b11
    go_wp2_with fail
    refine (live9 _).mono ?_
    rintro e w12 ⟨rfl, b12⟩
    replace HB := Lib.hid (below2Z HB.out b12)
    clear b12
    go_wp2_with fail
    go_ret
    exact ⟨rfl, HB.out⟩
  · have t2 : (au == bu) = false := by rw [beq_eq_false_iff_ne]; exact hu
    clear hu
    go_wp2_with fail
    refine (rssame_any X3.out X4.out (Lib.hid (sessSame_self _))).mono ?_
    rintro e w11 ⟨rfl, b11⟩
    replace HB := Lib.hid (below2Z HB.out b11)
    clear b11
    go_wp2_with fail
    refine (live9 _).mono ?_
    rintro e w12 ⟨rfl, b12⟩
    replace HB := Lib.hid (below2Z HB.out b12)
    clear b12
    go_wp2_with fail
    go_ret
    exact ⟨rfl, HB.out⟩

theorem walkSessTwo {w : World} {v : Value} {l : List Ses} (hv : Sess w v l) (_ : ∀ s ∈ l, SesFit s) (a : Ses) (_ : SesFit a) (b : Ses) (_ : SesFit b) :
    Calls Try.prog 7 #[v, .agg #[.string ⟨a.u.toArray⟩, .int .i64 a.id, .int .i64 a.v.sh, .int .i64 a.v.pr, .int .i64 a.v.si, .string ⟨a.v.st.toArray⟩], .agg #[.string ⟨b.u.toArray⟩, .int .i64 b.id, .int .i64 b.v.sh, .int .i64 b.v.pr, .int .i64 b.v.si, .string ⟨b.v.st.toArray⟩]] w fun e w' => e = .returned (.bool true) ∧ Below w.heap.size w w' := by
  by_cases h30 : l.length ≤ 30
  · cases hw : fewSes l with
    | false => exact stwo_2 hv a.u a.v.st b.u b.v.st a.id a.v.sh a.v.pr a.v.si b.id b.v.sh b.v.pr b.v.si h30 hw
    | true =>
      cases hm : seMay l with
      | false => exact stwo_3 hv a.u a.v.st b.u b.v.st a.id a.v.sh a.v.pr a.v.si b.id b.v.sh b.v.pr b.v.si h30 hw hm
      | true =>
        cases hs : fewSes [a, b] with
        | false => exact stwo_4 hv a.u a.v.st b.u b.v.st a.id a.v.sh a.v.pr a.v.si b.id b.v.sh b.v.pr b.v.si h30 hw hm hs
        | true =>
          cases h1 : seOne a with
          | false => exact stwo_5 hv a.u a.v.st b.u b.v.st a.id a.v.sh a.v.pr a.v.si b.id b.v.sh b.v.pr b.v.si h30 hw hm hs h1
          | true =>
            cases h2 : seOne b with
            | false => exact stwo_6 hv a.u a.v.st b.u b.v.st a.id a.v.sh a.v.pr a.v.si b.id b.v.sh b.v.pr b.v.si h30 hw hm hs h1 h2
            | true =>
              by_cases he : a.u = b.u ∧ a.id = b.id
              · exact stwo_7 hv a.u a.v.st b.u b.v.st a.id a.v.sh a.v.pr a.v.si b.id b.v.sh b.v.pr b.v.si h30 hw hm hs h1 h2 he
              · exact stwo_8 hv a.u a.v.st b.u b.v.st a.id a.v.sh a.v.pr a.v.si b.id b.v.sh b.v.pr b.v.si h30 hw hm hs h1 h2 he
  · exact stwo_1 hv a.u a.v.st b.u b.v.st a.id a.v.sh a.v.pr a.v.si b.id b.v.sh b.v.pr b.v.si h30

end Go.Proofs.Ytkmbnpjnjlcjmaa
