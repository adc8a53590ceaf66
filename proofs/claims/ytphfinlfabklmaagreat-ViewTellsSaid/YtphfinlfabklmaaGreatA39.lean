/-
  TEXTS OF THE PROOF, one behind the other: ViewLive.
-/
import Derived.Test.YtphfinlfabklmaaGreatA32
import Derived.Test.YtphfinlfabklmaaGreatA16
import Derived.Test.YtphfinlfabklmaaGreatA36
import Derived.Test.YtphfinlfabklmaaGreatA38
import Derived.Test.YtphfinlfabklmaaGreatA37

/-
  LAYER 15: the document's live answers.
-/
namespace Go.Proofs.YtphfinlfabklmaaGreat
open Go.RowKit

def lwV : Val := ⟨4, 2, 0, []⟩
def lwE : List Ev := [⟨7, [97, 110, 110], [], 1, ⟨4, 2, 0, []⟩⟩, ⟨1, [98, 111, 98], [97, 110, 110], 0, ⟨0, 0, 0, []⟩⟩]
def lwS1 : Sta := ⟨lvM1, [⟨[97, 110, 110], 1, ⟨4, 2, 0, []⟩⟩]⟩
def lwS2 : Sta := ⟨lvM2, [⟨[97, 110, 110], 1, ⟨4, 2, 0, []⟩⟩]⟩
def lwS3 : Sta := ⟨[⟨[97, 110, 110], [98, 111, 98], ⟨false, true, false, false, false⟩⟩, ⟨[98, 111, 98], [97, 110, 110], ⟨true, false, false, false, true⟩⟩], [⟨[97, 110, 110], 1, ⟨4, 2, 0, []⟩⟩]⟩
theorem lwAll : (stAll ⟨[], []⟩ lwE).1 = lwS1 := by kernel_rfl
theorem lwNums : numsOf ⟨[], []⟩ lwE = [0, 0] := by kernel_rfl
theorem lwA1 : stApply lwS1 ⟨2, [97, 110, 110], [98, 111, 98], 0, ⟨0, 0, 0, []⟩⟩ = (lwS2, 0) := by kernel_rfl
theorem lwA2 : stApply lwS2 ⟨5, [98, 111, 98], [97, 110, 110], 0, ⟨0, 0, 0, []⟩⟩ = (lwS3, 0) := by kernel_rfl
theorem lwM1 : stMay lwS1 = true := by kernel_rfl
theorem lwM2 : stMay lwS2 = true := by kernel_rfl
theorem lwM3 : stMay lwS3 = true := by kernel_rfl
theorem lwVa : vwValue lwS2 [98, 111, 98] [97, 110, 110] = (⟨4, 2, 0, []⟩, true) := by kernel_rfl
theorem lwVb : vwValue lwS2 [97, 110, 110] [98, 111, 98] = (⟨0, 0, 0, []⟩, false) := by kernel_rfl
theorem lwO1 : vwOf lwS1 [98, 111, 98] = [] := by kernel_rfl
theorem lwO2 : vwOf lwS2 [98, 111, 98] = [⟨[97, 110, 110], ⟨4, 2, 0, []⟩⟩] := by kernel_rfl
theorem lwW2 : vwWat lwS2 [97, 110, 110] = [[98, 111, 98]] := by kernel_rfl
theorem lwW3 : vwWat lwS3 [97, 110, 110] = [] := by kernel_rfl
theorem lwB1 : vwBetween lwS1 lwS2 [98, 111, 98] = [⟨[97, 110, 110], true, ⟨4, 2, 0, []⟩⟩] := by kernel_rfl
theorem lwB2 : vwBetween lwS2 lwS3 [98, 111, 98] = [⟨[97, 110, 110], false, ⟨0, 0, 0, []⟩⟩] := by kernel_rfl
theorem lwOK0 : StOK (⟨[], []⟩ : Sta) := ⟨fun e h => by simp at h, fun e h => by simp at h⟩
theorem lwSh : ∀ e ∈ lwE, evShort e := by
  intro e h
  simp only [lwE, List.mem_cons, List.not_mem_nil, or_false] at h
  rcases h with rfl | rfl <;> (refine ⟨?_, ?_, ?_⟩ <;> decide)
theorem ents_shape {w : World} {v : Value} {l : List Ent} {n : Nat} (h : Ents w v l) (hn : l.length = n) : ∃ a c, v = .slice a n c := by
  obtain ⟨a, c, e, _⟩ := h.open'
  exact ⟨a, c, by rw [← hn]; exact e⟩
theorem rdS_shape {α : Type} {vals : α → List Value} {sz : Nat} {zero : α} {w : World} {v : Value} {l : List α} {n : Nat} (h : RdS vals sz zero w v l) (hn : l.length = n) : ∃ a c, v = .slice a n c := by
  obtain ⟨a, c, e, _⟩ := RdS.open' h
  exact ⟨a, c, by rw [← hn]; exact e⟩
theorem chgs_shapeV {w : World} {v : Value} {l : List Chg} {n : Nat} (h : Chgs w v l) (hn : l.length = n) : ∃ a c, v = .slice a n c := by
  obtain ⟨a, c, e, _⟩ := h
  exact ⟨a, c, by rw [← hn]; exact e⟩
theorem tab_shapeV {w : World} {v : Value} {l : List Row} {n : Nat} (h : Tab w v l) (hn : l.length = n) : ∃ a c, v = .slice a n c := by
  obtain ⟨a, c, e, _⟩ := h.open'
  exact ⟨a, c, by rw [← hn]; exact e⟩
theorem val_eql_self (a b c : Int) (s : List UInt8) (w : World) :
    (binOp .eql 30 (.agg #[.int .i64 a, .int .i64 b, .int .i64 c, .string ⟨s.toArray⟩]) (.agg #[.int .i64 a, .int .i64 b, .int .i64 c, .string ⟨s.toArray⟩])).run Tryz.prog w = .ok (.bool true) w := by
  have := val_eql5 a b c a b c s s w
  rwa [vSame_self] at this
theorem csame_yes {w : World} {v u : Value} {t : List Chg} (hv : Chgs w v t) (hu : Chgs w u t) :
    Calls Tryz.prog 23 #[v, u] w fun e w' => e = .returned (.bool true) ∧ Below w.heap.size w w' := by
  have h := csame_any hv hu
  rwa [csSame_self] at h

set_option maxHeartbeats 12800000 in
set_option maxRecDepth 100000 in
theorem live15 (w : World) : Calls Tryz.prog 14 #[] w fun e w' => e = .returned (.bool true) ∧ Below w.heap.size w w' := by
  have b0 := bl_newZ w (.cells #[.int .i64 4, .int .i64 2, .int .i64 0, .string ⟨#[]⟩] 30)
  have b1 := bl_newZ (w.alloc (.cells #[.int .i64 4, .int .i64 2, .int .i64 0, .string ⟨#[]⟩] 30)) (.cells #[.int .i64 7, .string ⟨#[97, 110, 110]⟩, .string ⟨#[]⟩, .int .i64 1, .int .i64 4, .int .i64 2, .int .i64 0, .string ⟨#[]⟩, .int .i64 1, .string ⟨#[98, 111, 98]⟩, .string ⟨#[97, 110, 110]⟩, .int .i64 0, .int .i64 0, .int .i64 0, .int .i64 0, .string ⟨#[]⟩] 50)
  have HB := Lib.hid (below2Z b0 b1)
  have T1 := newQ w (.cells #[.int .i64 4, .int .i64 2, .int .i64 0, .string ⟨#[]⟩] 30)
  replace T1 := upQ T1 b1
  replace T1 := Lib.hid T1
  have EB := newQ (w.alloc (.cells #[.int .i64 4, .int .i64 2, .int .i64 0, .string ⟨#[]⟩] 30)) (.cells #[.int .i64 7, .string ⟨#[97, 110, 110]⟩, .string ⟨#[]⟩, .int .i64 1, .int .i64 4, .int .i64 2, .int .i64 0, .string ⟨#[]⟩, .int .i64 1, .string ⟨#[98, 111, 98]⟩, .string ⟨#[97, 110, 110]⟩, .int .i64 0, .int .i64 0, .int .i64 0, .int .i64 0, .string ⟨#[]⟩] 50)
  rw [World.size_alloc] at EB
  replace EB := Lib.hid EB
  clear b0 b1
  have HE := Lib.hid (rdS_made evOK (w := w.alloc (.cells #[.int .i64 4, .int .i64 2, .int .i64 0, .string ⟨#[]⟩] 30)) (cs := #[.int .i64 7, .string ⟨#[97, 110, 110]⟩, .string ⟨#[]⟩, .int .i64 1, .int .i64 4, .int .i64 2, .int .i64 0, .string ⟨#[]⟩, .int .i64 1, .string ⟨#[98, 111, 98]⟩, .string ⟨#[97, 110, 110]⟩, .int .i64 0, .int .i64 0, .int .i64 0, .int .i64 0, .string ⟨#[]⟩]) (l := lwE) rfl (by decide) rfl)
  rw [World.size_alloc] at HE
  have hlE : lwE.length = 2 := rfl
  rw [hlE] at HE
  clear hlE
  clear EB
  obtain ⟨⟨T1c0, T1c1, T1c2, T1c3⟩, ⟨T1f0, T1f1, T1f2, T1f3⟩⟩ := blk4 T1.out
  go_enter Tryz.func14, Tryz.ntmps14
  go_wp2_with fail
  clear T1c0 T1c1 T1c2 T1c3 T1f0 T1f1 T1f2 T1f3
  refine (rstall_any (w := _) (x := .slice none 0 0) (y := .slice none 0 0) (t := ⟨[], []⟩) ⟨ents_nil _, rdS_nil _⟩ lwOK0 (by decide) HE.out (by decide) lwSh).mono ?_
  rintro e w3 ⟨x1, y1, u1, rfl, h1, hn1, b3⟩
  replace T1 := Lib.hid (upQ T1.out b3)
  replace HB := Lib.hid (below2Z HB.out b3)
  rw [lwAll] at h1
  rw [lwNums] at hn1
  obtain ⟨au, cu, rfl⟩ := rdS_shape hn1 (n := 2) rfl
  obtain ⟨ax1, cx1, rfl⟩ := ents_shape h1.1 (n := 2) rfl
  obtain ⟨ay1, cy1, rfl⟩ := rdS_shape h1.2 (n := 1) rfl
  have H1 := Lib.hid h1
  clear h1 hn1 HE
  clear b3
  have b4 := bl_newZ w3 (.cells #[.slice ax1 2 cx1, .slice ay1 1 cy1] 25)
  have S1 := newQ w3 (.cells #[.slice ax1 2 cx1, .slice ay1 1 cy1] 25)
  have hS1 : w.heap.size ≤ w3.heap.size := HB.out.size
  replace T1 := Lib.hid (upQ T1.out b4)
  replace H1 := Lib.hid (H1.out.later b4)
  replace HB := Lib.hid (below2Z HB.out b4)
  clear b4
  replace S1 := Lib.hid S1
  obtain ⟨⟨T1c0, T1c1, T1c2, T1c3⟩, ⟨T1f0, T1f1, T1f2, T1f3⟩⟩ := blk4 T1.out
  obtain ⟨⟨S1c0, S1c1⟩, ⟨S1f0, S1f1⟩⟩ := blk2 S1.out
  go_wp2_with fail
  clear T1c0 T1c1 T1c2 T1c3 T1f0 T1f1 T1f2 T1f3 S1c0 S1c1 S1f0 S1f1
  generalize w3.alloc (.cells #[.slice ax1 2 cx1, .slice ay1 1 cy1] 25) = w5 at T1 S1 H1 HB ⊢
  refine (rstdo_any H1.out (stOK_may lwM1).1 (by decide) (stOK_may lwM1).2 ⟨2, [97, 110, 110], [98, 111, 98], 0, ⟨0, 0, 0, []⟩⟩ (by decide) (by decide) (by decide) lwA1).mono ?_
  rintro e w6 ⟨x2, y2, rfl, h2, b6⟩
  replace T1 := Lib.hid (upQ T1.out b6)
  replace S1 := Lib.hid (upQ S1.out b6)
  replace H1 := Lib.hid (H1.out.later b6)
  replace HB := Lib.hid (below2Z HB.out b6)
  obtain ⟨ax2, cx2, rfl⟩ := ents_shape h2.1 (n := 2) rfl
  obtain ⟨ay2, cy2, rfl⟩ := rdS_shape h2.2 (n := 1) rfl
  have H2 := Lib.hid h2
  clear h2
  clear b6
  have b7 := bl_newZ w6 (.cells #[.slice ax2 2 cx2, .slice ay2 1 cy2] 25)
  have S2 := newQ w6 (.cells #[.slice ax2 2 cx2, .slice ay2 1 cy2] 25)
  have hS2 : w.heap.size ≤ w6.heap.size := HB.out.size
  replace T1 := Lib.hid (upQ T1.out b7)
  replace S1 := Lib.hid (upQ S1.out b7)
  replace H1 := Lib.hid (H1.out.later b7)
  replace H2 := Lib.hid (H2.out.later b7)
  replace HB := Lib.hid (below2Z HB.out b7)
  clear b7
  replace S2 := Lib.hid S2
  obtain ⟨⟨S1c0, S1c1⟩, ⟨S1f0, S1f1⟩⟩ := blk2 S1.out
  obtain ⟨⟨S2c0, S2c1⟩, ⟨S2f0, S2f1⟩⟩ := blk2 S2.out
  go_wp2_with fail
  clear S1c0 S1c1 S1f0 S1f1 S2c0 S2c1 S2f0 S2f1
  generalize w6.alloc (.cells #[.slice ax2 2 cx2, .slice ay2 1 cy2] 25) = w8 at T1 S1 S2 H1 H2 HB ⊢
  refine (rstdo_any H2.out (stOK_may lwM2).1 (by decide) (stOK_may lwM2).2 ⟨5, [98, 111, 98], [97, 110, 110], 0, ⟨0, 0, 0, []⟩⟩ (by decide) (by decide) (by decide) lwA2).mono ?_
  rintro e w9 ⟨x3, y3, rfl, h3, b9⟩
  replace T1 := Lib.hid (upQ T1.out b9)
  replace S1 := Lib.hid (upQ S1.out b9)
  replace S2 := Lib.hid (upQ S2.out b9)
  replace H1 := Lib.hid (H1.out.later b9)
  replace H2 := Lib.hid (H2.out.later b9)
  replace HB := Lib.hid (below2Z HB.out b9)
  obtain ⟨ax3, cx3, rfl⟩ := ents_shape h3.1 (n := 2) rfl
  obtain ⟨ay3, cy3, rfl⟩ := rdS_shape h3.2 (n := 1) rfl
  have H3 := Lib.hid h3
  clear h3
  clear b9
  have b10 := bl_newZ w9 (.cells #[.slice ax3 2 cx3, .slice ay3 1 cy3] 25)
  have S3 := newQ w9 (.cells #[.slice ax3 2 cx3, .slice ay3 1 cy3] 25)
  have hS3 : w.heap.size ≤ w9.heap.size := HB.out.size
  replace T1 := Lib.hid (upQ T1.out b10)
  replace S1 := Lib.hid (upQ S1.out b10)
  replace S2 := Lib.hid (upQ S2.out b10)
  replace H1 := Lib.hid (H1.out.later b10)
  replace H2 := Lib.hid (H2.out.later b10)
  replace H3 := Lib.hid (H3.out.later b10)
  replace HB := Lib.hid (below2Z HB.out b10)
  clear b10
  replace S3 := Lib.hid S3
  obtain ⟨⟨S1c0, S1c1⟩, ⟨S1f0, S1f1⟩⟩ := blk2 S1.out
  obtain ⟨⟨S2c0, S2c1⟩, ⟨S2f0, S2f1⟩⟩ := blk2 S2.out
  go_wp2_with fail
  clear S1c0 S1c1 S1f0 S1f1 S2c0 S2c1 S2f0 S2f1
  generalize w9.alloc (.cells #[.slice ax3 2 cx3, .slice ay3 1 cy3] 25) = w11 at T1 S1 S2 S3 H1 H2 H3 HB ⊢
  refine (vwvalue_any H2.out (stOK_may lwM2) [98, 111, 98] [97, 110, 110] (Lib.hid lwVa)).mono ?_
  rintro e w12 ⟨rfl, b12⟩
  replace T1 := Lib.hid (upQ T1.out b12)
  replace S1 := Lib.hid (upQ S1.out b12)
  replace S2 := Lib.hid (upQ S2.out b12)
  replace S3 := Lib.hid (upQ S3.out b12)
  replace H1 := Lib.hid (H1.out.later b12)
  replace H2 := Lib.hid (H2.out.later b12)
  replace H3 := Lib.hid (H3.out.later b12)
  replace HB := Lib.hid (below2Z HB.out b12)
  clear b12
  have b13 := bl_newZ w12 (.cells #[.int .i64 4, .int .i64 2, .int .i64 0, .string ⟨#[]⟩] 30)
  have VA := newQ w12 (.cells #[.int .i64 4, .int .i64 2, .int .i64 0, .string ⟨#[]⟩] 30)
  have hVA : w.heap.size ≤ w12.heap.size := HB.out.size
  replace T1 := Lib.hid (upQ T1.out b13)
  replace S1 := Lib.hid (upQ S1.out b13)
  replace S2 := Lib.hid (upQ S2.out b13)
  replace S3 := Lib.hid (upQ S3.out b13)
  replace H1 := Lib.hid (H1.out.later b13)
  replace H2 := Lib.hid (H2.out.later b13)
  replace H3 := Lib.hid (H3.out.later b13)
  replace HB := Lib.hid (below2Z HB.out b13)
  clear b13
  replace VA := Lib.hid VA
  obtain ⟨⟨S2c0, S2c1⟩, ⟨S2f0, S2f1⟩⟩ := blk2 S2.out
  go_wp2_with fail
  clear S2c0 S2c1 S2f0 S2f1
  generalize w12.alloc (.cells #[.int .i64 4, .int .i64 2, .int .i64 0, .string ⟨#[]⟩] 30) = w14 at T1 S1 S2 S3 VA H1 H2 H3 HB ⊢
  refine (vwvalue_any H2.out (stOK_may lwM2) [97, 110, 110] [98, 111, 98] (Lib.hid lwVb)).mono ?_
  rintro e w15 ⟨rfl, b15⟩
  replace T1 := Lib.hid (upQ T1.out b15)
  replace S1 := Lib.hid (upQ S1.out b15)
  replace S2 := Lib.hid (upQ S2.out b15)
  replace S3 := Lib.hid (upQ S3.out b15)
  replace VA := Lib.hid (upQ VA.out b15)
  replace H1 := Lib.hid (H1.out.later b15)
  replace H2 := Lib.hid (H2.out.later b15)
  replace H3 := Lib.hid (H3.out.later b15)
  replace HB := Lib.hid (below2Z HB.out b15)
  clear b15
  have b16 := bl_newZ w15 (.cells #[.int .i64 0, .int .i64 0, .int .i64 0, .string ⟨#[]⟩] 30)
  have VB := newQ w15 (.cells #[.int .i64 0, .int .i64 0, .int .i64 0, .string ⟨#[]⟩] 30)
  have hVB : w.heap.size ≤ w15.heap.size := HB.out.size
  replace T1 := Lib.hid (upQ T1.out b16)
  replace S1 := Lib.hid (upQ S1.out b16)
  replace S2 := Lib.hid (upQ S2.out b16)
  replace S3 := Lib.hid (upQ S3.out b16)
  replace VA := Lib.hid (upQ VA.out b16)
  replace H1 := Lib.hid (H1.out.later b16)
  replace H2 := Lib.hid (H2.out.later b16)
  replace H3 := Lib.hid (H3.out.later b16)
  replace HB := Lib.hid (below2Z HB.out b16)
  clear b16
  replace VB := Lib.hid VB
  obtain ⟨⟨S1c0, S1c1⟩, ⟨S1f0, S1f1⟩⟩ := blk2 S1.out
  obtain ⟨⟨S2c0, S2c1⟩, ⟨S2f0, S2f1⟩⟩ := blk2 S2.out
  go_wp2_with fail
  clear S1c0 S1c1 S1f0 S1f1 S2c0 S2c1 S2f0 S2f1
  generalize w15.alloc (.cells #[.int .i64 0, .int .i64 0, .int .i64 0, .string ⟨#[]⟩] 30) = w17 at T1 S1 S2 S3 VA VB H1 H2 H3 HB ⊢
  clear VB
  refine (vwbetween_any H1.out H2.out (stOK_may lwM1) (stOK_may lwM2) (by decide) (by decide) [98, 111, 98]).mono ?_
  rintro e w18 ⟨u7, rfl, hu7, b18⟩
  replace T1 := Lib.hid (upQ T1.out b18)
  replace S1 := Lib.hid (upQ S1.out b18)
  replace S2 := Lib.hid (upQ S2.out b18)
  replace S3 := Lib.hid (upQ S3.out b18)
  replace VA := Lib.hid (upQ VA.out b18)
  replace H1 := Lib.hid (H1.out.later b18)
  replace H2 := Lib.hid (H2.out.later b18)
  replace H3 := Lib.hid (H3.out.later b18)
  replace HB := Lib.hid (below2Z HB.out b18)
  rw [lwB1] at hu7
  obtain ⟨a7, c7, rfl⟩ := chgs_shapeV hu7 (n := 1) rfl
  have U7 := Lib.hid hu7
  clear hu7
  clear b18
  obtain ⟨⟨S2c0, S2c1⟩, ⟨S2f0, S2f1⟩⟩ := blk2 S2.out
  obtain ⟨⟨S3c0, S3c1⟩, ⟨S3f0, S3f1⟩⟩ := blk2 S3.out
  go_wp2_with fail
  clear S2c0 S2c1 S2f0 S2f1 S3c0 S3c1 S3f0 S3f1
  refine (vwbetween_any H2.out H3.out (stOK_may lwM2) (stOK_may lwM3) (by decide) (by decide) [98, 111, 98]).mono ?_
  rintro e w19 ⟨u8, rfl, hu8, b19⟩
  replace T1 := Lib.hid (upQ T1.out b19)
  replace S1 := Lib.hid (upQ S1.out b19)
  replace S2 := Lib.hid (upQ S2.out b19)
  replace S3 := Lib.hid (upQ S3.out b19)
  replace VA := Lib.hid (upQ VA.out b19)
  replace H1 := Lib.hid (H1.out.later b19)
  replace H2 := Lib.hid (H2.out.later b19)
  replace H3 := Lib.hid (H3.out.later b19)
  replace U7 := Lib.hid (U7.out.later b19)
  replace HB := Lib.hid (below2Z HB.out b19)
  rw [lwB2] at hu8
  obtain ⟨a8, c8, rfl⟩ := chgs_shapeV hu8 (n := 1) rfl
  have U8 := Lib.hid hu8
  clear hu8
  clear b19
  go_upto_region 9 with fail
  have e1 : ∀ w, (binOp .eql 30 (.agg #[.int .i64 4, .int .i64 2, .int .i64 0, .string ⟨#[]⟩]) (.agg #[.int .i64 4, .int .i64 2, .int .i64 0, .string ⟨#[]⟩])).run Tryz.prog w = .ok (.bool true) w := fun w => val_eql_self 4 2 0 [] w
  have hgd : Tryz.prog.eqGuardType Tryz.prog.depth 30 = false := by kernel_rfl
  obtain ⟨BS, hBS⟩ : ∃ BS : List (Nat × List Value), BS = [(w.heap.size, [.int .i64 4, .int .i64 2, .int .i64 0, .string ⟨#[]⟩]), (w3.heap.size, [.slice ax1 2 cx1, .slice ay1 1 cy1]), (w6.heap.size, [.slice ax2 2 cx2, .slice ay2 1 cy2]), (w9.heap.size, [.slice ax3 2 cx3, .slice ay3 1 cy3]), (w12.heap.size, [.int .i64 4, .int .i64 2, .int .i64 0, .string ⟨#[]⟩])] := ⟨_, rfl⟩
  have D0 := Lib.hid (show heldB w19 BS from by rw [hBS]; exact heldB_cons (cellsAt_block T1.out) (heldB_cons (cellsAt_block S1.out) (heldB_cons (cellsAt_block S2.out) (heldB_cons (cellsAt_block S3.out) (heldB_cons (cellsAt_block VA.out) (heldB_nil _))))))
  have hq0 : ∀ X, heldB X BS → X.cell? ⟨w.heap.size, 0, none⟩ = some (.int .i64 4) := fun X hx => heldB_get (vs := [.int .i64 4, .int .i64 2, .int .i64 0, .string ⟨#[]⟩]) hx (by rw [hBS]; simp) rfl
  have hq1 : ∀ X, heldB X BS → X.cell? ⟨w.heap.size, 1, none⟩ = some (.int .i64 2) := fun X hx => heldB_get (vs := [.int .i64 4, .int .i64 2, .int .i64 0, .string ⟨#[]⟩]) hx (by rw [hBS]; simp) rfl
  have hq2 : ∀ X, heldB X BS → X.cell? ⟨w.heap.size, 2, none⟩ = some (.int .i64 0) := fun X hx => heldB_get (vs := [.int .i64 4, .int .i64 2, .int .i64 0, .string ⟨#[]⟩]) hx (by rw [hBS]; simp) rfl
  have hq3 : ∀ X, heldB X BS → X.cell? ⟨w.heap.size, 3, none⟩ = some (.string ⟨#[]⟩) := fun X hx => heldB_get (vs := [.int .i64 4, .int .i64 2, .int .i64 0, .string ⟨#[]⟩]) hx (by rw [hBS]; simp) rfl
  have hq4 : ∀ X, heldB X BS → X.cell? ⟨w3.heap.size, 0, none⟩ = some (.slice ax1 2 cx1) := fun X hx => heldB_get (vs := [.slice ax1 2 cx1, .slice ay1 1 cy1]) hx (by rw [hBS]; simp) rfl
  have hq5 : ∀ X, heldB X BS → X.cell? ⟨w3.heap.size, 1, none⟩ = some (.slice ay1 1 cy1) := fun X hx => heldB_get (vs := [.slice ax1 2 cx1, .slice ay1 1 cy1]) hx (by rw [hBS]; simp) rfl
  have hq6 : ∀ X, heldB X BS → X.cell? ⟨w6.heap.size, 0, none⟩ = some (.slice ax2 2 cx2) := fun X hx => heldB_get (vs := [.slice ax2 2 cx2, .slice ay2 1 cy2]) hx (by rw [hBS]; simp) rfl
  have hq7 : ∀ X, heldB X BS → X.cell? ⟨w6.heap.size, 1, none⟩ = some (.slice ay2 1 cy2) := fun X hx => heldB_get (vs := [.slice ax2 2 cx2, .slice ay2 1 cy2]) hx (by rw [hBS]; simp) rfl
  have hq8 : ∀ X, heldB X BS → X.cell? ⟨w9.heap.size, 0, none⟩ = some (.slice ax3 2 cx3) := fun X hx => heldB_get (vs := [.slice ax3 2 cx3, .slice ay3 1 cy3]) hx (by rw [hBS]; simp) rfl
  have hq9 : ∀ X, heldB X BS → X.cell? ⟨w9.heap.size, 1, none⟩ = some (.slice ay3 1 cy3) := fun X hx => heldB_get (vs := [.slice ax3 2 cx3, .slice ay3 1 cy3]) hx (by rw [hBS]; simp) rfl
  have hq10 : ∀ X, heldB X BS → X.cell? ⟨w12.heap.size, 0, none⟩ = some (.int .i64 4) := fun X hx => heldB_get (vs := [.int .i64 4, .int .i64 2, .int .i64 0, .string ⟨#[]⟩]) hx (by rw [hBS]; simp) rfl
  have hq11 : ∀ X, heldB X BS → X.cell? ⟨w12.heap.size, 1, none⟩ = some (.int .i64 2) := fun X hx => heldB_get (vs := [.int .i64 4, .int .i64 2, .int .i64 0, .string ⟨#[]⟩]) hx (by rw [hBS]; simp) rfl
  have hq12 : ∀ X, heldB X BS → X.cell? ⟨w12.heap.size, 2, none⟩ = some (.int .i64 0) := fun X hx => heldB_get (vs := [.int .i64 4, .int .i64 2, .int .i64 0, .string ⟨#[]⟩]) hx (by rw [hBS]; simp) rfl
  have hq13 : ∀ X, heldB X BS → X.cell? ⟨w12.heap.size, 3, none⟩ = some (.string ⟨#[]⟩) := fun X hx => heldB_get (vs := [.int .i64 4, .int .i64 2, .int .i64 0, .string ⟨#[]⟩]) hx (by rw [hBS]; simp) rfl
  clear hBS
  have K0 : Hid (Below w19.heap.size w19 w19.drew) := Lib.hid (Below.refl _ _).drew
  refine wp_region_held_drew (S := (fun X => heldB X BS)) (by kernel_rfl) ?_ (fun hHeld => ?_)
  · exact heldB_up K0.out D0.out
  generalize w19.drew = z0 at K0 hHeld ⊢
  refine wpAnyH_take (i := 0) (oi := { dst := some 52, op := Op.load 25 (Operand.tmp 2), type := 25, pos := "law.go:26", after := #[], guard := none }) (v := ?_) rfl (by as_aux_lemma => kernel_rfl) (by as_aux_lemma => kernel_rfl) (by as_aux_lemma => kernel_rfl) (fun _ _ _ h => h) (Or.inl ⟨by rfl, ?_⟩) (by assumption) ?_
  rotate_left
  · intro w' hSw
    try dsimp only at hSw
    go_simp
    try with_reducible rfl
  try simp only [Act.put, List.setIfInBounds_toArray, List.set_cons_zero, List.set_cons_succ]
  refine wpAnyH_ready (rs := [1]) (by as_aux_lemma => kernel_rfl) (by simp) ?_
  refine AllReadyH.cons (o := { dst := some 53, op := Op.call { callee := Callee.value (Operand.func 18), args := #[Operand.tmp 52, Operand.const (Value.string { data := #[98, 111, 98] })], argTypes := #[25, 9] }, type := 34, pos := "law.go:26", after := #[{ on := 0, ground := Ground.data }], guard := none }) rfl (fun Kx hK => ?_) AllReadyH.nil
  go_simp
  refine (vwof_any (H1.out.later K0.out) (stOK_may lwM1) (by decide) [98, 111, 98]).mono ?_
  rintro e z1 ⟨vO1, rfl, hO1, bz1⟩
  have K1 := Lib.hid (below2Z K0.out bz1)
  have D1 := Lib.hid (heldB_up K1.out D0.out)
  rw [lwO1] at hO1
  obtain ⟨aO1, cO1, rfl⟩ := tab_shapeV hO1.tab (n := 0) rfl
  have O1 := Lib.hid hO1.tab
  clear hO1
  clear bz1
  go_wp2_with fail
  refine hK.out _ _ ?_ (fun hHeld2 => ?_)
  · exact D1.out
  clear hK Kx hHeld
  have hHeld := hHeld2
  clear hHeld2
  try simp only [Act.put, List.setIfInBounds_toArray, List.set_cons_zero, List.set_cons_succ]
  refine wpAnyH_take (i := 2) (oi := { dst := some 54, op := Op.call { callee := Callee.builtin Builtin.len, args := #[Operand.tmp 53], argTypes := #[34] }, type := 3, pos := "law.go:26", after := #[{ on := 1, ground := Ground.data }], guard := none }) (v := ?_) rfl (by as_aux_lemma => kernel_rfl) (by as_aux_lemma => kernel_rfl) (by as_aux_lemma => kernel_rfl) (fun _ _ _ h => h) (Or.inl ⟨by rfl, ?_⟩) (by assumption) ?_
  rotate_left
  · intro w' hSw
    try dsimp only at hSw
    go_simp
    try with_reducible rfl
  try simp only [Act.put, List.setIfInBounds_toArray, List.set_cons_zero, List.set_cons_succ]
  refine wpAnyH_take (i := 3) (oi := { dst := some 55, op := Op.binOp BinOp.eql 3 (Operand.tmp 54) (Operand.const (Value.int IntKind.i64 0)) 3, type := 4, pos := "law.go:26", after := #[{ on := 2, ground := Ground.data }], guard := none }) (v := ?_) rfl (by as_aux_lemma => kernel_rfl) (by as_aux_lemma => kernel_rfl) (by as_aux_lemma => kernel_rfl) (fun _ _ _ h => h) (Or.inl ⟨by rfl, ?_⟩) (by assumption) ?_
  rotate_left
  · intro w' hSw
    try dsimp only at hSw
    go_simp
    try with_reducible rfl
  try simp only [Act.put, List.setIfInBounds_toArray, List.set_cons_zero, List.set_cons_succ]
  refine wpAnyH_take (i := 4) (oi := { dst := some 56, op := Op.move (Operand.tmp 55), type := 4, pos := "law.go:26", after := #[{ on := 3, ground := Ground.data }, { on := 1, ground := Ground.chain }], guard := none }) (v := ?_) rfl (by as_aux_lemma => kernel_rfl) (by as_aux_lemma => kernel_rfl) (by as_aux_lemma => kernel_rfl) (fun _ _ _ h => h) (Or.inl ⟨by rfl, ?_⟩) (by assumption) ?_
  rotate_left
  · intro w' hSw
    try dsimp only at hSw
    go_simp
    try with_reducible rfl
  try simp only [Act.put, List.setIfInBounds_toArray, List.set_cons_zero, List.set_cons_succ]
  refine wpAnyH_take (i := 5) (oi := { dst := some 57, op := Op.load 25 (Operand.tmp 4), type := 25, pos := "law.go:26", after := #[{ on := 4, ground := Ground.guard }], guard := some (4, true) }) (v := ?_) rfl (by as_aux_lemma => kernel_rfl) (by as_aux_lemma => kernel_rfl) (by as_aux_lemma => kernel_rfl) (fun _ _ _ h => h) (Or.inl ⟨by rfl, ?_⟩) (by assumption) ?_
  rotate_left
  · intro w' hSw
    try dsimp only at hSw
    go_simp
    try with_reducible rfl
  try simp only [Act.put, List.setIfInBounds_toArray, List.set_cons_zero, List.set_cons_succ]
  refine wpAnyH_take (i := 7) (oi := { dst := some 59, op := Op.load 30 (Operand.tmp 1), type := 30, pos := "law.go:26", after := #[{ on := 4, ground := Ground.guard }], guard := some (4, true) }) (v := ?_) rfl (by as_aux_lemma => kernel_rfl) (by as_aux_lemma => kernel_rfl) (by as_aux_lemma => kernel_rfl) (fun _ _ _ h => h) (Or.inl ⟨by rfl, ?_⟩) (by assumption) ?_
  rotate_left
  · intro w' hSw
    try dsimp only at hSw
    go_simp
    try with_reducible rfl
  try simp only [Act.put, List.setIfInBounds_toArray, List.set_cons_zero, List.set_cons_succ]
  refine wpAnyH_take (i := 8) (oi := { dst := some 60, op := Op.build 45 #[(0, Operand.const (Value.string { data := #[97, 110, 110] })), (1, Operand.tmp 59)], type := 45, pos := "law.go:26", after := #[{ on := 7, ground := Ground.data }, { on := 4, ground := Ground.guard }], guard := some (4, true) }) (v := ?_) rfl (by as_aux_lemma => kernel_rfl) (by as_aux_lemma => kernel_rfl) (by as_aux_lemma => kernel_rfl) (fun _ _ _ h => h) (Or.inl ⟨by rfl, ?_⟩) (by assumption) ?_
  rotate_left
  · intro w' hSw
    try dsimp only at hSw
    go_simp
    try with_reducible rfl
  try simp only [Act.put, List.setIfInBounds_toArray, List.set_cons_zero, List.set_cons_succ]
  refine wpAnyH_ready (rs := [6, 9]) (by as_aux_lemma => kernel_rfl) (by simp) ?_
  refine AllReadyH.cons (o := { dst := some 58, op := Op.call { callee := Callee.value (Operand.func 18), args := #[Operand.tmp 57, Operand.const (Value.string { data := #[98, 111, 98] })], argTypes := #[25, 9] }, type := 34, pos := "law.go:26", after := #[{ on := 5, ground := Ground.data }, { on := 4, ground := Ground.chain }, { on := 4, ground := Ground.guard }], guard := some (4, true) }) rfl (fun Kx hK => ?_) (AllReadyH.cons (o := { dst := some 61, op := Op.buildSlice 34 1 #[(0, Operand.tmp 60)], type := 34, pos := "law.go:26", after := #[{ on := 8, ground := Ground.data }, { on := 4, ground := Ground.guard }], guard := some (4, true) }) rfl (fun Kx hK => ?_) (AllReadyH.nil))
  · go_simp
    refine (vwof_any (H2.out.later K1.out) (stOK_may lwM2) (by decide) [98, 111, 98]).mono ?_
    rintro e z2 ⟨vO2, rfl, hO2, bz2⟩
    have K2 := Lib.hid (below2Z K1.out bz2)
    have D2 := Lib.hid (heldB_up K2.out D0.out)
    replace O1 := Lib.hid (Tab.later O1.out bz2)
    rw [lwO2] at hO2
    obtain ⟨aO2, cO2, rfl⟩ := tab_shapeV hO2.tab (n := 1) rfl
    have O2 := Lib.hid hO2.tab
    clear hO2
    clear bz2
    go_wp2_with fail
    refine hK.out _ _ ?_ (fun hHeld2 => ?_)
    · exact D2.out
    clear hK Kx hHeld
    have hHeld := hHeld2
    clear hHeld2
    try simp only [Act.put, List.setIfInBounds_toArray, List.set_cons_zero, List.set_cons_succ]
    refine wpAnyH_ready (rs := [9]) (by as_aux_lemma => kernel_rfl) (by simp) ?_
    refine AllReadyH.cons (o := { dst := some 61, op := Op.buildSlice 34 1 #[(0, Operand.tmp 60)], type := 34, pos := "law.go:26", after := #[{ on := 8, ground := Ground.data }, { on := 4, ground := Ground.guard }], guard := some (4, true) }) rfl (fun Kx hK => ?_) AllReadyH.nil
    go_simp
    refine hK.out _ _ ?_ (fun hHeld2 => ?_)
    · exact heldB_up (below2Z K2.out (bl_newZ _ _)) D0.out
    clear hK Kx hHeld
    have hHeld := hHeld2
    clear hHeld2
    try simp only [Act.put, List.setIfInBounds_toArray, List.set_cons_zero, List.set_cons_succ]
    have bz3 := bl_newZ z2 (.cells #[.string ⟨#[97, 110, 110]⟩, .int .i64 4, .int .i64 2, .int .i64 0, .string ⟨#[]⟩] 45)
    have K3 := Lib.hid (below2Z K2.out bz3)
    have D3 := Lib.hid (heldB_up K3.out D0.out)
    have nz3 := Lib.hid ((MapKept.heap_alloc z2 (.cells #[.string ⟨#[97, 110, 110]⟩, .int .i64 4, .int .i64 2, .int .i64 0, .string ⟨#[]⟩] 45)).1)
    have hB3 : w19.heap.size ≤ z2.heap.size := (K2.out).size
    replace O1 := Lib.hid (Tab.later O1.out bz3)
    replace O2 := Lib.hid (Tab.later O2.out bz3)
    have MS := Lib.hid (tab_made z2 z2.heap.size rfl 45 [⟨[97, 110, 110], ⟨4, 2, 0, []⟩⟩] (by decide) #[.string ⟨#[97, 110, 110]⟩, .int .i64 4, .int .i64 2, .int .i64 0, .string ⟨#[]⟩] rfl 1 rfl)
    clear bz3
    generalize z2.alloc (.cells #[.string ⟨#[97, 110, 110]⟩, .int .i64 4, .int .i64 2, .int .i64 0, .string ⟨#[]⟩] 45) = z3 at K3 D3 nz3 O1 O2 MS hHeld ⊢
    generalize z2.heap.size = B3 at nz3 hB3 MS ⊢
    refine wpAnyH_ready (rs := [10]) (by as_aux_lemma => kernel_rfl) (by simp) ?_
    refine AllReadyH.cons (o := { dst := some 62, op := Op.call { callee := Callee.value (Operand.func 17), args := #[Operand.tmp 58, Operand.tmp 61], argTypes := #[34, 34] }, type := 4, pos := "law.go:26", after := #[{ on := 6, ground := Ground.data }, { on := 9, ground := Ground.data }, { on := 6, ground := Ground.chain }, { on := 4, ground := Ground.guard }], guard := some (4, true) }) rfl (fun Kx hK => ?_) AllReadyH.nil
    go_simp
    refine (tsame_eq O2.out MS.out (Lib.hid (tSame_iff.2 rfl))).mono ?_
    rintro e z4 ⟨rfl, bz4⟩
    have K4 := Lib.hid (below2Z K3.out bz4)
    have D4 := Lib.hid (heldB_up K4.out D0.out)
    replace O1 := Lib.hid (Tab.later O1.out bz4)
    replace O2 := Lib.hid (Tab.later O2.out bz4)
    replace nz3 := Lib.hid (((bz4).block _ (Array.getElem?_eq_some_iff.1 (nz3.out)).1).trans (nz3.out))
    replace MS := Lib.hid ((MS.out).later bz4)
    clear bz4
    go_wp2_with fail
    refine hK.out _ _ ?_ (fun hHeld2 => ?_)
    · exact D4.out
    clear hK Kx hHeld
    have hHeld := hHeld2
    clear hHeld2
    try simp only [Act.put, List.setIfInBounds_toArray, List.set_cons_zero, List.set_cons_succ]
    refine wpAnyH_take (i := 11) (oi := { dst := some 63, op := Op.pick (Operand.tmp 56) (Operand.tmp 62) (Operand.const (Value.bool false)), type := 4, pos := "law.go:26", after := #[{ on := 4, ground := Ground.data }, { on := 10, ground := Ground.data }], guard := none }) (v := ?_) rfl (by as_aux_lemma => kernel_rfl) (by as_aux_lemma => kernel_rfl) (by as_aux_lemma => kernel_rfl) (fun _ _ _ h => h) (Or.inl ⟨by rfl, ?_⟩) (by assumption) ?_
    rotate_left
    · intro w' hSw
      try dsimp only at hSw
      go_simp
      try with_reducible rfl
    try simp only [Act.put, List.setIfInBounds_toArray, List.set_cons_zero, List.set_cons_succ]
    refine wpAnyH_take (i := 12) (oi := { dst := some 64, op := Op.move (Operand.tmp 63), type := 4, pos := "law.go:26", after := #[{ on := 11, ground := Ground.data }, { on := 10, ground := Ground.chain }], guard := none }) (v := ?_) rfl (by as_aux_lemma => kernel_rfl) (by as_aux_lemma => kernel_rfl) (by as_aux_lemma => kernel_rfl) (fun _ _ _ h => h) (Or.inl ⟨by rfl, ?_⟩) (by assumption) ?_
    rotate_left
    · intro w' hSw
      try dsimp only at hSw
      go_simp
      try with_reducible rfl
    try simp only [Act.put, List.setIfInBounds_toArray, List.set_cons_zero, List.set_cons_succ]
    refine wpAnyH_take (i := 13) (oi := { dst := some 65, op := Op.load 30 (Operand.tmp 8), type := 30, pos := "law.go:26", after := #[{ on := 12, ground := Ground.guard }], guard := some (12, true) }) (v := ?_) rfl (by as_aux_lemma => kernel_rfl) (by as_aux_lemma => kernel_rfl) (by as_aux_lemma => kernel_rfl) (fun _ _ _ h => h) (Or.inl ⟨by rfl, ?_⟩) (by assumption) ?_
    rotate_left
    · intro w' hSw
      try dsimp only at hSw
      go_simp
      try with_reducible rfl
    try simp only [Act.put, List.setIfInBounds_toArray, List.set_cons_zero, List.set_cons_succ]
    refine wpAnyH_take (i := 14) (oi := { dst := some 66, op := Op.load 30 (Operand.tmp 1), type := 30, pos := "law.go:26", after := #[{ on := 12, ground := Ground.guard }], guard := some (12, true) }) (v := ?_) rfl (by as_aux_lemma => kernel_rfl) (by as_aux_lemma => kernel_rfl) (by as_aux_lemma => kernel_rfl) (fun _ _ _ h => h) (Or.inl ⟨by rfl, ?_⟩) (by assumption) ?_
    rotate_left
    · intro w' hSw
      try dsimp only at hSw
      go_simp
      try with_reducible rfl
    try simp only [Act.put, List.setIfInBounds_toArray, List.set_cons_zero, List.set_cons_succ]
    refine wpAnyH_take (i := 15) (oi := { dst := some 67, op := Op.binOp BinOp.eql 30 (Operand.tmp 65) (Operand.tmp 66) 30, type := 4, pos := "law.go:26", after := #[{ on := 13, ground := Ground.data }, { on := 14, ground := Ground.data }, { on := 12, ground := Ground.guard }], guard := some (12, true) }) (v := ?_) rfl (by as_aux_lemma => kernel_rfl) (by as_aux_lemma => kernel_rfl) (by as_aux_lemma => kernel_rfl) (fun _ _ _ h => h) (Or.inl ⟨by rfl, ?_⟩) (by assumption) ?_
    rotate_left
    · intro w' hSw
      try dsimp only at hSw
      go_simp
      try with_reducible rfl
    try simp only [Act.put, List.setIfInBounds_toArray, List.set_cons_zero, List.set_cons_succ]
    refine wpAnyH_take (i := 16) (oi := { dst := some 68, op := Op.pick (Operand.tmp 64) (Operand.tmp 67) (Operand.const (Value.bool false)), type := 4, pos := "law.go:26", after := #[{ on := 12, ground := Ground.data }, { on := 15, ground := Ground.data }], guard := none }) (v := ?_) rfl (by as_aux_lemma => kernel_rfl) (by as_aux_lemma => kernel_rfl) (by as_aux_lemma => kernel_rfl) (fun _ _ _ h => h) (Or.inl ⟨by rfl, ?_⟩) (by assumption) ?_
    rotate_left
    · intro w' hSw
      try dsimp only at hSw
      go_simp
      try with_reducible rfl
    try simp only [Act.put, List.setIfInBounds_toArray, List.set_cons_zero, List.set_cons_succ]
    refine wpAnyH_take (i := 17) (oi := { dst := some 69, op := Op.move (Operand.tmp 68), type := 4, pos := "law.go:26", after := #[{ on := 16, ground := Ground.data }, { on := 12, ground := Ground.chain }], guard := none }) (v := ?_) rfl (by as_aux_lemma => kernel_rfl) (by as_aux_lemma => kernel_rfl) (by as_aux_lemma => kernel_rfl) (fun _ _ _ h => h) (Or.inl ⟨by rfl, ?_⟩) (by assumption) ?_
    rotate_left
    · intro w' hSw
      try dsimp only at hSw
      go_simp
      try with_reducible rfl
    try simp only [Act.put, List.setIfInBounds_toArray, List.set_cons_zero, List.set_cons_succ]
    refine wpAnyH_take (i := 18) (oi := { dst := some 70, op := Op.move (Operand.tmp 9), type := 4, pos := "law.go:26", after := #[{ on := 17, ground := Ground.guard }], guard := some (17, true) }) (v := ?_) rfl (by as_aux_lemma => kernel_rfl) (by as_aux_lemma => kernel_rfl) (by as_aux_lemma => kernel_rfl) (fun _ _ _ h => h) (Or.inl ⟨by rfl, ?_⟩) (by assumption) ?_
    rotate_left
    · intro w' hSw
      try dsimp only at hSw
      go_simp
      try with_reducible rfl
    try simp only [Act.put, List.setIfInBounds_toArray, List.set_cons_zero, List.set_cons_succ]
    refine wpAnyH_take (i := 19) (oi := { dst := some 71, op := Op.pick (Operand.tmp 69) (Operand.tmp 70) (Operand.const (Value.bool false)), type := 4, pos := "law.go:26", after := #[{ on := 17, ground := Ground.data }, { on := 18, ground := Ground.data }], guard := none }) (v := ?_) rfl (by as_aux_lemma => kernel_rfl) (by as_aux_lemma => kernel_rfl) (by as_aux_lemma => kernel_rfl) (fun _ _ _ h => h) (Or.inl ⟨by rfl, ?_⟩) (by assumption) ?_
    rotate_left
    · intro w' hSw
      try dsimp only at hSw
      go_simp
      try with_reducible rfl
    try simp only [Act.put, List.setIfInBounds_toArray, List.set_cons_zero, List.set_cons_succ]
    refine wpAnyH_take (i := 20) (oi := { dst := some 72, op := Op.move (Operand.tmp 71), type := 4, pos := "law.go:26", after := #[{ on := 19, ground := Ground.data }, { on := 17, ground := Ground.chain }], guard := none }) (v := ?_) rfl (by as_aux_lemma => kernel_rfl) (by as_aux_lemma => kernel_rfl) (by as_aux_lemma => kernel_rfl) (fun _ _ _ h => h) (Or.inl ⟨by rfl, ?_⟩) (by assumption) ?_
    rotate_left
    · intro w' hSw
      try dsimp only at hSw
      go_simp
      try with_reducible rfl
    try simp only [Act.put, List.setIfInBounds_toArray, List.set_cons_zero, List.set_cons_succ]
    refine wpAnyH_take (i := 21) (oi := { dst := some 73, op := Op.move (Operand.tmp 11), type := 4, pos := "law.go:26", after := #[{ on := 20, ground := Ground.guard }], guard := some (20, true) }) (v := ?_) rfl (by as_aux_lemma => kernel_rfl) (by as_aux_lemma => kernel_rfl) (by as_aux_lemma => kernel_rfl) (fun _ _ _ h => h) (Or.inl ⟨by rfl, ?_⟩) (by assumption) ?_
    rotate_left
    · intro w' hSw
      try dsimp only at hSw
      go_simp
      try with_reducible rfl
    try simp only [Act.put, List.setIfInBounds_toArray, List.set_cons_zero, List.set_cons_succ]
    refine wpAnyH_take (i := 22) (oi := { dst := some 74, op := Op.unOp UnOp.not 4 (Operand.tmp 73), type := 4, pos := "law.go:26", after := #[{ on := 21, ground := Ground.data }, { on := 20, ground := Ground.guard }], guard := some (20, true) }) (v := ?_) rfl (by as_aux_lemma => kernel_rfl) (by as_aux_lemma => kernel_rfl) (by as_aux_lemma => kernel_rfl) (fun _ _ _ h => h) (Or.inl ⟨by rfl, ?_⟩) (by assumption) ?_
    rotate_left
    · intro w' hSw
      try dsimp only at hSw
      go_simp
      try with_reducible rfl
    try simp only [Act.put, List.setIfInBounds_toArray, List.set_cons_zero, List.set_cons_succ]
    refine wpAnyH_take (i := 23) (oi := { dst := some 75, op := Op.pick (Operand.tmp 72) (Operand.tmp 74) (Operand.const (Value.bool false)), type := 4, pos := "law.go:26", after := #[{ on := 20, ground := Ground.data }, { on := 22, ground := Ground.data }], guard := none }) (v := ?_) rfl (by as_aux_lemma => kernel_rfl) (by as_aux_lemma => kernel_rfl) (by as_aux_lemma => kernel_rfl) (fun _ _ _ h => h) (Or.inl ⟨by rfl, ?_⟩) (by assumption) ?_
    rotate_left
    · intro w' hSw
      try dsimp only at hSw
      go_simp
      try with_reducible rfl
    try simp only [Act.put, List.setIfInBounds_toArray, List.set_cons_zero, List.set_cons_succ]
    refine wpAnyH_take (i := 24) (oi := { dst := some 76, op := Op.move (Operand.tmp 75), type := 4, pos := "law.go:26", after := #[{ on := 23, ground := Ground.data }, { on := 20, ground := Ground.chain }], guard := none }) (v := ?_) rfl (by as_aux_lemma => kernel_rfl) (by as_aux_lemma => kernel_rfl) (by as_aux_lemma => kernel_rfl) (fun _ _ _ h => h) (Or.inl ⟨by rfl, ?_⟩) (by assumption) ?_
    rotate_left
    · intro w' hSw
      try dsimp only at hSw
      go_simp
      try with_reducible rfl
    try simp only [Act.put, List.setIfInBounds_toArray, List.set_cons_zero, List.set_cons_succ]
    refine wpAnyH_take (i := 25) (oi := { dst := some 77, op := Op.load 25 (Operand.tmp 4), type := 25, pos := "law.go:26", after := #[{ on := 24, ground := Ground.guard }], guard := some (24, true) }) (v := ?_) rfl (by as_aux_lemma => kernel_rfl) (by as_aux_lemma => kernel_rfl) (by as_aux_lemma => kernel_rfl) (fun _ _ _ h => h) (Or.inl ⟨by rfl, ?_⟩) (by assumption) ?_
    rotate_left
    · intro w' hSw
      try dsimp only at hSw
      go_simp
      try with_reducible rfl
    try simp only [Act.put, List.setIfInBounds_toArray, List.set_cons_zero, List.set_cons_succ]
    refine wpAnyH_ready (rs := [26, 27]) (by as_aux_lemma => kernel_rfl) (by simp) ?_
    refine AllReadyH.cons (o := { dst := some 78, op := Op.call { callee := Callee.value (Operand.func 21), args := #[Operand.tmp 77, Operand.const (Value.string { data := #[97, 110, 110] })], argTypes := #[25, 9] }, type := 37, pos := "law.go:26", after := #[{ on := 25, ground := Ground.data }, { on := 24, ground := Ground.chain }, { on := 24, ground := Ground.guard }], guard := some (24, true) }) rfl (fun Kx hK => ?_) (AllReadyH.cons (o := { dst := some 79, op := Op.buildSlice 37 1 #[(0, Operand.const (Value.string { data := #[98, 111, 98] }))], type := 37, pos := "law.go:26", after := #[{ on := 24, ground := Ground.guard }], guard := some (24, true) }) rfl (fun Kx hK => ?_) (AllReadyH.nil))
    · go_simp
      refine (vwwat_any (H2.out.later K4.out) (stOK_may lwM2) (by decide) [97, 110, 110]).mono ?_
      rintro e z5 ⟨vW2, rfl, hW2, bz5⟩
      have K5 := Lib.hid (below2Z K4.out bz5)
      have D5 := Lib.hid (heldB_up K5.out D0.out)
      replace O1 := Lib.hid (Tab.later O1.out bz5)
      replace O2 := Lib.hid (Tab.later O2.out bz5)
      replace nz3 := Lib.hid (((bz5).block _ (Array.getElem?_eq_some_iff.1 (nz3.out)).1).trans (nz3.out))
      replace MS := Lib.hid ((MS.out).later bz5)
      rw [lwW2] at hW2
      obtain ⟨aW2, cW2, rfl⟩ := texts_shape hW2 (n := 1) rfl
      have W2 := Lib.hid hW2
      clear hW2
      clear bz5
      go_wp2_with fail
      refine hK.out _ _ ?_ (fun hHeld2 => ?_)
      · exact D5.out
      clear hK Kx hHeld
      have hHeld := hHeld2
      clear hHeld2
      try simp only [Act.put, List.setIfInBounds_toArray, List.set_cons_zero, List.set_cons_succ]
      refine wpAnyH_ready (rs := [27]) (by as_aux_lemma => kernel_rfl) (by simp) ?_
      refine AllReadyH.cons (o := { dst := some 79, op := Op.buildSlice 37 1 #[(0, Operand.const (Value.string { data := #[98, 111, 98] }))], type := 37, pos := "law.go:26", after := #[{ on := 24, ground := Ground.guard }], guard := some (24, true) }) rfl (fun Kx hK => ?_) AllReadyH.nil
      go_simp
      refine hK.out _ _ ?_ (fun hHeld2 => ?_)
      · exact heldB_up (below2Z K5.out (bl_newZ _ _)) D0.out
      clear hK Kx hHeld
      have hHeld := hHeld2
      clear hHeld2
      try simp only [Act.put, List.setIfInBounds_toArray, List.set_cons_zero, List.set_cons_succ]
      have bz6 := bl_newZ z5 (.cells #[.string ⟨#[98, 111, 98]⟩] 9)
      have K6 := Lib.hid (below2Z K5.out bz6)
      have D6 := Lib.hid (heldB_up K6.out D0.out)
      have nz6 := Lib.hid ((MapKept.heap_alloc z5 (.cells #[.string ⟨#[98, 111, 98]⟩] 9)).1)
      have hB6 : w19.heap.size ≤ z5.heap.size := (K5.out).size
      replace O1 := Lib.hid (Tab.later O1.out bz6)
      replace O2 := Lib.hid (Tab.later O2.out bz6)
      replace nz3 := Lib.hid (((bz6).block _ (Array.getElem?_eq_some_iff.1 (nz3.out)).1).trans (nz3.out))
      replace MS := Lib.hid ((MS.out).later bz6)
      replace W2 := Lib.hid (Texts.later W2.out bz6)
      have MT := Lib.hid (texts_made z5 9 z5.heap.size rfl [[98, 111, 98]] (by decide) #[.string ⟨#[98, 111, 98]⟩] rfl 1 rfl)
      clear bz6
      generalize z5.alloc (.cells #[.string ⟨#[98, 111, 98]⟩] 9) = z6 at K6 D6 nz6 O1 O2 nz3 MS W2 MT hHeld ⊢
      generalize z5.heap.size = B6 at nz6 hB6 MT ⊢
      refine wpAnyH_ready (rs := [28]) (by as_aux_lemma => kernel_rfl) (by simp) ?_
      refine AllReadyH.cons (o := { dst := some 80, op := Op.call { callee := Callee.value (Operand.func 20), args := #[Operand.tmp 78, Operand.tmp 79], argTypes := #[37, 37] }, type := 4, pos := "law.go:26", after := #[{ on := 26, ground := Ground.data }, { on := 27, ground := Ground.data }, { on := 26, ground := Ground.chain }, { on := 24, ground := Ground.guard }], guard := some (24, true) }) rfl (fun Kx hK => ?_) AllReadyH.nil
      go_simp
      refine (same_yes W2.out MT.out (by decide)).mono ?_
      rintro e z7 ⟨rfl, bz7⟩
      have K7 := Lib.hid (below2Z K6.out bz7)
      have D7 := Lib.hid (heldB_up K7.out D0.out)
      replace O1 := Lib.hid (Tab.later O1.out bz7)
      replace O2 := Lib.hid (Tab.later O2.out bz7)
      replace nz3 := Lib.hid (((bz7).block _ (Array.getElem?_eq_some_iff.1 (nz3.out)).1).trans (nz3.out))
      replace MS := Lib.hid ((MS.out).later bz7)
      replace W2 := Lib.hid (Texts.later W2.out bz7)
      replace nz6 := Lib.hid (((bz7).block _ (Array.getElem?_eq_some_iff.1 (nz6.out)).1).trans (nz6.out))
      replace MT := Lib.hid ((MT.out).later bz7)
      clear bz7
      go_wp2_with fail
      refine hK.out _ _ ?_ (fun hHeld2 => ?_)
      · exact D7.out
      clear hK Kx hHeld
      have hHeld := hHeld2
      clear hHeld2
      try simp only [Act.put, List.setIfInBounds_toArray, List.set_cons_zero, List.set_cons_succ]
      refine wpAnyH_take (i := 29) (oi := { dst := some 81, op := Op.pick (Operand.tmp 76) (Operand.tmp 80) (Operand.const (Value.bool false)), type := 4, pos := "law.go:26", after := #[{ on := 24, ground := Ground.data }, { on := 28, ground := Ground.data }], guard := none }) (v := ?_) rfl (by as_aux_lemma => kernel_rfl) (by as_aux_lemma => kernel_rfl) (by as_aux_lemma => kernel_rfl) (fun _ _ _ h => h) (Or.inl ⟨by rfl, ?_⟩) (by assumption) ?_
      rotate_left
      · intro w' hSw
        try dsimp only at hSw
        go_simp
        try with_reducible rfl
      try simp only [Act.put, List.setIfInBounds_toArray, List.set_cons_zero, List.set_cons_succ]
      refine wpAnyH_take (i := 30) (oi := { dst := some 82, op := Op.move (Operand.tmp 81), type := 4, pos := "law.go:26", after := #[{ on := 29, ground := Ground.data }, { on := 28, ground := Ground.chain }], guard := none }) (v := ?_) rfl (by as_aux_lemma => kernel_rfl) (by as_aux_lemma => kernel_rfl) (by as_aux_lemma => kernel_rfl) (fun _ _ _ h => h) (Or.inl ⟨by rfl, ?_⟩) (by assumption) ?_
      rotate_left
      · intro w' hSw
        try dsimp only at hSw
        go_simp
        try with_reducible rfl
      try simp only [Act.put, List.setIfInBounds_toArray, List.set_cons_zero, List.set_cons_succ]
      refine wpAnyH_take (i := 31) (oi := { dst := some 83, op := Op.load 25 (Operand.tmp 6), type := 25, pos := "law.go:26", after := #[{ on := 30, ground := Ground.guard }], guard := some (30, true) }) (v := ?_) rfl (by as_aux_lemma => kernel_rfl) (by as_aux_lemma => kernel_rfl) (by as_aux_lemma => kernel_rfl) (fun _ _ _ h => h) (Or.inl ⟨by rfl, ?_⟩) (by assumption) ?_
      rotate_left
      · intro w' hSw
        try dsimp only at hSw
        go_simp
        try with_reducible rfl
      try simp only [Act.put, List.setIfInBounds_toArray, List.set_cons_zero, List.set_cons_succ]
      refine wpAnyH_ready (rs := [32]) (by as_aux_lemma => kernel_rfl) (by simp) ?_
      refine AllReadyH.cons (o := { dst := some 84, op := Op.call { callee := Callee.value (Operand.func 21), args := #[Operand.tmp 83, Operand.const (Value.string { data := #[97, 110, 110] })], argTypes := #[25, 9] }, type := 37, pos := "law.go:26", after := #[{ on := 31, ground := Ground.data }, { on := 30, ground := Ground.chain }, { on := 30, ground := Ground.guard }], guard := some (30, true) }) rfl (fun Kx hK => ?_) AllReadyH.nil
      go_simp
      refine (vwwat_any (H3.out.later K7.out) (stOK_may lwM3) (by decide) [97, 110, 110]).mono ?_
      rintro e z8 ⟨vW3, rfl, hW3, bz8⟩
      have K8 := Lib.hid (below2Z K7.out bz8)
      have D8 := Lib.hid (heldB_up K8.out D0.out)
      replace O1 := Lib.hid (Tab.later O1.out bz8)
      replace O2 := Lib.hid (Tab.later O2.out bz8)
      replace nz3 := Lib.hid (((bz8).block _ (Array.getElem?_eq_some_iff.1 (nz3.out)).1).trans (nz3.out))
      replace MS := Lib.hid ((MS.out).later bz8)
      replace W2 := Lib.hid (Texts.later W2.out bz8)
      replace nz6 := Lib.hid (((bz8).block _ (Array.getElem?_eq_some_iff.1 (nz6.out)).1).trans (nz6.out))
      replace MT := Lib.hid ((MT.out).later bz8)
      rw [lwW3] at hW3
      obtain ⟨aW3, cW3, rfl⟩ := texts_shape hW3 (n := 0) rfl
      have W3 := Lib.hid hW3
      clear hW3
      clear bz8
      go_wp2_with fail
      refine hK.out _ _ ?_ (fun hHeld2 => ?_)
      · exact D8.out
      clear hK Kx hHeld
      have hHeld := hHeld2
      clear hHeld2
      try simp only [Act.put, List.setIfInBounds_toArray, List.set_cons_zero, List.set_cons_succ]
      refine wpAnyH_take (i := 33) (oi := { dst := some 85, op := Op.call { callee := Callee.builtin Builtin.len, args := #[Operand.tmp 84], argTypes := #[37] }, type := 3, pos := "law.go:26", after := #[{ on := 32, ground := Ground.data }, { on := 30, ground := Ground.guard }], guard := some (30, true) }) (v := ?_) rfl (by as_aux_lemma => kernel_rfl) (by as_aux_lemma => kernel_rfl) (by as_aux_lemma => kernel_rfl) (fun _ _ _ h => h) (Or.inl ⟨by rfl, ?_⟩) (by assumption) ?_
      rotate_left
      · intro w' hSw
        try dsimp only at hSw
        go_simp
        try with_reducible rfl
      try simp only [Act.put, List.setIfInBounds_toArray, List.set_cons_zero, List.set_cons_succ]
      refine wpAnyH_take (i := 34) (oi := { dst := some 86, op := Op.binOp BinOp.eql 3 (Operand.tmp 85) (Operand.const (Value.int IntKind.i64 0)) 3, type := 4, pos := "law.go:26", after := #[{ on := 33, ground := Ground.data }, { on := 30, ground := Ground.guard }], guard := some (30, true) }) (v := ?_) rfl (by as_aux_lemma => kernel_rfl) (by as_aux_lemma => kernel_rfl) (by as_aux_lemma => kernel_rfl) (fun _ _ _ h => h) (Or.inl ⟨by rfl, ?_⟩) (by assumption) ?_
      rotate_left
      · intro w' hSw
        try dsimp only at hSw
        go_simp
        try with_reducible rfl
      try simp only [Act.put, List.setIfInBounds_toArray, List.set_cons_zero, List.set_cons_succ]
      refine wpAnyH_take (i := 35) (oi := { dst := some 87, op := Op.pick (Operand.tmp 82) (Operand.tmp 86) (Operand.const (Value.bool false)), type := 4, pos := "law.go:26", after := #[{ on := 30, ground := Ground.data }, { on := 34, ground := Ground.data }], guard := none }) (v := ?_) rfl (by as_aux_lemma => kernel_rfl) (by as_aux_lemma => kernel_rfl) (by as_aux_lemma => kernel_rfl) (fun _ _ _ h => h) (Or.inl ⟨by rfl, ?_⟩) (by assumption) ?_
      rotate_left
      · intro w' hSw
        try dsimp only at hSw
        go_simp
        try with_reducible rfl
      try simp only [Act.put, List.setIfInBounds_toArray, List.set_cons_zero, List.set_cons_succ]
      refine wpAnyH_take (i := 36) (oi := { dst := some 88, op := Op.move (Operand.tmp 87), type := 4, pos := "law.go:26", after := #[{ on := 35, ground := Ground.data }, { on := 32, ground := Ground.chain }], guard := none }) (v := ?_) rfl (by as_aux_lemma => kernel_rfl) (by as_aux_lemma => kernel_rfl) (by as_aux_lemma => kernel_rfl) (fun _ _ _ h => h) (Or.inl ⟨by rfl, ?_⟩) (by assumption) ?_
      rotate_left
      · intro w' hSw
        try dsimp only at hSw
        go_simp
        try with_reducible rfl
      try simp only [Act.put, List.setIfInBounds_toArray, List.set_cons_zero, List.set_cons_succ]
      refine wpAnyH_take (i := 37) (oi := { dst := some 89, op := Op.move (Operand.tmp 12), type := 40, pos := "law.go:26", after := #[{ on := 36, ground := Ground.guard }], guard := some (36, true) }) (v := ?_) rfl (by as_aux_lemma => kernel_rfl) (by as_aux_lemma => kernel_rfl) (by as_aux_lemma => kernel_rfl) (fun _ _ _ h => h) (Or.inl ⟨by rfl, ?_⟩) (by assumption) ?_
      rotate_left
      · intro w' hSw
        try dsimp only at hSw
        go_simp
        try with_reducible rfl
      try simp only [Act.put, List.setIfInBounds_toArray, List.set_cons_zero, List.set_cons_succ]
      refine wpAnyH_take (i := 38) (oi := { dst := some 90, op := Op.load 30 (Operand.tmp 1), type := 30, pos := "law.go:26", after := #[{ on := 36, ground := Ground.guard }], guard := some (36, true) }) (v := ?_) rfl (by as_aux_lemma => kernel_rfl) (by as_aux_lemma => kernel_rfl) (by as_aux_lemma => kernel_rfl) (fun _ _ _ h => h) (Or.inl ⟨by rfl, ?_⟩) (by assumption) ?_
      rotate_left
      · intro w' hSw
        try dsimp only at hSw
        go_simp
        try with_reducible rfl
      try simp only [Act.put, List.setIfInBounds_toArray, List.set_cons_zero, List.set_cons_succ]
      refine wpAnyH_take (i := 39) (oi := { dst := some 91, op := Op.build 57 #[(0, Operand.const (Value.string { data := #[97, 110, 110] })), (1, Operand.const (Value.bool true)), (2, Operand.tmp 90)], type := 57, pos := "law.go:26", after := #[{ on := 38, ground := Ground.data }, { on := 36, ground := Ground.guard }], guard := some (36, true) }) (v := ?_) rfl (by as_aux_lemma => kernel_rfl) (by as_aux_lemma => kernel_rfl) (by as_aux_lemma => kernel_rfl) (fun _ _ _ h => h) (Or.inl ⟨by rfl, ?_⟩) (by assumption) ?_
      rotate_left
      · intro w' hSw
        try dsimp only at hSw
        go_simp
        try with_reducible rfl
      try simp only [Act.put, List.setIfInBounds_toArray, List.set_cons_zero, List.set_cons_succ]
      refine wpAnyH_ready (rs := [40]) (by as_aux_lemma => kernel_rfl) (by simp) ?_
      refine AllReadyH.cons (o := { dst := some 92, op := Op.buildSlice 40 1 #[(0, Operand.tmp 91)], type := 40, pos := "law.go:26", after := #[{ on := 39, ground := Ground.data }, { on := 36, ground := Ground.guard }], guard := some (36, true) }) rfl (fun Kx hK => ?_) AllReadyH.nil
      go_simp
      refine hK.out _ _ ?_ (fun hHeld2 => ?_)
      · exact heldB_up (below2Z K8.out (bl_newZ _ _)) D0.out
      clear hK Kx hHeld
      have hHeld := hHeld2
      clear hHeld2
      try simp only [Act.put, List.setIfInBounds_toArray, List.set_cons_zero, List.set_cons_succ]
      have bz9 := bl_newZ z8 (.cells #[.string ⟨#[97, 110, 110]⟩, .bool true, .int .i64 4, .int .i64 2, .int .i64 0, .string ⟨#[]⟩] 57)
      have K9 := Lib.hid (below2Z K8.out bz9)
      have D9 := Lib.hid (heldB_up K9.out D0.out)
      have nz9 := Lib.hid ((MapKept.heap_alloc z8 (.cells #[.string ⟨#[97, 110, 110]⟩, .bool true, .int .i64 4, .int .i64 2, .int .i64 0, .string ⟨#[]⟩] 57)).1)
      have hB9 : w19.heap.size ≤ z8.heap.size := (K8.out).size
      replace O1 := Lib.hid (Tab.later O1.out bz9)
      replace O2 := Lib.hid (Tab.later O2.out bz9)
      replace nz3 := Lib.hid (((bz9).block _ (Array.getElem?_eq_some_iff.1 (nz3.out)).1).trans (nz3.out))
      replace MS := Lib.hid ((MS.out).later bz9)
      replace W2 := Lib.hid (Texts.later W2.out bz9)
      replace nz6 := Lib.hid (((bz9).block _ (Array.getElem?_eq_some_iff.1 (nz6.out)).1).trans (nz6.out))
      replace MT := Lib.hid ((MT.out).later bz9)
      replace W3 := Lib.hid (Texts.later W3.out bz9)
      have MC := Lib.hid (chgs_of (rdS_made chgOK (w := z8) (cs := #[.string ⟨#[97, 110, 110]⟩, .bool true, .int .i64 4, .int .i64 2, .int .i64 0, .string ⟨#[]⟩]) (l := [⟨[97, 110, 110], true, ⟨4, 2, 0, []⟩⟩]) rfl (by decide) rfl))
      clear bz9
      generalize z8.alloc (.cells #[.string ⟨#[97, 110, 110]⟩, .bool true, .int .i64 4, .int .i64 2, .int .i64 0, .string ⟨#[]⟩] 57) = z9 at K9 D9 nz9 O1 O2 nz3 MS W2 nz6 MT W3 MC hHeld ⊢
      generalize z8.heap.size = B9 at nz9 hB9 MC ⊢
      refine wpAnyH_ready (rs := [41]) (by as_aux_lemma => kernel_rfl) (by simp) ?_
      refine AllReadyH.cons (o := { dst := some 93, op := Op.call { callee := Callee.value (Operand.func 23), args := #[Operand.tmp 89, Operand.tmp 92], argTypes := #[40, 40] }, type := 4, pos := "law.go:26", after := #[{ on := 37, ground := Ground.data }, { on := 40, ground := Ground.data }, { on := 36, ground := Ground.chain }, { on := 36, ground := Ground.guard }], guard := some (36, true) }) rfl (fun Kx hK => ?_) AllReadyH.nil
      go_simp
      refine (csame_yes (U7.out.later K9.out) MC.out).mono ?_
      rintro e z10 ⟨rfl, bz10⟩
      have K10 := Lib.hid (below2Z K9.out bz10)
      have D10 := Lib.hid (heldB_up K10.out D0.out)
      replace O1 := Lib.hid (Tab.later O1.out bz10)
      replace O2 := Lib.hid (Tab.later O2.out bz10)
      replace nz3 := Lib.hid (((bz10).block _ (Array.getElem?_eq_some_iff.1 (nz3.out)).1).trans (nz3.out))
      replace MS := Lib.hid ((MS.out).later bz10)
      replace W2 := Lib.hid (Texts.later W2.out bz10)
      replace nz6 := Lib.hid (((bz10).block _ (Array.getElem?_eq_some_iff.1 (nz6.out)).1).trans (nz6.out))
      replace MT := Lib.hid ((MT.out).later bz10)
      replace W3 := Lib.hid (Texts.later W3.out bz10)
      replace nz9 := Lib.hid (((bz10).block _ (Array.getElem?_eq_some_iff.1 (nz9.out)).1).trans (nz9.out))
      replace MC := Lib.hid ((MC.out).later bz10)
      clear bz10
      go_wp2_with fail
      refine hK.out _ _ ?_ (fun hHeld2 => ?_)
      · exact D10.out
      clear hK Kx hHeld
      have hHeld := hHeld2
      clear hHeld2
      try simp only [Act.put, List.setIfInBounds_toArray, List.set_cons_zero, List.set_cons_succ]
      refine wpAnyH_take (i := 42) (oi := { dst := some 94, op := Op.pick (Operand.tmp 88) (Operand.tmp 93) (Operand.const (Value.bool false)), type := 4, pos := "law.go:26", after := #[{ on := 36, ground := Ground.data }, { on := 41, ground := Ground.data }], guard := none }) (v := ?_) rfl (by as_aux_lemma => kernel_rfl) (by as_aux_lemma => kernel_rfl) (by as_aux_lemma => kernel_rfl) (fun _ _ _ h => h) (Or.inl ⟨by rfl, ?_⟩) (by assumption) ?_
      rotate_left
      · intro w' hSw
        try dsimp only at hSw
        go_simp
        try with_reducible rfl
      try simp only [Act.put, List.setIfInBounds_toArray, List.set_cons_zero, List.set_cons_succ]
      refine wpAnyH_take (i := 43) (oi := { dst := some 95, op := Op.move (Operand.tmp 94), type := 4, pos := "law.go:26", after := #[{ on := 42, ground := Ground.data }, { on := 41, ground := Ground.chain }], guard := none }) (v := ?_) rfl (by as_aux_lemma => kernel_rfl) (by as_aux_lemma => kernel_rfl) (by as_aux_lemma => kernel_rfl) (fun _ _ _ h => h) (Or.inl ⟨by rfl, ?_⟩) (by assumption) ?_
      rotate_left
      · intro w' hSw
        try dsimp only at hSw
        go_simp
        try with_reducible rfl
      try simp only [Act.put, List.setIfInBounds_toArray, List.set_cons_zero, List.set_cons_succ]
      refine wpAnyH_take (i := 44) (oi := { dst := some 96, op := Op.move (Operand.tmp 13), type := 40, pos := "law.go:26", after := #[{ on := 43, ground := Ground.guard }], guard := some (43, true) }) (v := ?_) rfl (by as_aux_lemma => kernel_rfl) (by as_aux_lemma => kernel_rfl) (by as_aux_lemma => kernel_rfl) (fun _ _ _ h => h) (Or.inl ⟨by rfl, ?_⟩) (by assumption) ?_
      rotate_left
      · intro w' hSw
        try dsimp only at hSw
        go_simp
        try with_reducible rfl
      try simp only [Act.put, List.setIfInBounds_toArray, List.set_cons_zero, List.set_cons_succ]
      refine wpAnyH_take (i := 45) (oi := { dst := some 97, op := Op.build 57 #[(0, Operand.const (Value.string { data := #[97, 110, 110] }))], type := 57, pos := "law.go:26", after := #[{ on := 43, ground := Ground.guard }], guard := some (43, true) }) (v := ?_) rfl (by as_aux_lemma => kernel_rfl) (by as_aux_lemma => kernel_rfl) (by as_aux_lemma => kernel_rfl) (fun _ _ _ h => h) (Or.inl ⟨by rfl, ?_⟩) (by assumption) ?_
      rotate_left
      · intro w' hSw
        try dsimp only at hSw
        go_simp
        try with_reducible rfl
      try simp only [Act.put, List.setIfInBounds_toArray, List.set_cons_zero, List.set_cons_succ]
      refine wpAnyH_ready (rs := [46]) (by as_aux_lemma => kernel_rfl) (by simp) ?_
      refine AllReadyH.cons (o := { dst := some 98, op := Op.buildSlice 40 1 #[(0, Operand.tmp 97)], type := 40, pos := "law.go:26", after := #[{ on := 45, ground := Ground.data }, { on := 43, ground := Ground.guard }], guard := some (43, true) }) rfl (fun Kx hK => ?_) AllReadyH.nil
      go_simp
      refine hK.out _ _ ?_ (fun hHeld2 => ?_)
      · exact heldB_up (below2Z K10.out (bl_newZ _ _)) D0.out
      clear hK Kx hHeld
      have hHeld := hHeld2
      clear hHeld2
      try simp only [Act.put, List.setIfInBounds_toArray, List.set_cons_zero, List.set_cons_succ]
      have bz11 := bl_newZ z10 (.cells #[.string ⟨#[97, 110, 110]⟩, .bool false, .int .i64 0, .int .i64 0, .int .i64 0, .string ⟨#[]⟩] 57)
      have K11 := Lib.hid (below2Z K10.out bz11)
      have D11 := Lib.hid (heldB_up K11.out D0.out)
      have nz11 := Lib.hid ((MapKept.heap_alloc z10 (.cells #[.string ⟨#[97, 110, 110]⟩, .bool false, .int .i64 0, .int .i64 0, .int .i64 0, .string ⟨#[]⟩] 57)).1)
      have hB11 : w19.heap.size ≤ z10.heap.size := (K10.out).size
      replace O1 := Lib.hid (Tab.later O1.out bz11)
      replace O2 := Lib.hid (Tab.later O2.out bz11)
      replace nz3 := Lib.hid (((bz11).block _ (Array.getElem?_eq_some_iff.1 (nz3.out)).1).trans (nz3.out))
      replace MS := Lib.hid ((MS.out).later bz11)
      replace W2 := Lib.hid (Texts.later W2.out bz11)
      replace nz6 := Lib.hid (((bz11).block _ (Array.getElem?_eq_some_iff.1 (nz6.out)).1).trans (nz6.out))
      replace MT := Lib.hid ((MT.out).later bz11)
      replace W3 := Lib.hid (Texts.later W3.out bz11)
      replace nz9 := Lib.hid (((bz11).block _ (Array.getElem?_eq_some_iff.1 (nz9.out)).1).trans (nz9.out))
      replace MC := Lib.hid ((MC.out).later bz11)
      have MD := Lib.hid (chgs_of (rdS_made chgOK (w := z10) (cs := #[.string ⟨#[97, 110, 110]⟩, .bool false, .int .i64 0, .int .i64 0, .int .i64 0, .string ⟨#[]⟩]) (l := [⟨[97, 110, 110], false, ⟨0, 0, 0, []⟩⟩]) rfl (by decide) rfl))
      clear bz11
      generalize z10.alloc (.cells #[.string ⟨#[97, 110, 110]⟩, .bool false, .int .i64 0, .int .i64 0, .int .i64 0, .string ⟨#[]⟩] 57) = z11 at K11 D11 nz11 O1 O2 nz3 MS W2 nz6 MT W3 nz9 MC MD hHeld ⊢
      generalize z10.heap.size = B11 at nz11 hB11 MD ⊢
      refine wpAnyH_ready (rs := [47]) (by as_aux_lemma => kernel_rfl) (by simp) ?_
      refine AllReadyH.cons (o := { dst := some 99, op := Op.call { callee := Callee.value (Operand.func 23), args := #[Operand.tmp 96, Operand.tmp 98], argTypes := #[40, 40] }, type := 4, pos := "law.go:26", after := #[{ on := 44, ground := Ground.data }, { on := 46, ground := Ground.data }, { on := 43, ground := Ground.chain }, { on := 43, ground := Ground.guard }], guard := some (43, true) }) rfl (fun Kx hK => ?_) AllReadyH.nil
      go_simp
      refine (csame_yes (U8.out.later K11.out) MD.out).mono ?_
      rintro e z12 ⟨rfl, bz12⟩
      have K12 := Lib.hid (below2Z K11.out bz12)
      have D12 := Lib.hid (heldB_up K12.out D0.out)
      replace O1 := Lib.hid (Tab.later O1.out bz12)
      replace O2 := Lib.hid (Tab.later O2.out bz12)
      replace nz3 := Lib.hid (((bz12).block _ (Array.getElem?_eq_some_iff.1 (nz3.out)).1).trans (nz3.out))
      replace MS := Lib.hid ((MS.out).later bz12)
      replace W2 := Lib.hid (Texts.later W2.out bz12)
      replace nz6 := Lib.hid (((bz12).block _ (Array.getElem?_eq_some_iff.1 (nz6.out)).1).trans (nz6.out))
      replace MT := Lib.hid ((MT.out).later bz12)
      replace W3 := Lib.hid (Texts.later W3.out bz12)
      replace nz9 := Lib.hid (((bz12).block _ (Array.getElem?_eq_some_iff.1 (nz9.out)).1).trans (nz9.out))
      replace MC := Lib.hid ((MC.out).later bz12)
      replace nz11 := Lib.hid (((bz12).block _ (Array.getElem?_eq_some_iff.1 (nz11.out)).1).trans (nz11.out))
      replace MD := Lib.hid ((MD.out).later bz12)
      clear bz12
      go_wp2_with fail
      refine hK.out _ _ ?_ (fun hHeld2 => ?_)
      · exact D12.out
      clear hK Kx hHeld
      have hHeld := hHeld2
      clear hHeld2
      try simp only [Act.put, List.setIfInBounds_toArray, List.set_cons_zero, List.set_cons_succ]
      refine wpAnyH_take (i := 48) (oi := { dst := some 100, op := Op.pick (Operand.tmp 95) (Operand.tmp 99) (Operand.const (Value.bool false)), type := 4, pos := "law.go:26", after := #[{ on := 43, ground := Ground.data }, { on := 47, ground := Ground.data }], guard := none }) (v := ?_) rfl (by as_aux_lemma => kernel_rfl) (by as_aux_lemma => kernel_rfl) (by as_aux_lemma => kernel_rfl) (fun _ _ _ h => h) (Or.inl ⟨by rfl, ?_⟩) (by assumption) ?_
      rotate_left
      · intro w' hSw
        try dsimp only at hSw
        go_simp
        try with_reducible rfl
      try simp only [Act.put, List.setIfInBounds_toArray, List.set_cons_zero, List.set_cons_succ]
      refine wpAnyH_take (i := 49) (oi := { dst := some 0, op := Op.assign (Operand.tmp 100), type := 4, pos := "law.go:26", after := #[{ on := 48, ground := Ground.data }, { on := 47, ground := Ground.chain }, { on := 0, ground := Ground.phase }, { on := 1, ground := Ground.phase }, { on := 2, ground := Ground.phase }, { on := 3, ground := Ground.phase }, { on := 4, ground := Ground.phase }, { on := 5, ground := Ground.phase }, { on := 6, ground := Ground.phase }, { on := 7, ground := Ground.phase }, { on := 8, ground := Ground.phase }, { on := 9, ground := Ground.phase }, { on := 10, ground := Ground.phase }, { on := 11, ground := Ground.phase }, { on := 12, ground := Ground.phase }, { on := 13, ground := Ground.phase }, { on := 14, ground := Ground.phase }, { on := 15, ground := Ground.phase }, { on := 16, ground := Ground.phase }, { on := 17, ground := Ground.phase }, { on := 18, ground := Ground.phase }, { on := 19, ground := Ground.phase }, { on := 20, ground := Ground.phase }, { on := 21, ground := Ground.phase }, { on := 22, ground := Ground.phase }, { on := 23, ground := Ground.phase }, { on := 24, ground := Ground.phase }, { on := 25, ground := Ground.phase }, { on := 26, ground := Ground.phase }, { on := 27, ground := Ground.phase }, { on := 28, ground := Ground.phase }, { on := 29, ground := Ground.phase }, { on := 30, ground := Ground.phase }, { on := 31, ground := Ground.phase }, { on := 32, ground := Ground.phase }, { on := 33, ground := Ground.phase }, { on := 34, ground := Ground.phase }, { on := 35, ground := Ground.phase }, { on := 36, ground := Ground.phase }, { on := 37, ground := Ground.phase }, { on := 38, ground := Ground.phase }, { on := 39, ground := Ground.phase }, { on := 40, ground := Ground.phase }, { on := 41, ground := Ground.phase }, { on := 42, ground := Ground.phase }, { on := 43, ground := Ground.phase }, { on := 44, ground := Ground.phase }, { on := 45, ground := Ground.phase }, { on := 46, ground := Ground.phase }, { on := 47, ground := Ground.phase }, { on := 48, ground := Ground.phase }], guard := none }) (v := ?_) rfl (by as_aux_lemma => kernel_rfl) (by as_aux_lemma => kernel_rfl) (by as_aux_lemma => kernel_rfl) (fun _ _ _ h => h) (Or.inl ⟨by rfl, ?_⟩) (by assumption) ?_
      rotate_left
      · intro w' hSw
        try dsimp only at hSw
        go_simp
        try with_reducible rfl
      try simp only [Act.put, List.setIfInBounds_toArray, List.set_cons_zero]
      refine wpAnyH_done (by kernel_rfl) ?_ _
      replace HB := Lib.hid (below2Z HB.out K12.out)
      go_wp2_with fail
      go_ret
      exact ⟨rfl, HB.out⟩
    · go_simp
      refine hK.out _ _ ?_ (fun hHeld2 => ?_)
      · exact heldB_up (below2Z K4.out (bl_newZ _ _)) D0.out
      clear hK Kx hHeld
      have hHeld := hHeld2
      clear hHeld2
      try simp only [Act.put, List.setIfInBounds_toArray, List.set_cons_zero, List.set_cons_succ]
      have bz13 := bl_newZ z4 (.cells #[.string ⟨#[98, 111, 98]⟩] 9)
      have K13 := Lib.hid (below2Z K4.out bz13)
      have D13 := Lib.hid (heldB_up K13.out D0.out)
      have nz13 := Lib.hid ((MapKept.heap_alloc z4 (.cells #[.string ⟨#[98, 111, 98]⟩] 9)).1)
      have hB13 : w19.heap.size ≤ z4.heap.size := (K4.out).size
      replace O1 := Lib.hid (Tab.later O1.out bz13)
      replace O2 := Lib.hid (Tab.later O2.out bz13)
      replace nz3 := Lib.hid (((bz13).block _ (Array.getElem?_eq_some_iff.1 (nz3.out)).1).trans (nz3.out))
      replace MS := Lib.hid ((MS.out).later bz13)
      have MT := Lib.hid (texts_made z4 9 z4.heap.size rfl [[98, 111, 98]] (by decide) #[.string ⟨#[98, 111, 98]⟩] rfl 1 rfl)
      clear bz13
      generalize z4.alloc (.cells #[.string ⟨#[98, 111, 98]⟩] 9) = z13 at K13 D13 nz13 O1 O2 nz3 MS MT hHeld ⊢
      generalize z4.heap.size = B13 at nz13 hB13 MT ⊢
      refine wpAnyH_ready (rs := [26]) (by as_aux_lemma => kernel_rfl) (by simp) ?_
      refine AllReadyH.cons (o := { dst := some 78, op := Op.call { callee := Callee.value (Operand.func 21), args := #[Operand.tmp 77, Operand.const (Value.string { data := #[97, 110, 110] })], argTypes := #[25, 9] }, type := 37, pos := "law.go:26", after := #[{ on := 25, ground := Ground.data }, { on := 24, ground := Ground.chain }, { on := 24, ground := Ground.guard }], guard := some (24, true) }) rfl (fun Kx hK => ?_) AllReadyH.nil
      go_simp
      refine (vwwat_any (H2.out.later K13.out) (stOK_may lwM2) (by decide) [97, 110, 110]).mono ?_
      rintro e z14 ⟨vW2, rfl, hW2, bz14⟩
      have K14 := Lib.hid (below2Z K13.out bz14)
      have D14 := Lib.hid (heldB_up K14.out D0.out)
      replace O1 := Lib.hid (Tab.later O1.out bz14)
      replace O2 := Lib.hid (Tab.later O2.out bz14)
      replace nz3 := Lib.hid (((bz14).block _ (Array.getElem?_eq_some_iff.1 (nz3.out)).1).trans (nz3.out))
      replace MS := Lib.hid ((MS.out).later bz14)
      replace nz13 := Lib.hid (((bz14).block _ (Array.getElem?_eq_some_iff.1 (nz13.out)).1).trans (nz13.out))
      replace MT := Lib.hid ((MT.out).later bz14)
      rw [lwW2] at hW2
      obtain ⟨aW2, cW2, rfl⟩ := texts_shape hW2 (n := 1) rfl
      have W2 := Lib.hid hW2
      clear hW2
      clear bz14
      go_wp2_with fail
      refine hK.out _ _ ?_ (fun hHeld2 => ?_)
      · exact D14.out
      clear hK Kx hHeld
      have hHeld := hHeld2
      clear hHeld2
      try simp only [Act.put, List.setIfInBounds_toArray, List.set_cons_zero, List.set_cons_succ]
      refine wpAnyH_ready (rs := [28]) (by as_aux_lemma => kernel_rfl) (by simp) ?_
      refine AllReadyH.cons (o := { dst := some 80, op := Op.call { callee := Callee.value (Operand.func 20), args := #[Operand.tmp 78, Operand.tmp 79], argTypes := #[37, 37] }, type := 4, pos := "law.go:26", after := #[{ on := 26, ground := Ground.data }, { on := 27, ground := Ground.data }, { on := 26, ground := Ground.chain }, { on := 24, ground := Ground.guard }], guard := some (24, true) }) rfl (fun Kx hK => ?_) AllReadyH.nil
      go_simp
      refine (same_yes W2.out MT.out (by decide)).mono ?_
      rintro e z15 ⟨rfl, bz15⟩
      have K15 := Lib.hid (below2Z K14.out bz15)
      have D15 := Lib.hid (heldB_up K15.out D0.out)
      replace O1 := Lib.hid (Tab.later O1.out bz15)
      replace O2 := Lib.hid (Tab.later O2.out bz15)
      replace nz3 := Lib.hid (((bz15).block _ (Array.getElem?_eq_some_iff.1 (nz3.out)).1).trans (nz3.out))
      replace MS := Lib.hid ((MS.out).later bz15)
      replace nz13 := Lib.hid (((bz15).block _ (Array.getElem?_eq_some_iff.1 (nz13.out)).1).trans (nz13.out))
      replace MT := Lib.hid ((MT.out).later bz15)
      replace W2 := Lib.hid (Texts.later W2.out bz15)
      clear bz15
      go_wp2_with fail
      refine hK.out _ _ ?_ (fun hHeld2 => ?_)
      · exact D15.out
      clear hK Kx hHeld
      have hHeld := hHeld2
      clear hHeld2
      try simp only [Act.put, List.setIfInBounds_toArray, List.set_cons_zero, List.set_cons_succ]
      refine wpAnyH_take (i := 29) (oi := { dst := some 81, op := Op.pick (Operand.tmp 76) (Operand.tmp 80) (Operand.const (Value.bool false)), type := 4, pos := "law.go:26", after := #[{ on := 24, ground := Ground.data }, { on := 28, ground := Ground.data }], guard := none }) (v := ?_) rfl (by as_aux_lemma => kernel_rfl) (by as_aux_lemma => kernel_rfl) (by as_aux_lemma => kernel_rfl) (fun _ _ _ h => h) (Or.inl ⟨by rfl, ?_⟩) (by assumption) ?_
      rotate_left
      · intro w' hSw
        try dsimp only at hSw
        go_simp
        try with_reducible rfl
      try simp only [Act.put, List.setIfInBounds_toArray, List.set_cons_zero, List.set_cons_succ]
      refine wpAnyH_take (i := 30) (oi := { dst := some 82, op := Op.move (Operand.tmp 81), type := 4, pos := "law.go:26", after := #[{ on := 29, ground := Ground.data }, { on := 28, ground := Ground.chain }], guard := none }) (v := ?_) rfl (by as_aux_lemma => kernel_rfl) (by as_aux_lemma => kernel_rfl) (by as_aux_lemma => kernel_rfl) (fun _ _ _ h => h) (Or.inl ⟨by rfl, ?_⟩) (by assumption) ?_
      rotate_left
      · intro w' hSw
        try dsimp only at hSw
        go_simp
        try with_reducible rfl
      try simp only [Act.put, List.setIfInBounds_toArray, List.set_cons_zero, List.set_cons_succ]
      refine wpAnyH_take (i := 31) (oi := { dst := some 83, op := Op.load 25 (Operand.tmp 6), type := 25, pos := "law.go:26", after := #[{ on := 30, ground := Ground.guard }], guard := some (30, true) }) (v := ?_) rfl (by as_aux_lemma => kernel_rfl) (by as_aux_lemma => kernel_rfl) (by as_aux_lemma => kernel_rfl) (fun _ _ _ h => h) (Or.inl ⟨by rfl, ?_⟩) (by assumption) ?_
      rotate_left
      · intro w' hSw
        try dsimp only at hSw
        go_simp
        try with_reducible rfl
      try simp only [Act.put, List.setIfInBounds_toArray, List.set_cons_zero, List.set_cons_succ]
      refine wpAnyH_ready (rs := [32]) (by as_aux_lemma => kernel_rfl) (by simp) ?_
      refine AllReadyH.cons (o := { dst := some 84, op := Op.call { callee := Callee.value (Operand.func 21), args := #[Operand.tmp 83, Operand.const (Value.string { data := #[97, 110, 110] })], argTypes := #[25, 9] }, type := 37, pos := "law.go:26", after := #[{ on := 31, ground := Ground.data }, { on := 30, ground := Ground.chain }, { on := 30, ground := Ground.guard }], guard := some (30, true) }) rfl (fun Kx hK => ?_) AllReadyH.nil
      go_simp
      refine (vwwat_any (H3.out.later K15.out) (stOK_may lwM3) (by decide) [97, 110, 110]).mono ?_
      rintro e z16 ⟨vW3, rfl, hW3, bz16⟩
      have K16 := Lib.hid (below2Z K15.out bz16)
      have D16 := Lib.hid (heldB_up K16.out D0.out)
      replace O1 := Lib.hid (Tab.later O1.out bz16)
      replace O2 := Lib.hid (Tab.later O2.out bz16)
      replace nz3 := Lib.hid (((bz16).block _ (Array.getElem?_eq_some_iff.1 (nz3.out)).1).trans (nz3.out))
      replace MS := Lib.hid ((MS.out).later bz16)
      replace nz13 := Lib.hid (((bz16).block _ (Array.getElem?_eq_some_iff.1 (nz13.out)).1).trans (nz13.out))
      replace MT := Lib.hid ((MT.out).later bz16)
      replace W2 := Lib.hid (Texts.later W2.out bz16)
      rw [lwW3] at hW3
      obtain ⟨aW3, cW3, rfl⟩ := texts_shape hW3 (n := 0) rfl
      have W3 := Lib.hid hW3
      clear hW3
      clear bz16
      go_wp2_with fail
      refine hK.out _ _ ?_ (fun hHeld2 => ?_)
      · exact D16.out
      clear hK Kx hHeld
      have hHeld := hHeld2
      clear hHeld2
      try simp only [Act.put, List.setIfInBounds_toArray, List.set_cons_zero, List.set_cons_succ]
      refine wpAnyH_take (i := 33) (oi := { dst := some 85, op := Op.call { callee := Callee.builtin Builtin.len, args := #[Operand.tmp 84], argTypes := #[37] }, type := 3, pos := "law.go:26", after := #[{ on := 32, ground := Ground.data }, { on := 30, ground := Ground.guard }], guard := some (30, true) }) (v := ?_) rfl (by as_aux_lemma => kernel_rfl) (by as_aux_lemma => kernel_rfl) (by as_aux_lemma => kernel_rfl) (fun _ _ _ h => h) (Or.inl ⟨by rfl, ?_⟩) (by assumption) ?_
      rotate_left
      · intro w' hSw
        try dsimp only at hSw
        go_simp
        try with_reducible rfl
      try simp only [Act.put, List.setIfInBounds_toArray, List.set_cons_zero, List.set_cons_succ]
      refine wpAnyH_take (i := 34) (oi := { dst := some 86, op := Op.binOp BinOp.eql 3 (Operand.tmp 85) (Operand.const (Value.int IntKind.i64 0)) 3, type := 4, pos := "law.go:26", after := #[{ on := 33, ground := Ground.data }, { on := 30, ground := Ground.guard }], guard := some (30, true) }) (v := ?_) rfl (by as_aux_lemma => kernel_rfl) (by as_aux_lemma => kernel_rfl) (by as_aux_lemma => kernel_rfl) (fun _ _ _ h => h) (Or.inl ⟨by rfl, ?_⟩) (by assumption) ?_
      rotate_left
      · intro w' hSw
        try dsimp only at hSw
        go_simp
        try with_reducible rfl
      try simp only [Act.put, List.setIfInBounds_toArray, List.set_cons_zero, List.set_cons_succ]
      refine wpAnyH_take (i := 35) (oi := { dst := some 87, op := Op.pick (Operand.tmp 82) (Operand.tmp 86) (Operand.const (Value.bool false)), type := 4, pos := "law.go:26", after := #[{ on := 30, ground := Ground.data }, { on := 34, ground := Ground.data }], guard := none }) (v := ?_) rfl (by as_aux_lemma => kernel_rfl) (by as_aux_lemma => kernel_rfl) (by as_aux_lemma => kernel_rfl) (fun _ _ _ h => h) (Or.inl ⟨by rfl, ?_⟩) (by assumption) ?_
      rotate_left
      · intro w' hSw
        try dsimp only at hSw
        go_simp
        try with_reducible rfl
      try simp only [Act.put, List.setIfInBounds_toArray, List.set_cons_zero, List.set_cons_succ]
      refine wpAnyH_take (i := 36) (oi := { dst := some 88, op := Op.move (Operand.tmp 87), type := 4, pos := "law.go:26", after := #[{ on := 35, ground := Ground.data }, { on := 32, ground := Ground.chain }], guard := none }) (v := ?_) rfl (by as_aux_lemma => kernel_rfl) (by as_aux_lemma => kernel_rfl) (by as_aux_lemma => kernel_rfl) (fun _ _ _ h => h) (Or.inl ⟨by rfl, ?_⟩) (by assumption) ?_
      rotate_left
      · intro w' hSw
        try dsimp only at hSw
        go_simp
        try with_reducible rfl
      try simp only [Act.put, List.setIfInBounds_toArray, List.set_cons_zero, List.set_cons_succ]
      refine wpAnyH_take (i := 37) (oi := { dst := some 89, op := Op.move (Operand.tmp 12), type := 40, pos := "law.go:26", after := #[{ on := 36, ground := Ground.guard }], guard := some (36, true) }) (v := ?_) rfl (by as_aux_lemma => kernel_rfl) (by as_aux_lemma => kernel_rfl) (by as_aux_lemma => kernel_rfl) (fun _ _ _ h => h) (Or.inl ⟨by rfl, ?_⟩) (by assumption) ?_
      rotate_left
      · intro w' hSw
        try dsimp only at hSw
        go_simp
        try with_reducible rfl
      try simp only [Act.put, List.setIfInBounds_toArray, List.set_cons_zero, List.set_cons_succ]
      refine wpAnyH_take (i := 38) (oi := { dst := some 90, op := Op.load 30 (Operand.tmp 1), type := 30, pos := "law.go:26", after := #[{ on := 36, ground := Ground.guard }], guard := some (36, true) }) (v := ?_) rfl (by as_aux_lemma => kernel_rfl) (by as_aux_lemma => kernel_rfl) (by as_aux_lemma => kernel_rfl) (fun _ _ _ h => h) (Or.inl ⟨by rfl, ?_⟩) (by assumption) ?_
      rotate_left
      · intro w' hSw
        try dsimp only at hSw
        go_simp
        try with_reducible rfl
      try simp only [Act.put, List.setIfInBounds_toArray, List.set_cons_zero, List.set_cons_succ]
      refine wpAnyH_take (i := 39) (oi := { dst := some 91, op := Op.build 57 #[(0, Operand.const (Value.string { data := #[97, 110, 110] })), (1, Operand.const (Value.bool true)), (2, Operand.tmp 90)], type := 57, pos := "law.go:26", after := #[{ on := 38, ground := Ground.data }, { on := 36, ground := Ground.guard }], guard := some (36, true) }) (v := ?_) rfl (by as_aux_lemma => kernel_rfl) (by as_aux_lemma => kernel_rfl) (by as_aux_lemma => kernel_rfl) (fun _ _ _ h => h) (Or.inl ⟨by rfl, ?_⟩) (by assumption) ?_
      rotate_left
      · intro w' hSw
        try dsimp only at hSw
        go_simp
        try with_reducible rfl
      try simp only [Act.put, List.setIfInBounds_toArray, List.set_cons_zero, List.set_cons_succ]
      refine wpAnyH_ready (rs := [40]) (by as_aux_lemma => kernel_rfl) (by simp) ?_
      refine AllReadyH.cons (o := { dst := some 92, op := Op.buildSlice 40 1 #[(0, Operand.tmp 91)], type := 40, pos := "law.go:26", after := #[{ on := 39, ground := Ground.data }, { on := 36, ground := Ground.guard }], guard := some (36, true) }) rfl (fun Kx hK => ?_) AllReadyH.nil
      go_simp
      refine hK.out _ _ ?_ (fun hHeld2 => ?_)
      · exact heldB_up (below2Z K16.out (bl_newZ _ _)) D0.out
      clear hK Kx hHeld
      have hHeld := hHeld2
      clear hHeld2
      try simp only [Act.put, List.setIfInBounds_toArray, List.set_cons_zero, List.set_cons_succ]
      have bz17 := bl_newZ z16 (.cells #[.string ⟨#[97, 110, 110]⟩, .bool true, .int .i64 4, .int .i64 2, .int .i64 0, .string ⟨#[]⟩] 57)
      have K17 := Lib.hid (below2Z K16.out bz17)
      have D17 := Lib.hid (heldB_up K17.out D0.out)
      have nz17 := Lib.hid ((MapKept.heap_alloc z16 (.cells #[.string ⟨#[97, 110, 110]⟩, .bool true, .int .i64 4, .int .i64 2, .int .i64 0, .string ⟨#[]⟩] 57)).1)
      have hB17 : w19.heap.size ≤ z16.heap.size := (K16.out).size
      replace O1 := Lib.hid (Tab.later O1.out bz17)
      replace O2 := Lib.hid (Tab.later O2.out bz17)
      replace nz3 := Lib.hid (((bz17).block _ (Array.getElem?_eq_some_iff.1 (nz3.out)).1).trans (nz3.out))
      replace MS := Lib.hid ((MS.out).later bz17)
      replace nz13 := Lib.hid (((bz17).block _ (Array.getElem?_eq_some_iff.1 (nz13.out)).1).trans (nz13.out))
      replace MT := Lib.hid ((MT.out).later bz17)
      replace W2 := Lib.hid (Texts.later W2.out bz17)
      replace W3 := Lib.hid (Texts.later W3.out bz17)
      have MC := Lib.hid (chgs_of (rdS_made chgOK (w := z16) (cs := #[.string ⟨#[97, 110, 110]⟩, .bool true, .int .i64 4, .int .i64 2, .int .i64 0, .string ⟨#[]⟩]) (l := [⟨[97, 110, 110], true, ⟨4, 2, 0, []⟩⟩]) rfl (by decide) rfl))
      clear bz17
      generalize z16.alloc (.cells #[.string ⟨#[97, 110, 110]⟩, .bool true, .int .i64 4, .int .i64 2, .int .i64 0, .string ⟨#[]⟩] 57) = z17 at K17 D17 nz17 O1 O2 nz3 MS nz13 MT W2 W3 MC hHeld ⊢
      generalize z16.heap.size = B17 at nz17 hB17 MC ⊢
      refine wpAnyH_ready (rs := [41]) (by as_aux_lemma => kernel_rfl) (by simp) ?_
      refine AllReadyH.cons (o := { dst := some 93, op := Op.call { callee := Callee.value (Operand.func 23), args := #[Operand.tmp 89, Operand.tmp 92], argTypes := #[40, 40] }, type := 4, pos := "law.go:26", after := #[{ on := 37, ground := Ground.data }, { on := 40, ground := Ground.data }, { on := 36, ground := Ground.chain }, { on := 36, ground := Ground.guard }], guard := some (36, true) }) rfl (fun Kx hK => ?_) AllReadyH.nil
      go_simp
      refine (csame_yes (U7.out.later K17.out) MC.out).mono ?_
      rintro e z18 ⟨rfl, bz18⟩
      have K18 := Lib.hid (below2Z K17.out bz18)
      have D18 := Lib.hid (heldB_up K18.out D0.out)
      replace O1 := Lib.hid (Tab.later O1.out bz18)
      replace O2 := Lib.hid (Tab.later O2.out bz18)
      replace nz3 := Lib.hid (((bz18).block _ (Array.getElem?_eq_some_iff.1 (nz3.out)).1).trans (nz3.out))
      replace MS := Lib.hid ((MS.out).later bz18)
      replace nz13 := Lib.hid (((bz18).block _ (Array.getElem?_eq_some_iff.1 (nz13.out)).1).trans (nz13.out))
      replace MT := Lib.hid ((MT.out).later bz18)
      replace W2 := Lib.hid (Texts.later W2.out bz18)
      replace W3 := Lib.hid (Texts.later W3.out bz18)
      replace nz17 := Lib.hid (((bz18).block _ (Array.getElem?_eq_some_iff.1 (nz17.out)).1).trans (nz17.out))
      replace MC := Lib.hid ((MC.out).later bz18)
      clear bz18
      go_wp2_with fail
      refine hK.out _ _ ?_ (fun hHeld2 => ?_)
      · exact D18.out
      clear hK Kx hHeld
      have hHeld := hHeld2
      clear hHeld2
      try simp only [Act.put, List.setIfInBounds_toArray, List.set_cons_zero, List.set_cons_succ]
      refine wpAnyH_take (i := 42) (oi := { dst := some 94, op := Op.pick (Operand.tmp 88) (Operand.tmp 93) (Operand.const (Value.bool false)), type := 4, pos := "law.go:26", after := #[{ on := 36, ground := Ground.data }, { on := 41, ground := Ground.data }], guard := none }) (v := ?_) rfl (by as_aux_lemma => kernel_rfl) (by as_aux_lemma => kernel_rfl) (by as_aux_lemma => kernel_rfl) (fun _ _ _ h => h) (Or.inl ⟨by rfl, ?_⟩) (by assumption) ?_
      rotate_left
      · intro w' hSw
        try dsimp only at hSw
        go_simp
        try with_reducible rfl
      try simp only [Act.put, List.setIfInBounds_toArray, List.set_cons_zero, List.set_cons_succ]
      refine wpAnyH_take (i := 43) (oi := { dst := some 95, op := Op.move (Operand.tmp 94), type := 4, pos := "law.go:26", after := #[{ on := 42, ground := Ground.data }, { on := 41, ground := Ground.chain }], guard := none }) (v := ?_) rfl (by as_aux_lemma => kernel_rfl) (by as_aux_lemma => kernel_rfl) (by as_aux_lemma => kernel_rfl) (fun _ _ _ h => h) (Or.inl ⟨by rfl, ?_⟩) (by assumption) ?_
      rotate_left
      · intro w' hSw
        try dsimp only at hSw
        go_simp
        try with_reducible rfl
      try simp only [Act.put, List.setIfInBounds_toArray, List.set_cons_zero, List.set_cons_succ]
      refine wpAnyH_take (i := 44) (oi := { dst := some 96, op := Op.move (Operand.tmp 13), type := 40, pos := "law.go:26", after := #[{ on := 43, ground := Ground.guard }], guard := some (43, true) }) (v := ?_) rfl (by as_aux_lemma => kernel_rfl) (by as_aux_lemma => kernel_rfl) (by as_aux_lemma => kernel_rfl) (fun _ _ _ h => h) (Or.inl ⟨by rfl, ?_⟩) (by assumption) ?_
      rotate_left
      · intro w' hSw
        try dsimp only at hSw
        go_simp
        try with_reducible rfl
      try simp only [Act.put, List.setIfInBounds_toArray, List.set_cons_zero, List.set_cons_succ]
      refine wpAnyH_take (i := 45) (oi := { dst := some 97, op := Op.build 57 #[(0, Operand.const (Value.string { data := #[97, 110, 110] }))], type := 57, pos := "law.go:26", after := #[{ on := 43, ground := Ground.guard }], guard := some (43, true) }) (v := ?_) rfl (by as_aux_lemma => kernel_rfl) (by as_aux_lemma => kernel_rfl) (by as_aux_lemma => kernel_rfl) (fun _ _ _ h => h) (Or.inl ⟨by rfl, ?_⟩) (by assumption) ?_
      rotate_left
      · intro w' hSw
        try dsimp only at hSw
        go_simp
        try with_reducible rfl
      try simp only [Act.put, List.setIfInBounds_toArray, List.set_cons_zero, List.set_cons_succ]
      refine wpAnyH_ready (rs := [46]) (by as_aux_lemma => kernel_rfl) (by simp) ?_
      refine AllReadyH.cons (o := { dst := some 98, op := Op.buildSlice 40 1 #[(0, Operand.tmp 97)], type := 40, pos := "law.go:26", after := #[{ on := 45, ground := Ground.data }, { on := 43, ground := Ground.guard }], guard := some (43, true) }) rfl (fun Kx hK => ?_) AllReadyH.nil
      go_simp
      refine hK.out _ _ ?_ (fun hHeld2 => ?_)
      · exact heldB_up (below2Z K18.out (bl_newZ _ _)) D0.out
      clear hK Kx hHeld
      have hHeld := hHeld2
      clear hHeld2
      try simp only [Act.put, List.setIfInBounds_toArray, List.set_cons_zero, List.set_cons_succ]
      have bz19 := bl_newZ z18 (.cells #[.string ⟨#[97, 110, 110]⟩, .bool false, .int .i64 0, .int .i64 0, .int .i64 0, .string ⟨#[]⟩] 57)
      have K19 := Lib.hid (below2Z K18.out bz19)
      have D19 := Lib.hid (heldB_up K19.out D0.out)
      have nz19 := Lib.hid ((MapKept.heap_alloc z18 (.cells #[.string ⟨#[97, 110, 110]⟩, .bool false, .int .i64 0, .int .i64 0, .int .i64 0, .string ⟨#[]⟩] 57)).1)
      have hB19 : w19.heap.size ≤ z18.heap.size := (K18.out).size
      replace O1 := Lib.hid (Tab.later O1.out bz19)
      replace O2 := Lib.hid (Tab.later O2.out bz19)
      replace nz3 := Lib.hid (((bz19).block _ (Array.getElem?_eq_some_iff.1 (nz3.out)).1).trans (nz3.out))
      replace MS := Lib.hid ((MS.out).later bz19)
      replace nz13 := Lib.hid (((bz19).block _ (Array.getElem?_eq_some_iff.1 (nz13.out)).1).trans (nz13.out))
      replace MT := Lib.hid ((MT.out).later bz19)
      replace W2 := Lib.hid (Texts.later W2.out bz19)
      replace W3 := Lib.hid (Texts.later W3.out bz19)
      replace nz17 := Lib.hid (((bz19).block _ (Array.getElem?_eq_some_iff.1 (nz17.out)).1).trans (nz17.out))
      replace MC := Lib.hid ((MC.out).later bz19)
      have MD := Lib.hid (chgs_of (rdS_made chgOK (w := z18) (cs := #[.string ⟨#[97, 110, 110]⟩, .bool false, .int .i64 0, .int .i64 0, .int .i64 0, .string ⟨#[]⟩]) (l := [⟨[97, 110, 110], false, ⟨0, 0, 0, []⟩⟩]) rfl (by decide) rfl))
      clear bz19
      generalize z18.alloc (.cells #[.string ⟨#[97, 110, 110]⟩, .bool false, .int .i64 0, .int .i64 0, .int .i64 0, .string ⟨#[]⟩] 57) = z19 at K19 D19 nz19 O1 O2 nz3 MS nz13 MT W2 W3 nz17 MC MD hHeld ⊢
      generalize z18.heap.size = B19 at nz19 hB19 MD ⊢
      refine wpAnyH_ready (rs := [47]) (by as_aux_lemma => kernel_rfl) (by simp) ?_
      refine AllReadyH.cons (o := { dst := some 99, op := Op.call { callee := Callee.value (Operand.func 23), args := #[Operand.tmp 96, Operand.tmp 98], argTypes := #[40, 40] }, type := 4, pos := "law.go:26", after := #[{ on := 44, ground := Ground.data }, { on := 46, ground := Ground.data }, { on := 43, ground := Ground.chain }, { on := 43, ground := Ground.guard }], guard := some (43, true) }) rfl (fun Kx hK => ?_) AllReadyH.nil
      go_simp
      refine (csame_yes (U8.out.later K19.out) MD.out).mono ?_
      rintro e z20 ⟨rfl, bz20⟩
      have K20 := Lib.hid (below2Z K19.out bz20)
      have D20 := Lib.hid (heldB_up K20.out D0.out)
      replace O1 := Lib.hid (Tab.later O1.out bz20)
      replace O2 := Lib.hid (Tab.later O2.out bz20)
      replace nz3 := Lib.hid (((bz20).block _ (Array.getElem?_eq_some_iff.1 (nz3.out)).1).trans (nz3.out))
      replace MS := Lib.hid ((MS.out).later bz20)
      replace nz13 := Lib.hid (((bz20).block _ (Array.getElem?_eq_some_iff.1 (nz13.out)).1).trans (nz13.out))
      replace MT := Lib.hid ((MT.out).later bz20)
      replace W2 := Lib.hid (Texts.later W2.out bz20)
      replace W3 := Lib.hid (Texts.later W3.out bz20)
      replace nz17 := Lib.hid (((bz20).block _ (Array.getElem?_eq_some_iff.1 (nz17.out)).1).trans (nz17.out))
      replace MC := Lib.hid ((MC.out).later bz20)
      replace nz19 := Lib.hid (((bz20).block _ (Array.getElem?_eq_some_iff.1 (nz19.out)).1).trans (nz19.out))
      replace MD := Lib.hid ((MD.out).later bz20)
      clear bz20
      go_wp2_with fail
      refine hK.out _ _ ?_ (fun hHeld2 => ?_)
      · exact D20.out
      clear hK Kx hHeld
      have hHeld := hHeld2
      clear hHeld2
      try simp only [Act.put, List.setIfInBounds_toArray, List.set_cons_zero, List.set_cons_succ]
      refine wpAnyH_take (i := 48) (oi := { dst := some 100, op := Op.pick (Operand.tmp 95) (Operand.tmp 99) (Operand.const (Value.bool false)), type := 4, pos := "law.go:26", after := #[{ on := 43, ground := Ground.data }, { on := 47, ground := Ground.data }], guard := none }) (v := ?_) rfl (by as_aux_lemma => kernel_rfl) (by as_aux_lemma => kernel_rfl) (by as_aux_lemma => kernel_rfl) (fun _ _ _ h => h) (Or.inl ⟨by rfl, ?_⟩) (by assumption) ?_
      rotate_left
      · intro w' hSw
        try dsimp only at hSw
        go_simp
        try with_reducible rfl
      try simp only [Act.put, List.setIfInBounds_toArray, List.set_cons_zero, List.set_cons_succ]
      refine wpAnyH_take (i := 49) (oi := { dst := some 0, op := Op.assign (Operand.tmp 100), type := 4, pos := "law.go:26", after := #[{ on := 48, ground := Ground.data }, { on := 47, ground := Ground.chain }, { on := 0, ground := Ground.phase }, { on := 1, ground := Ground.phase }, { on := 2, ground := Ground.phase }, { on := 3, ground := Ground.phase }, { on := 4, ground := Ground.phase }, { on := 5, ground := Ground.phase }, { on := 6, ground := Ground.phase }, { on := 7, ground := Ground.phase }, { on := 8, ground := Ground.phase }, { on := 9, ground := Ground.phase }, { on := 10, ground := Ground.phase }, { on := 11, ground := Ground.phase }, { on := 12, ground := Ground.phase }, { on := 13, ground := Ground.phase }, { on := 14, ground := Ground.phase }, { on := 15, ground := Ground.phase }, { on := 16, ground := Ground.phase }, { on := 17, ground := Ground.phase }, { on := 18, ground := Ground.phase }, { on := 19, ground := Ground.phase }, { on := 20, ground := Ground.phase }, { on := 21, ground := Ground.phase }, { on := 22, ground := Ground.phase }, { on := 23, ground := Ground.phase }, { on := 24, ground := Ground.phase }, { on := 25, ground := Ground.phase }, { on := 26, ground := Ground.phase }, { on := 27, ground := Ground.phase }, { on := 28, ground := Ground.phase }, { on := 29, ground := Ground.phase }, { on := 30, ground := Ground.phase }, { on := 31, ground := Ground.phase }, { on := 32, ground := Ground.phase }, { on := 33, ground := Ground.phase }, { on := 34, ground := Ground.phase }, { on := 35, ground := Ground.phase }, { on := 36, ground := Ground.phase }, { on := 37, ground := Ground.phase }, { on := 38, ground := Ground.phase }, { on := 39, ground := Ground.phase }, { on := 40, ground := Ground.phase }, { on := 41, ground := Ground.phase }, { on := 42, ground := Ground.phase }, { on := 43, ground := Ground.phase }, { on := 44, ground := Ground.phase }, { on := 45, ground := Ground.phase }, { on := 46, ground := Ground.phase }, { on := 47, ground := Ground.phase }, { on := 48, ground := Ground.phase }], guard := none }) (v := ?_) rfl (by as_aux_lemma => kernel_rfl) (by as_aux_lemma => kernel_rfl) (by as_aux_lemma => kernel_rfl) (fun _ _ _ h => h) (Or.inl ⟨by rfl, ?_⟩) (by assumption) ?_
      rotate_left
      · intro w' hSw
        try dsimp only at hSw
        go_simp
        try with_reducible rfl
      try simp only [Act.put, List.setIfInBounds_toArray, List.set_cons_zero]
      refine wpAnyH_done (by kernel_rfl) ?_ _
      replace HB := Lib.hid (below2Z HB.out K20.out)
      go_wp2_with fail
      go_ret
      exact ⟨rfl, HB.out⟩
  · go_simp
    refine hK.out _ _ ?_ (fun hHeld2 => ?_)
    · exact heldB_up (below2Z K1.out (bl_newZ _ _)) D0.out
    clear hK Kx hHeld
    have hHeld := hHeld2
    clear hHeld2
    try simp only [Act.put, List.setIfInBounds_toArray, List.set_cons_zero, List.set_cons_succ]
    have bz21 := bl_newZ z1 (.cells #[.string ⟨#[97, 110, 110]⟩, .int .i64 4, .int .i64 2, .int .i64 0, .string ⟨#[]⟩] 45)
    have K21 := Lib.hid (below2Z K1.out bz21)
    have D21 := Lib.hid (heldB_up K21.out D0.out)
    have nz21 := Lib.hid ((MapKept.heap_alloc z1 (.cells #[.string ⟨#[97, 110, 110]⟩, .int .i64 4, .int .i64 2, .int .i64 0, .string ⟨#[]⟩] 45)).1)
    have hB21 : w19.heap.size ≤ z1.heap.size := (K1.out).size
    replace O1 := Lib.hid (Tab.later O1.out bz21)
    have MS := Lib.hid (tab_made z1 z1.heap.size rfl 45 [⟨[97, 110, 110], ⟨4, 2, 0, []⟩⟩] (by decide) #[.string ⟨#[97, 110, 110]⟩, .int .i64 4, .int .i64 2, .int .i64 0, .string ⟨#[]⟩] rfl 1 rfl)
    clear bz21
    generalize z1.alloc (.cells #[.string ⟨#[97, 110, 110]⟩, .int .i64 4, .int .i64 2, .int .i64 0, .string ⟨#[]⟩] 45) = z21 at K21 D21 nz21 O1 MS hHeld ⊢
    generalize z1.heap.size = B21 at nz21 hB21 MS ⊢
    refine wpAnyH_ready (rs := [6]) (by as_aux_lemma => kernel_rfl) (by simp) ?_
    refine AllReadyH.cons (o := { dst := some 58, op := Op.call { callee := Callee.value (Operand.func 18), args := #[Operand.tmp 57, Operand.const (Value.string { data := #[98, 111, 98] })], argTypes := #[25, 9] }, type := 34, pos := "law.go:26", after := #[{ on := 5, ground := Ground.data }, { on := 4, ground := Ground.chain }, { on := 4, ground := Ground.guard }], guard := some (4, true) }) rfl (fun Kx hK => ?_) AllReadyH.nil
    go_simp
    refine (vwof_any (H2.out.later K21.out) (stOK_may lwM2) (by decide) [98, 111, 98]).mono ?_
    rintro e z22 ⟨vO2, rfl, hO2, bz22⟩
    have K22 := Lib.hid (below2Z K21.out bz22)
    have D22 := Lib.hid (heldB_up K22.out D0.out)
    replace O1 := Lib.hid (Tab.later O1.out bz22)
    replace nz21 := Lib.hid (((bz22).block _ (Array.getElem?_eq_some_iff.1 (nz21.out)).1).trans (nz21.out))
    replace MS := Lib.hid ((MS.out).later bz22)
    rw [lwO2] at hO2
    obtain ⟨aO2, cO2, rfl⟩ := tab_shapeV hO2.tab (n := 1) rfl
    have O2 := Lib.hid hO2.tab
    clear hO2
    clear bz22
    go_wp2_with fail
    refine hK.out _ _ ?_ (fun hHeld2 => ?_)
    · exact D22.out
    clear hK Kx hHeld
    have hHeld := hHeld2
    clear hHeld2
    try simp only [Act.put, List.setIfInBounds_toArray, List.set_cons_zero, List.set_cons_succ]
    refine wpAnyH_ready (rs := [10]) (by as_aux_lemma => kernel_rfl) (by simp) ?_
    refine AllReadyH.cons (o := { dst := some 62, op := Op.call { callee := Callee.value (Operand.func 17), args := #[Operand.tmp 58, Operand.tmp 61], argTypes := #[34, 34] }, type := 4, pos := "law.go:26", after := #[{ on := 6, ground := Ground.data }, { on := 9, ground := Ground.data }, { on := 6, ground := Ground.chain }, { on := 4, ground := Ground.guard }], guard := some (4, true) }) rfl (fun Kx hK => ?_) AllReadyH.nil
    go_simp
    refine (tsame_eq O2.out MS.out (Lib.hid (tSame_iff.2 rfl))).mono ?_
    rintro e z23 ⟨rfl, bz23⟩
    have K23 := Lib.hid (below2Z K22.out bz23)
    have D23 := Lib.hid (heldB_up K23.out D0.out)
    replace O1 := Lib.hid (Tab.later O1.out bz23)
    replace nz21 := Lib.hid (((bz23).block _ (Array.getElem?_eq_some_iff.1 (nz21.out)).1).trans (nz21.out))
    replace MS := Lib.hid ((MS.out).later bz23)
    replace O2 := Lib.hid (Tab.later O2.out bz23)
    clear bz23
    go_wp2_with fail
    refine hK.out _ _ ?_ (fun hHeld2 => ?_)
    · exact D23.out
    clear hK Kx hHeld
    have hHeld := hHeld2
    clear hHeld2
    try simp only [Act.put, List.setIfInBounds_toArray, List.set_cons_zero, List.set_cons_succ]
    refine wpAnyH_take (i := 11) (oi := { dst := some 63, op := Op.pick (Operand.tmp 56) (Operand.tmp 62) (Operand.const (Value.bool false)), type := 4, pos := "law.go:26", after := #[{ on := 4, ground := Ground.data }, { on := 10, ground := Ground.data }], guard := none }) (v := ?_) rfl (by as_aux_lemma => kernel_rfl) (by as_aux_lemma => kernel_rfl) (by as_aux_lemma => kernel_rfl) (fun _ _ _ h => h) (Or.inl ⟨by rfl, ?_⟩) (by assumption) ?_
    rotate_left
    · intro w' hSw
      try dsimp only at hSw
      go_simp
      try with_reducible rfl
    try simp only [Act.put, List.setIfInBounds_toArray, List.set_cons_zero, List.set_cons_succ]
    refine wpAnyH_take (i := 12) (oi := { dst := some 64, op := Op.move (Operand.tmp 63), type := 4, pos := "law.go:26", after := #[{ on := 11, ground := Ground.data }, { on := 10, ground := Ground.chain }], guard := none }) (v := ?_) rfl (by as_aux_lemma => kernel_rfl) (by as_aux_lemma => kernel_rfl) (by as_aux_lemma => kernel_rfl) (fun _ _ _ h => h) (Or.inl ⟨by rfl, ?_⟩) (by assumption) ?_
    rotate_left
    · intro w' hSw
      try dsimp only at hSw
      go_simp
      try with_reducible rfl
    try simp only [Act.put, List.setIfInBounds_toArray, List.set_cons_zero, List.set_cons_succ]
    refine wpAnyH_take (i := 13) (oi := { dst := some 65, op := Op.load 30 (Operand.tmp 8), type := 30, pos := "law.go:26", after := #[{ on := 12, ground := Ground.guard }], guard := some (12, true) }) (v := ?_) rfl (by as_aux_lemma => kernel_rfl) (by as_aux_lemma => kernel_rfl) (by as_aux_lemma => kernel_rfl) (fun _ _ _ h => h) (Or.inl ⟨by rfl, ?_⟩) (by assumption) ?_
    rotate_left
    · intro w' hSw
      try dsimp only at hSw
      go_simp
      try with_reducible rfl
    try simp only [Act.put, List.setIfInBounds_toArray, List.set_cons_zero, List.set_cons_succ]
    refine wpAnyH_take (i := 14) (oi := { dst := some 66, op := Op.load 30 (Operand.tmp 1), type := 30, pos := "law.go:26", after := #[{ on := 12, ground := Ground.guard }], guard := some (12, true) }) (v := ?_) rfl (by as_aux_lemma => kernel_rfl) (by as_aux_lemma => kernel_rfl) (by as_aux_lemma => kernel_rfl) (fun _ _ _ h => h) (Or.inl ⟨by rfl, ?_⟩) (by assumption) ?_
    rotate_left
    · intro w' hSw
      try dsimp only at hSw
      go_simp
      try with_reducible rfl
    try simp only [Act.put, List.setIfInBounds_toArray, List.set_cons_zero, List.set_cons_succ]
    refine wpAnyH_take (i := 15) (oi := { dst := some 67, op := Op.binOp BinOp.eql 30 (Operand.tmp 65) (Operand.tmp 66) 30, type := 4, pos := "law.go:26", after := #[{ on := 13, ground := Ground.data }, { on := 14, ground := Ground.data }, { on := 12, ground := Ground.guard }], guard := some (12, true) }) (v := ?_) rfl (by as_aux_lemma => kernel_rfl) (by as_aux_lemma => kernel_rfl) (by as_aux_lemma => kernel_rfl) (fun _ _ _ h => h) (Or.inl ⟨by rfl, ?_⟩) (by assumption) ?_
    rotate_left
    · intro w' hSw
      try dsimp only at hSw
      go_simp
      try with_reducible rfl
    try simp only [Act.put, List.setIfInBounds_toArray, List.set_cons_zero, List.set_cons_succ]
    refine wpAnyH_take (i := 16) (oi := { dst := some 68, op := Op.pick (Operand.tmp 64) (Operand.tmp 67) (Operand.const (Value.bool false)), type := 4, pos := "law.go:26", after := #[{ on := 12, ground := Ground.data }, { on := 15, ground := Ground.data }], guard := none }) (v := ?_) rfl (by as_aux_lemma => kernel_rfl) (by as_aux_lemma => kernel_rfl) (by as_aux_lemma => kernel_rfl) (fun _ _ _ h => h) (Or.inl ⟨by rfl, ?_⟩) (by assumption) ?_
    rotate_left
    · intro w' hSw
      try dsimp only at hSw
      go_simp
      try with_reducible rfl
    try simp only [Act.put, List.setIfInBounds_toArray, List.set_cons_zero, List.set_cons_succ]
    refine wpAnyH_take (i := 17) (oi := { dst := some 69, op := Op.move (Operand.tmp 68), type := 4, pos := "law.go:26", after := #[{ on := 16, ground := Ground.data }, { on := 12, ground := Ground.chain }], guard := none }) (v := ?_) rfl (by as_aux_lemma => kernel_rfl) (by as_aux_lemma => kernel_rfl) (by as_aux_lemma => kernel_rfl) (fun _ _ _ h => h) (Or.inl ⟨by rfl, ?_⟩) (by assumption) ?_
    rotate_left
    · intro w' hSw
      try dsimp only at hSw
      go_simp
      try with_reducible rfl
    try simp only [Act.put, List.setIfInBounds_toArray, List.set_cons_zero, List.set_cons_succ]
    refine wpAnyH_take (i := 18) (oi := { dst := some 70, op := Op.move (Operand.tmp 9), type := 4, pos := "law.go:26", after := #[{ on := 17, ground := Ground.guard }], guard := some (17, true) }) (v := ?_) rfl (by as_aux_lemma => kernel_rfl) (by as_aux_lemma => kernel_rfl) (by as_aux_lemma => kernel_rfl) (fun _ _ _ h => h) (Or.inl ⟨by rfl, ?_⟩) (by assumption) ?_
    rotate_left
    · intro w' hSw
      try dsimp only at hSw
      go_simp
      try with_reducible rfl
    try simp only [Act.put, List.setIfInBounds_toArray, List.set_cons_zero, List.set_cons_succ]
    refine wpAnyH_take (i := 19) (oi := { dst := some 71, op := Op.pick (Operand.tmp 69) (Operand.tmp 70) (Operand.const (Value.bool false)), type := 4, pos := "law.go:26", after := #[{ on := 17, ground := Ground.data }, { on := 18, ground := Ground.data }], guard := none }) (v := ?_) rfl (by as_aux_lemma => kernel_rfl) (by as_aux_lemma => kernel_rfl) (by as_aux_lemma => kernel_rfl) (fun _ _ _ h => h) (Or.inl ⟨by rfl, ?_⟩) (by assumption) ?_
    rotate_left
    · intro w' hSw
      try dsimp only at hSw
      go_simp
      try with_reducible rfl
    try simp only [Act.put, List.setIfInBounds_toArray, List.set_cons_zero, List.set_cons_succ]
    refine wpAnyH_take (i := 20) (oi := { dst := some 72, op := Op.move (Operand.tmp 71), type := 4, pos := "law.go:26", after := #[{ on := 19, ground := Ground.data }, { on := 17, ground := Ground.chain }], guard := none }) (v := ?_) rfl (by as_aux_lemma => kernel_rfl) (by as_aux_lemma => kernel_rfl) (by as_aux_lemma => kernel_rfl) (fun _ _ _ h => h) (Or.inl ⟨by rfl, ?_⟩) (by assumption) ?_
    rotate_left
    · intro w' hSw
      try dsimp only at hSw
      go_simp
      try with_reducible rfl
    try simp only [Act.put, List.setIfInBounds_toArray, List.set_cons_zero, List.set_cons_succ]
    refine wpAnyH_take (i := 21) (oi := { dst := some 73, op := Op.move (Operand.tmp 11), type := 4, pos := "law.go:26", after := #[{ on := 20, ground := Ground.guard }], guard := some (20, true) }) (v := ?_) rfl (by as_aux_lemma => kernel_rfl) (by as_aux_lemma => kernel_rfl) (by as_aux_lemma => kernel_rfl) (fun _ _ _ h => h) (Or.inl ⟨by rfl, ?_⟩) (by assumption) ?_
    rotate_left
    · intro w' hSw
      try dsimp only at hSw
      go_simp
      try with_reducible rfl
    try simp only [Act.put, List.setIfInBounds_toArray, List.set_cons_zero, List.set_cons_succ]
    refine wpAnyH_take (i := 22) (oi := { dst := some 74, op := Op.unOp UnOp.not 4 (Operand.tmp 73), type := 4, pos := "law.go:26", after := #[{ on := 21, ground := Ground.data }, { on := 20, ground := Ground.guard }], guard := some (20, true) }) (v := ?_) rfl (by as_aux_lemma => kernel_rfl) (by as_aux_lemma => kernel_rfl) (by as_aux_lemma => kernel_rfl) (fun _ _ _ h => h) (Or.inl ⟨by rfl, ?_⟩) (by assumption) ?_
    rotate_left
    · intro w' hSw
      try dsimp only at hSw
      go_simp
      try with_reducible rfl
    try simp only [Act.put, List.setIfInBounds_toArray, List.set_cons_zero, List.set_cons_succ]
    refine wpAnyH_take (i := 23) (oi := { dst := some 75, op := Op.pick (Operand.tmp 72) (Operand.tmp 74) (Operand.const (Value.bool false)), type := 4, pos := "law.go:26", after := #[{ on := 20, ground := Ground.data }, { on := 22, ground := Ground.data }], guard := none }) (v := ?_) rfl (by as_aux_lemma => kernel_rfl) (by as_aux_lemma => kernel_rfl) (by as_aux_lemma => kernel_rfl) (fun _ _ _ h => h) (Or.inl ⟨by rfl, ?_⟩) (by assumption) ?_
    rotate_left
    · intro w' hSw
      try dsimp only at hSw
      go_simp
      try with_reducible rfl
    try simp only [Act.put, List.setIfInBounds_toArray, List.set_cons_zero, List.set_cons_succ]
    refine wpAnyH_take (i := 24) (oi := { dst := some 76, op := Op.move (Operand.tmp 75), type := 4, pos := "law.go:26", after := #[{ on := 23, ground := Ground.data }, { on := 20, ground := Ground.chain }], guard := none }) (v := ?_) rfl (by as_aux_lemma => kernel_rfl) (by as_aux_lemma => kernel_rfl) (by as_aux_lemma => kernel_rfl) (fun _ _ _ h => h) (Or.inl ⟨by rfl, ?_⟩) (by assumption) ?_
    rotate_left
    · intro w' hSw
      try dsimp only at hSw
      go_simp
      try with_reducible rfl
    try simp only [Act.put, List.setIfInBounds_toArray, List.set_cons_zero, List.set_cons_succ]
    refine wpAnyH_take (i := 25) (oi := { dst := some 77, op := Op.load 25 (Operand.tmp 4), type := 25, pos := "law.go:26", after := #[{ on := 24, ground := Ground.guard }], guard := some (24, true) }) (v := ?_) rfl (by as_aux_lemma => kernel_rfl) (by as_aux_lemma => kernel_rfl) (by as_aux_lemma => kernel_rfl) (fun _ _ _ h => h) (Or.inl ⟨by rfl, ?_⟩) (by assumption) ?_
    rotate_left
    · intro w' hSw
      try dsimp only at hSw
      go_simp
      try with_reducible rfl
    try simp only [Act.put, List.setIfInBounds_toArray, List.set_cons_zero, List.set_cons_succ]
    refine wpAnyH_ready (rs := [26, 27]) (by as_aux_lemma => kernel_rfl) (by simp) ?_
    refine AllReadyH.cons (o := { dst := some 78, op := Op.call { callee := Callee.value (Operand.func 21), args := #[Operand.tmp 77, Operand.const (Value.string { data := #[97, 110, 110] })], argTypes := #[25, 9] }, type := 37, pos := "law.go:26", after := #[{ on := 25, ground := Ground.data }, { on := 24, ground := Ground.chain }, { on := 24, ground := Ground.guard }], guard := some (24, true) }) rfl (fun Kx hK => ?_) (AllReadyH.cons (o := { dst := some 79, op := Op.buildSlice 37 1 #[(0, Operand.const (Value.string { data := #[98, 111, 98] }))], type := 37, pos := "law.go:26", after := #[{ on := 24, ground := Ground.guard }], guard := some (24, true) }) rfl (fun Kx hK => ?_) (AllReadyH.nil))
    · go_simp
      refine (vwwat_any (H2.out.later K23.out) (stOK_may lwM2) (by decide) [97, 110, 110]).mono ?_
      rintro e z24 ⟨vW2, rfl, hW2, bz24⟩
      have K24 := Lib.hid (below2Z K23.out bz24)
      have D24 := Lib.hid (heldB_up K24.out D0.out)
      replace O1 := Lib.hid (Tab.later O1.out bz24)
      replace nz21 := Lib.hid (((bz24).block _ (Array.getElem?_eq_some_iff.1 (nz21.out)).1).trans (nz21.out))
      replace MS := Lib.hid ((MS.out).later bz24)
      replace O2 := Lib.hid (Tab.later O2.out bz24)
      rw [lwW2] at hW2
      obtain ⟨aW2, cW2, rfl⟩ := texts_shape hW2 (n := 1) rfl
      have W2 := Lib.hid hW2
      clear hW2
      clear bz24
      go_wp2_with fail
      refine hK.out _ _ ?_ (fun hHeld2 => ?_)
      · exact D24.out
      clear hK Kx hHeld
      have hHeld := hHeld2
      clear hHeld2
      try simp only [Act.put, List.setIfInBounds_toArray, List.set_cons_zero, List.set_cons_succ]
      refine wpAnyH_ready (rs := [27]) (by as_aux_lemma => kernel_rfl) (by simp) ?_
      refine AllReadyH.cons (o := { dst := some 79, op := Op.buildSlice 37 1 #[(0, Operand.const (Value.string { data := #[98, 111, 98] }))], type := 37, pos := "law.go:26", after := #[{ on := 24, ground := Ground.guard }], guard := some (24, true) }) rfl (fun Kx hK => ?_) AllReadyH.nil
      go_simp
      refine hK.out _ _ ?_ (fun hHeld2 => ?_)
      · exact heldB_up (below2Z K24.out (bl_newZ _ _)) D0.out
      clear hK Kx hHeld
      have hHeld := hHeld2
      clear hHeld2
      try simp only [Act.put, List.setIfInBounds_toArray, List.set_cons_zero, List.set_cons_succ]
      have bz25 := bl_newZ z24 (.cells #[.string ⟨#[98, 111, 98]⟩] 9)
      have K25 := Lib.hid (below2Z K24.out bz25)
      have D25 := Lib.hid (heldB_up K25.out D0.out)
      have nz25 := Lib.hid ((MapKept.heap_alloc z24 (.cells #[.string ⟨#[98, 111, 98]⟩] 9)).1)
      have hB25 : w19.heap.size ≤ z24.heap.size := (K24.out).size
      replace O1 := Lib.hid (Tab.later O1.out bz25)
      replace nz21 := Lib.hid (((bz25).block _ (Array.getElem?_eq_some_iff.1 (nz21.out)).1).trans (nz21.out))
      replace MS := Lib.hid ((MS.out).later bz25)
      replace O2 := Lib.hid (Tab.later O2.out bz25)
      replace W2 := Lib.hid (Texts.later W2.out bz25)
      have MT := Lib.hid (texts_made z24 9 z24.heap.size rfl [[98, 111, 98]] (by decide) #[.string ⟨#[98, 111, 98]⟩] rfl 1 rfl)
      clear bz25
      generalize z24.alloc (.cells #[.string ⟨#[98, 111, 98]⟩] 9) = z25 at K25 D25 nz25 O1 nz21 MS O2 W2 MT hHeld ⊢
      generalize z24.heap.size = B25 at nz25 hB25 MT ⊢
      refine wpAnyH_ready (rs := [28]) (by as_aux_lemma => kernel_rfl) (by simp) ?_
      refine AllReadyH.cons (o := { dst := some 80, op := Op.call { callee := Callee.value (Operand.func 20), args := #[Operand.tmp 78, Operand.tmp 79], argTypes := #[37, 37] }, type := 4, pos := "law.go:26", after := #[{ on := 26, ground := Ground.data }, { on := 27, ground := Ground.data }, { on := 26, ground := Ground.chain }, { on := 24, ground := Ground.guard }], guard := some (24, true) }) rfl (fun Kx hK => ?_) AllReadyH.nil
      go_simp
      refine (same_yes W2.out MT.out (by decide)).mono ?_
      rintro e z26 ⟨rfl, bz26⟩
      have K26 := Lib.hid (below2Z K25.out bz26)
      have D26 := Lib.hid (heldB_up K26.out D0.out)
      replace O1 := Lib.hid (Tab.later O1.out bz26)
      replace nz21 := Lib.hid (((bz26).block _ (Array.getElem?_eq_some_iff.1 (nz21.out)).1).trans (nz21.out))
      replace MS := Lib.hid ((MS.out).later bz26)
      replace O2 := Lib.hid (Tab.later O2.out bz26)
      replace W2 := Lib.hid (Texts.later W2.out bz26)
      replace nz25 := Lib.hid (((bz26).block _ (Array.getElem?_eq_some_iff.1 (nz25.out)).1).trans (nz25.out))
      replace MT := Lib.hid ((MT.out).later bz26)
      clear bz26
      go_wp2_with fail
      refine hK.out _ _ ?_ (fun hHeld2 => ?_)
      · exact D26.out
      clear hK Kx hHeld
      have hHeld := hHeld2
      clear hHeld2
      try simp only [Act.put, List.setIfInBounds_toArray, List.set_cons_zero, List.set_cons_succ]
      refine wpAnyH_take (i := 29) (oi := { dst := some 81, op := Op.pick (Operand.tmp 76) (Operand.tmp 80) (Operand.const (Value.bool false)), type := 4, pos := "law.go:26", after := #[{ on := 24, ground := Ground.data }, { on := 28, ground := Ground.data }], guard := none }) (v := ?_) rfl (by as_aux_lemma => kernel_rfl) (by as_aux_lemma => kernel_rfl) (by as_aux_lemma => kernel_rfl) (fun _ _ _ h => h) (Or.inl ⟨by rfl, ?_⟩) (by assumption) ?_
      rotate_left
      · intro w' hSw
        try dsimp only at hSw
        go_simp
        try with_reducible rfl
      try simp only [Act.put, List.setIfInBounds_toArray, List.set_cons_zero, List.set_cons_succ]
      refine wpAnyH_take (i := 30) (oi := { dst := some 82, op := Op.move (Operand.tmp 81), type := 4, pos := "law.go:26", after := #[{ on := 29, ground := Ground.data }, { on := 28, ground := Ground.chain }], guard := none }) (v := ?_) rfl (by as_aux_lemma => kernel_rfl) (by as_aux_lemma => kernel_rfl) (by as_aux_lemma => kernel_rfl) (fun _ _ _ h => h) (Or.inl ⟨by rfl, ?_⟩) (by assumption) ?_
      rotate_left
      · intro w' hSw
        try dsimp only at hSw
        go_simp
        try with_reducible rfl
      try simp only [Act.put, List.setIfInBounds_toArray, List.set_cons_zero, List.set_cons_succ]
      refine wpAnyH_take (i := 31) (oi := { dst := some 83, op := Op.load 25 (Operand.tmp 6), type := 25, pos := "law.go:26", after := #[{ on := 30, ground := Ground.guard }], guard := some (30, true) }) (v := ?_) rfl (by as_aux_lemma => kernel_rfl) (by as_aux_lemma => kernel_rfl) (by as_aux_lemma => kernel_rfl) (fun _ _ _ h => h) (Or.inl ⟨by rfl, ?_⟩) (by assumption) ?_
      rotate_left
      · intro w' hSw
        try dsimp only at hSw
        go_simp
        try with_reducible rfl
      try simp only [Act.put, List.setIfInBounds_toArray, List.set_cons_zero, List.set_cons_succ]
      refine wpAnyH_ready (rs := [32]) (by as_aux_lemma => kernel_rfl) (by simp) ?_
      refine AllReadyH.cons (o := { dst := some 84, op := Op.call { callee := Callee.value (Operand.func 21), args := #[Operand.tmp 83, Operand.const (Value.string { data := #[97, 110, 110] })], argTypes := #[25, 9] }, type := 37, pos := "law.go:26", after := #[{ on := 31, ground := Ground.data }, { on := 30, ground := Ground.chain }, { on := 30, ground := Ground.guard }], guard := some (30, true) }) rfl (fun Kx hK => ?_) AllReadyH.nil
      go_simp
      refine (vwwat_any (H3.out.later K26.out) (stOK_may lwM3) (by decide) [97, 110, 110]).mono ?_
      rintro e z27 ⟨vW3, rfl, hW3, bz27⟩
      have K27 := Lib.hid (below2Z K26.out bz27)
      have D27 := Lib.hid (heldB_up K27.out D0.out)
      replace O1 := Lib.hid (Tab.later O1.out bz27)
      replace nz21 := Lib.hid (((bz27).block _ (Array.getElem?_eq_some_iff.1 (nz21.out)).1).trans (nz21.out))
      replace MS := Lib.hid ((MS.out).later bz27)
      replace O2 := Lib.hid (Tab.later O2.out bz27)
      replace W2 := Lib.hid (Texts.later W2.out bz27)
      replace nz25 := Lib.hid (((bz27).block _ (Array.getElem?_eq_some_iff.1 (nz25.out)).1).trans (nz25.out))
      replace MT := Lib.hid ((MT.out).later bz27)
      rw [lwW3] at hW3
      obtain ⟨aW3, cW3, rfl⟩ := texts_shape hW3 (n := 0) rfl
      have W3 := Lib.hid hW3
      clear hW3
      clear bz27
      go_wp2_with fail
      refine hK.out _ _ ?_ (fun hHeld2 => ?_)
      · exact D27.out
      clear hK Kx hHeld
      have hHeld := hHeld2
      clear hHeld2
      try simp only [Act.put, List.setIfInBounds_toArray, List.set_cons_zero, List.set_cons_succ]
      refine wpAnyH_take (i := 33) (oi := { dst := some 85, op := Op.call { callee := Callee.builtin Builtin.len, args := #[Operand.tmp 84], argTypes := #[37] }, type := 3, pos := "law.go:26", after := #[{ on := 32, ground := Ground.data }, { on := 30, ground := Ground.guard }], guard := some (30, true) }) (v := ?_) rfl (by as_aux_lemma => kernel_rfl) (by as_aux_lemma => kernel_rfl) (by as_aux_lemma => kernel_rfl) (fun _ _ _ h => h) (Or.inl ⟨by rfl, ?_⟩) (by assumption) ?_
      rotate_left
      · intro w' hSw
        try dsimp only at hSw
        go_simp
        try with_reducible rfl
      try simp only [Act.put, List.setIfInBounds_toArray, List.set_cons_zero, List.set_cons_succ]
      refine wpAnyH_take (i := 34) (oi := { dst := some 86, op := Op.binOp BinOp.eql 3 (Operand.tmp 85) (Operand.const (Value.int IntKind.i64 0)) 3, type := 4, pos := "law.go:26", after := #[{ on := 33, ground := Ground.data }, { on := 30, ground := Ground.guard }], guard := some (30, true) }) (v := ?_) rfl (by as_aux_lemma => kernel_rfl) (by as_aux_lemma => kernel_rfl) (by as_aux_lemma => kernel_rfl) (fun _ _ _ h => h) (Or.inl ⟨by rfl, ?_⟩) (by assumption) ?_
      rotate_left
      · intro w' hSw
        try dsimp only at hSw
        go_simp
        try with_reducible rfl
      try simp only [Act.put, List.setIfInBounds_toArray, List.set_cons_zero, List.set_cons_succ]
      refine wpAnyH_take (i := 35) (oi := { dst := some 87, op := Op.pick (Operand.tmp 82) (Operand.tmp 86) (Operand.const (Value.bool false)), type := 4, pos := "law.go:26", after := #[{ on := 30, ground := Ground.data }, { on := 34, ground := Ground.data }], guard := none }) (v := ?_) rfl (by as_aux_lemma => kernel_rfl) (by as_aux_lemma => kernel_rfl) (by as_aux_lemma => kernel_rfl) (fun _ _ _ h => h) (Or.inl ⟨by rfl, ?_⟩) (by assumption) ?_
      rotate_left
      · intro w' hSw
        try dsimp only at hSw
        go_simp
        try with_reducible rfl
      try simp only [Act.put, List.setIfInBounds_toArray, List.set_cons_zero, List.set_cons_succ]
      refine wpAnyH_take (i := 36) (oi := { dst := some 88, op := Op.move (Operand.tmp 87), type := 4, pos := "law.go:26", after := #[{ on := 35, ground := Ground.data }, { on := 32, ground := Ground.chain }], guard := none }) (v := ?_) rfl (by as_aux_lemma => kernel_rfl) (by as_aux_lemma => kernel_rfl) (by as_aux_lemma => kernel_rfl) (fun _ _ _ h => h) (Or.inl ⟨by rfl, ?_⟩) (by assumption) ?_
      rotate_left
      · intro w' hSw
        try dsimp only at hSw
        go_simp
        try with_reducible rfl
      try simp only [Act.put, List.setIfInBounds_toArray, List.set_cons_zero, List.set_cons_succ]
      refine wpAnyH_take (i := 37) (oi := { dst := some 89, op := Op.move (Operand.tmp 12), type := 40, pos := "law.go:26", after := #[{ on := 36, ground := Ground.guard }], guard := some (36, true) }) (v := ?_) rfl (by as_aux_lemma => kernel_rfl) (by as_aux_lemma => kernel_rfl) (by as_aux_lemma => kernel_rfl) (fun _ _ _ h => h) (Or.inl ⟨by rfl, ?_⟩) (by assumption) ?_
      rotate_left
      · intro w' hSw
        try dsimp only at hSw
        go_simp
        try with_reducible rfl
      try simp only [Act.put, List.setIfInBounds_toArray, List.set_cons_zero, List.set_cons_succ]
      refine wpAnyH_take (i := 38) (oi := { dst := some 90, op := Op.load 30 (Operand.tmp 1), type := 30, pos := "law.go:26", after := #[{ on := 36, ground := Ground.guard }], guard := some (36, true) }) (v := ?_) rfl (by as_aux_lemma => kernel_rfl) (by as_aux_lemma => kernel_rfl) (by as_aux_lemma => kernel_rfl) (fun _ _ _ h => h) (Or.inl ⟨by rfl, ?_⟩) (by assumption) ?_
      rotate_left
      · intro w' hSw
        try dsimp only at hSw
        go_simp
        try with_reducible rfl
      try simp only [Act.put, List.setIfInBounds_toArray, List.set_cons_zero, List.set_cons_succ]
      refine wpAnyH_take (i := 39) (oi := { dst := some 91, op := Op.build 57 #[(0, Operand.const (Value.string { data := #[97, 110, 110] })), (1, Operand.const (Value.bool true)), (2, Operand.tmp 90)], type := 57, pos := "law.go:26", after := #[{ on := 38, ground := Ground.data }, { on := 36, ground := Ground.guard }], guard := some (36, true) }) (v := ?_) rfl (by as_aux_lemma => kernel_rfl) (by as_aux_lemma => kernel_rfl) (by as_aux_lemma => kernel_rfl) (fun _ _ _ h => h) (Or.inl ⟨by rfl, ?_⟩) (by assumption) ?_
      rotate_left
      · intro w' hSw
        try dsimp only at hSw
        go_simp
        try with_reducible rfl
      try simp only [Act.put, List.setIfInBounds_toArray, List.set_cons_zero, List.set_cons_succ]
      refine wpAnyH_ready (rs := [40]) (by as_aux_lemma => kernel_rfl) (by simp) ?_
      refine AllReadyH.cons (o := { dst := some 92, op := Op.buildSlice 40 1 #[(0, Operand.tmp 91)], type := 40, pos := "law.go:26", after := #[{ on := 39, ground := Ground.data }, { on := 36, ground := Ground.guard }], guard := some (36, true) }) rfl (fun Kx hK => ?_) AllReadyH.nil
      go_simp
      refine hK.out _ _ ?_ (fun hHeld2 => ?_)
      · exact heldB_up (below2Z K27.out (bl_newZ _ _)) D0.out
      clear hK Kx hHeld
      have hHeld := hHeld2
      clear hHeld2
      try simp only [Act.put, List.setIfInBounds_toArray, List.set_cons_zero, List.set_cons_succ]
      have bz28 := bl_newZ z27 (.cells #[.string ⟨#[97, 110, 110]⟩, .bool true, .int .i64 4, .int .i64 2, .int .i64 0, .string ⟨#[]⟩] 57)
      have K28 := Lib.hid (below2Z K27.out bz28)
      have D28 := Lib.hid (heldB_up K28.out D0.out)
      have nz28 := Lib.hid ((MapKept.heap_alloc z27 (.cells #[.string ⟨#[97, 110, 110]⟩, .bool true, .int .i64 4, .int .i64 2, .int .i64 0, .string ⟨#[]⟩] 57)).1)
      have hB28 : w19.heap.size ≤ z27.heap.size := (K27.out).size
      replace O1 := Lib.hid (Tab.later O1.out bz28)
      replace nz21 := Lib.hid (((bz28).block _ (Array.getElem?_eq_some_iff.1 (nz21.out)).1).trans (nz21.out))
      replace MS := Lib.hid ((MS.out).later bz28)
      replace O2 := Lib.hid (Tab.later O2.out bz28)
      replace W2 := Lib.hid (Texts.later W2.out bz28)
      replace nz25 := Lib.hid (((bz28).block _ (Array.getElem?_eq_some_iff.1 (nz25.out)).1).trans (nz25.out))
      replace MT := Lib.hid ((MT.out).later bz28)
      replace W3 := Lib.hid (Texts.later W3.out bz28)
      have MC := Lib.hid (chgs_of (rdS_made chgOK (w := z27) (cs := #[.string ⟨#[97, 110, 110]⟩, .bool true, .int .i64 4, .int .i64 2, .int .i64 0, .string ⟨#[]⟩]) (l := [⟨[97, 110, 110], true, ⟨4, 2, 0, []⟩⟩]) rfl (by decide) rfl))
      clear bz28
      generalize z27.alloc (.cells #[.string ⟨#[97, 110, 110]⟩, .bool true, .int .i64 4, .int .i64 2, .int .i64 0, .string ⟨#[]⟩] 57) = z28 at K28 D28 nz28 O1 nz21 MS O2 W2 nz25 MT W3 MC hHeld ⊢
      generalize z27.heap.size = B28 at nz28 hB28 MC ⊢
      refine wpAnyH_ready (rs := [41]) (by as_aux_lemma => kernel_rfl) (by simp) ?_
      refine AllReadyH.cons (o := { dst := some 93, op := Op.call { callee := Callee.value (Operand.func 23), args := #[Operand.tmp 89, Operand.tmp 92], argTypes := #[40, 40] }, type := 4, pos := "law.go:26", after := #[{ on := 37, ground := Ground.data }, { on := 40, ground := Ground.data }, { on := 36, ground := Ground.chain }, { on := 36, ground := Ground.guard }], guard := some (36, true) }) rfl (fun Kx hK => ?_) AllReadyH.nil
      go_simp
      refine (csame_yes (U7.out.later K28.out) MC.out).mono ?_
      rintro e z29 ⟨rfl, bz29⟩
      have K29 := Lib.hid (below2Z K28.out bz29)
      have D29 := Lib.hid (heldB_up K29.out D0.out)
      replace O1 := Lib.hid (Tab.later O1.out bz29)
      replace nz21 := Lib.hid (((bz29).block _ (Array.getElem?_eq_some_iff.1 (nz21.out)).1).trans (nz21.out))
      replace MS := Lib.hid ((MS.out).later bz29)
      replace O2 := Lib.hid (Tab.later O2.out bz29)
      replace W2 := Lib.hid (Texts.later W2.out bz29)
      replace nz25 := Lib.hid (((bz29).block _ (Array.getElem?_eq_some_iff.1 (nz25.out)).1).trans (nz25.out))
      replace MT := Lib.hid ((MT.out).later bz29)
      replace W3 := Lib.hid (Texts.later W3.out bz29)
      replace nz28 := Lib.hid (((bz29).block _ (Array.getElem?_eq_some_iff.1 (nz28.out)).1).trans (nz28.out))
      replace MC := Lib.hid ((MC.out).later bz29)
      clear bz29
      go_wp2_with fail
      refine hK.out _ _ ?_ (fun hHeld2 => ?_)
      · exact D29.out
      clear hK Kx hHeld
      have hHeld := hHeld2
      clear hHeld2
      try simp only [Act.put, List.setIfInBounds_toArray, List.set_cons_zero, List.set_cons_succ]
      refine wpAnyH_take (i := 42) (oi := { dst := some 94, op := Op.pick (Operand.tmp 88) (Operand.tmp 93) (Operand.const (Value.bool false)), type := 4, pos := "law.go:26", after := #[{ on := 36, ground := Ground.data }, { on := 41, ground := Ground.data }], guard := none }) (v := ?_) rfl (by as_aux_lemma => kernel_rfl) (by as_aux_lemma => kernel_rfl) (by as_aux_lemma => kernel_rfl) (fun _ _ _ h => h) (Or.inl ⟨by rfl, ?_⟩) (by assumption) ?_
      rotate_left
      · intro w' hSw
        try dsimp only at hSw
        go_simp
        try with_reducible rfl
      try simp only [Act.put, List.setIfInBounds_toArray, List.set_cons_zero, List.set_cons_succ]
      refine wpAnyH_take (i := 43) (oi := { dst := some 95, op := Op.move (Operand.tmp 94), type := 4, pos := "law.go:26", after := #[{ on := 42, ground := Ground.data }, { on := 41, ground := Ground.chain }], guard := none }) (v := ?_) rfl (by as_aux_lemma => kernel_rfl) (by as_aux_lemma => kernel_rfl) (by as_aux_lemma => kernel_rfl) (fun _ _ _ h => h) (Or.inl ⟨by rfl, ?_⟩) (by assumption) ?_
      rotate_left
      · intro w' hSw
        try dsimp only at hSw
        go_simp
        try with_reducible rfl
      try simp only [Act.put, List.setIfInBounds_toArray, List.set_cons_zero, List.set_cons_succ]
      refine wpAnyH_take (i := 44) (oi := { dst := some 96, op := Op.move (Operand.tmp 13), type := 40, pos := "law.go:26", after := #[{ on := 43, ground := Ground.guard }], guard := some (43, true) }) (v := ?_) rfl (by as_aux_lemma => kernel_rfl) (by as_aux_lemma => kernel_rfl) (by as_aux_lemma => kernel_rfl) (fun _ _ _ h => h) (Or.inl ⟨by rfl, ?_⟩) (by assumption) ?_
      rotate_left
      · intro w' hSw
        try dsimp only at hSw
        go_simp
        try with_reducible rfl
      try simp only [Act.put, List.setIfInBounds_toArray, List.set_cons_zero, List.set_cons_succ]
      refine wpAnyH_take (i := 45) (oi := { dst := some 97, op := Op.build 57 #[(0, Operand.const (Value.string { data := #[97, 110, 110] }))], type := 57, pos := "law.go:26", after := #[{ on := 43, ground := Ground.guard }], guard := some (43, true) }) (v := ?_) rfl (by as_aux_lemma => kernel_rfl) (by as_aux_lemma => kernel_rfl) (by as_aux_lemma => kernel_rfl) (fun _ _ _ h => h) (Or.inl ⟨by rfl, ?_⟩) (by assumption) ?_
      rotate_left
      · intro w' hSw
        try dsimp only at hSw
        go_simp
        try with_reducible rfl
      try simp only [Act.put, List.setIfInBounds_toArray, List.set_cons_zero, List.set_cons_succ]
      refine wpAnyH_ready (rs := [46]) (by as_aux_lemma => kernel_rfl) (by simp) ?_
      refine AllReadyH.cons (o := { dst := some 98, op := Op.buildSlice 40 1 #[(0, Operand.tmp 97)], type := 40, pos := "law.go:26", after := #[{ on := 45, ground := Ground.data }, { on := 43, ground := Ground.guard }], guard := some (43, true) }) rfl (fun Kx hK => ?_) AllReadyH.nil
      go_simp
      refine hK.out _ _ ?_ (fun hHeld2 => ?_)
      · exact heldB_up (below2Z K29.out (bl_newZ _ _)) D0.out
      clear hK Kx hHeld
      have hHeld := hHeld2
      clear hHeld2
      try simp only [Act.put, List.setIfInBounds_toArray, List.set_cons_zero, List.set_cons_succ]
      have bz30 := bl_newZ z29 (.cells #[.string ⟨#[97, 110, 110]⟩, .bool false, .int .i64 0, .int .i64 0, .int .i64 0, .string ⟨#[]⟩] 57)
      have K30 := Lib.hid (below2Z K29.out bz30)
      have D30 := Lib.hid (heldB_up K30.out D0.out)
      have nz30 := Lib.hid ((MapKept.heap_alloc z29 (.cells #[.string ⟨#[97, 110, 110]⟩, .bool false, .int .i64 0, .int .i64 0, .int .i64 0, .string ⟨#[]⟩] 57)).1)
      have hB30 : w19.heap.size ≤ z29.heap.size := (K29.out).size
      replace O1 := Lib.hid (Tab.later O1.out bz30)
      replace nz21 := Lib.hid (((bz30).block _ (Array.getElem?_eq_some_iff.1 (nz21.out)).1).trans (nz21.out))
      replace MS := Lib.hid ((MS.out).later bz30)
      replace O2 := Lib.hid (Tab.later O2.out bz30)
      replace W2 := Lib.hid (Texts.later W2.out bz30)
      replace nz25 := Lib.hid (((bz30).block _ (Array.getElem?_eq_some_iff.1 (nz25.out)).1).trans (nz25.out))
      replace MT := Lib.hid ((MT.out).later bz30)
      replace W3 := Lib.hid (Texts.later W3.out bz30)
      replace nz28 := Lib.hid (((bz30).block _ (Array.getElem?_eq_some_iff.1 (nz28.out)).1).trans (nz28.out))
      replace MC := Lib.hid ((MC.out).later bz30)
      have MD := Lib.hid (chgs_of (rdS_made chgOK (w := z29) (cs := #[.string ⟨#[97, 110, 110]⟩, .bool false, .int .i64 0, .int .i64 0, .int .i64 0, .string ⟨#[]⟩]) (l := [⟨[97, 110, 110], false, ⟨0, 0, 0, []⟩⟩]) rfl (by decide) rfl))
      clear bz30
      generalize z29.alloc (.cells #[.string ⟨#[97, 110, 110]⟩, .bool false, .int .i64 0, .int .i64 0, .int .i64 0, .string ⟨#[]⟩] 57) = z30 at K30 D30 nz30 O1 nz21 MS O2 W2 nz25 MT W3 nz28 MC MD hHeld ⊢
      generalize z29.heap.size = B30 at nz30 hB30 MD ⊢
      refine wpAnyH_ready (rs := [47]) (by as_aux_lemma => kernel_rfl) (by simp) ?_
      refine AllReadyH.cons (o := { dst := some 99, op := Op.call { callee := Callee.value (Operand.func 23), args := #[Operand.tmp 96, Operand.tmp 98], argTypes := #[40, 40] }, type := 4, pos := "law.go:26", after := #[{ on := 44, ground := Ground.data }, { on := 46, ground := Ground.data }, { on := 43, ground := Ground.chain }, { on := 43, ground := Ground.guard }], guard := some (43, true) }) rfl (fun Kx hK => ?_) AllReadyH.nil
      go_simp
      refine (csame_yes (U8.out.later K30.out) MD.out).mono ?_
      rintro e z31 ⟨rfl, bz31⟩
      have K31 := Lib.hid (below2Z K30.out bz31)
      have D31 := Lib.hid (heldB_up K31.out D0.out)
      replace O1 := Lib.hid (Tab.later O1.out bz31)
      replace nz21 := Lib.hid (((bz31).block _ (Array.getElem?_eq_some_iff.1 (nz21.out)).1).trans (nz21.out))
      replace MS := Lib.hid ((MS.out).later bz31)
      replace O2 := Lib.hid (Tab.later O2.out bz31)
      replace W2 := Lib.hid (Texts.later W2.out bz31)
      replace nz25 := Lib.hid (((bz31).block _ (Array.getElem?_eq_some_iff.1 (nz25.out)).1).trans (nz25.out))
      replace MT := Lib.hid ((MT.out).later bz31)
      replace W3 := Lib.hid (Texts.later W3.out bz31)
      replace nz28 := Lib.hid (((bz31).block _ (Array.getElem?_eq_some_iff.1 (nz28.out)).1).trans (nz28.out))
      replace MC := Lib.hid ((MC.out).later bz31)
      replace nz30 := Lib.hid (((bz31).block _ (Array.getElem?_eq_some_iff.1 (nz30.out)).1).trans (nz30.out))
      replace MD := Lib.hid ((MD.out).later bz31)
      clear bz31
      go_wp2_with fail
      refine hK.out _ _ ?_ (fun hHeld2 => ?_)
      · exact D31.out
      clear hK Kx hHeld
      have hHeld := hHeld2
      clear hHeld2
      try simp only [Act.put, List.setIfInBounds_toArray, List.set_cons_zero, List.set_cons_succ]
      refine wpAnyH_take (i := 48) (oi := { dst := some 100, op := Op.pick (Operand.tmp 95) (Operand.tmp 99) (Operand.const (Value.bool false)), type := 4, pos := "law.go:26", after := #[{ on := 43, ground := Ground.data }, { on := 47, ground := Ground.data }], guard := none }) (v := ?_) rfl (by as_aux_lemma => kernel_rfl) (by as_aux_lemma => kernel_rfl) (by as_aux_lemma => kernel_rfl) (fun _ _ _ h => h) (Or.inl ⟨by rfl, ?_⟩) (by assumption) ?_
      rotate_left
      · intro w' hSw
        try dsimp only at hSw
        go_simp
        try with_reducible rfl
      try simp only [Act.put, List.setIfInBounds_toArray, List.set_cons_zero, List.set_cons_succ]
      refine wpAnyH_take (i := 49) (oi := { dst := some 0, op := Op.assign (Operand.tmp 100), type := 4, pos := "law.go:26", after := #[{ on := 48, ground := Ground.data }, { on := 47, ground := Ground.chain }, { on := 0, ground := Ground.phase }, { on := 1, ground := Ground.phase }, { on := 2, ground := Ground.phase }, { on := 3, ground := Ground.phase }, { on := 4, ground := Ground.phase }, { on := 5, ground := Ground.phase }, { on := 6, ground := Ground.phase }, { on := 7, ground := Ground.phase }, { on := 8, ground := Ground.phase }, { on := 9, ground := Ground.phase }, { on := 10, ground := Ground.phase }, { on := 11, ground := Ground.phase }, { on := 12, ground := Ground.phase }, { on := 13, ground := Ground.phase }, { on := 14, ground := Ground.phase }, { on := 15, ground := Ground.phase }, { on := 16, ground := Ground.phase }, { on := 17, ground := Ground.phase }, { on := 18, ground := Ground.phase }, { on := 19, ground := Ground.phase }, { on := 20, ground := Ground.phase }, { on := 21, ground := Ground.phase }, { on := 22, ground := Ground.phase }, { on := 23, ground := Ground.phase }, { on := 24, ground := Ground.phase }, { on := 25, ground := Ground.phase }, { on := 26, ground := Ground.phase }, { on := 27, ground := Ground.phase }, { on := 28, ground := Ground.phase }, { on := 29, ground := Ground.phase }, { on := 30, ground := Ground.phase }, { on := 31, ground := Ground.phase }, { on := 32, ground := Ground.phase }, { on := 33, ground := Ground.phase }, { on := 34, ground := Ground.phase }, { on := 35, ground := Ground.phase }, { on := 36, ground := Ground.phase }, { on := 37, ground := Ground.phase }, { on := 38, ground := Ground.phase }, { on := 39, ground := Ground.phase }, { on := 40, ground := Ground.phase }, { on := 41, ground := Ground.phase }, { on := 42, ground := Ground.phase }, { on := 43, ground := Ground.phase }, { on := 44, ground := Ground.phase }, { on := 45, ground := Ground.phase }, { on := 46, ground := Ground.phase }, { on := 47, ground := Ground.phase }, { on := 48, ground := Ground.phase }], guard := none }) (v := ?_) rfl (by as_aux_lemma => kernel_rfl) (by as_aux_lemma => kernel_rfl) (by as_aux_lemma => kernel_rfl) (fun _ _ _ h => h) (Or.inl ⟨by rfl, ?_⟩) (by assumption) ?_
      rotate_left
      · intro w' hSw
        try dsimp only at hSw
        go_simp
        try with_reducible rfl
      try simp only [Act.put, List.setIfInBounds_toArray, List.set_cons_zero]
      refine wpAnyH_done (by kernel_rfl) ?_ _
      replace HB := Lib.hid (below2Z HB.out K31.out)
      go_wp2_with fail
      go_ret
      exact ⟨rfl, HB.out⟩
    · go_simp
      refine hK.out _ _ ?_ (fun hHeld2 => ?_)
      · exact heldB_up (below2Z K23.out (bl_newZ _ _)) D0.out
      clear hK Kx hHeld
      have hHeld := hHeld2
      clear hHeld2
      try simp only [Act.put, List.setIfInBounds_toArray, List.set_cons_zero, List.set_cons_succ]
      have bz32 := bl_newZ z23 (.cells #[.string ⟨#[98, 111, 98]⟩] 9)
      have K32 := Lib.hid (below2Z K23.out bz32)
      have D32 := Lib.hid (heldB_up K32.out D0.out)
      have nz32 := Lib.hid ((MapKept.heap_alloc z23 (.cells #[.string ⟨#[98, 111, 98]⟩] 9)).1)
      have hB32 : w19.heap.size ≤ z23.heap.size := (K23.out).size
      replace O1 := Lib.hid (Tab.later O1.out bz32)
      replace nz21 := Lib.hid (((bz32).block _ (Array.getElem?_eq_some_iff.1 (nz21.out)).1).trans (nz21.out))
      replace MS := Lib.hid ((MS.out).later bz32)
      replace O2 := Lib.hid (Tab.later O2.out bz32)
      have MT := Lib.hid (texts_made z23 9 z23.heap.size rfl [[98, 111, 98]] (by decide) #[.string ⟨#[98, 111, 98]⟩] rfl 1 rfl)
      clear bz32
      generalize z23.alloc (.cells #[.string ⟨#[98, 111, 98]⟩] 9) = z32 at K32 D32 nz32 O1 nz21 MS O2 MT hHeld ⊢
      generalize z23.heap.size = B32 at nz32 hB32 MT ⊢
      refine wpAnyH_ready (rs := [26]) (by as_aux_lemma => kernel_rfl) (by simp) ?_
      refine AllReadyH.cons (o := { dst := some 78, op := Op.call { callee := Callee.value (Operand.func 21), args := #[Operand.tmp 77, Operand.const (Value.string { data := #[97, 110, 110] })], argTypes := #[25, 9] }, type := 37, pos := "law.go:26", after := #[{ on := 25, ground := Ground.data }, { on := 24, ground := Ground.chain }, { on := 24, ground := Ground.guard }], guard := some (24, true) }) rfl (fun Kx hK => ?_) AllReadyH.nil
      go_simp
      refine (vwwat_any (H2.out.later K32.out) (stOK_may lwM2) (by decide) [97, 110, 110]).mono ?_
      rintro e z33 ⟨vW2, rfl, hW2, bz33⟩
      have K33 := Lib.hid (below2Z K32.out bz33)
      have D33 := Lib.hid (heldB_up K33.out D0.out)
      replace O1 := Lib.hid (Tab.later O1.out bz33)
      replace nz21 := Lib.hid (((bz33).block _ (Array.getElem?_eq_some_iff.1 (nz21.out)).1).trans (nz21.out))
      replace MS := Lib.hid ((MS.out).later bz33)
      replace O2 := Lib.hid (Tab.later O2.out bz33)
      replace nz32 := Lib.hid (((bz33).block _ (Array.getElem?_eq_some_iff.1 (nz32.out)).1).trans (nz32.out))
      replace MT := Lib.hid ((MT.out).later bz33)
      rw [lwW2] at hW2
      obtain ⟨aW2, cW2, rfl⟩ := texts_shape hW2 (n := 1) rfl
      have W2 := Lib.hid hW2
      clear hW2
      clear bz33
      go_wp2_with fail
      refine hK.out _ _ ?_ (fun hHeld2 => ?_)
      · exact D33.out
      clear hK Kx hHeld
      have hHeld := hHeld2
      clear hHeld2
      try simp only [Act.put, List.setIfInBounds_toArray, List.set_cons_zero, List.set_cons_succ]
      refine wpAnyH_ready (rs := [28]) (by as_aux_lemma => kernel_rfl) (by simp) ?_
      refine AllReadyH.cons (o := { dst := some 80, op := Op.call { callee := Callee.value (Operand.func 20), args := #[Operand.tmp 78, Operand.tmp 79], argTypes := #[37, 37] }, type := 4, pos := "law.go:26", after := #[{ on := 26, ground := Ground.data }, { on := 27, ground := Ground.data }, { on := 26, ground := Ground.chain }, { on := 24, ground := Ground.guard }], guard := some (24, true) }) rfl (fun Kx hK => ?_) AllReadyH.nil
      go_simp
      refine (same_yes W2.out MT.out (by decide)).mono ?_
      rintro e z34 ⟨rfl, bz34⟩
      have K34 := Lib.hid (below2Z K33.out bz34)
      have D34 := Lib.hid (heldB_up K34.out D0.out)
      replace O1 := Lib.hid (Tab.later O1.out bz34)
      replace nz21 := Lib.hid (((bz34).block _ (Array.getElem?_eq_some_iff.1 (nz21.out)).1).trans (nz21.out))
      replace MS := Lib.hid ((MS.out).later bz34)
      replace O2 := Lib.hid (Tab.later O2.out bz34)
      replace nz32 := Lib.hid (((bz34).block _ (Array.getElem?_eq_some_iff.1 (nz32.out)).1).trans (nz32.out))
      replace MT := Lib.hid ((MT.out).later bz34)
      replace W2 := Lib.hid (Texts.later W2.out bz34)
      clear bz34
      go_wp2_with fail
      refine hK.out _ _ ?_ (fun hHeld2 => ?_)
      · exact D34.out
      clear hK Kx hHeld
      have hHeld := hHeld2
      clear hHeld2
      try simp only [Act.put, List.setIfInBounds_toArray, List.set_cons_zero, List.set_cons_succ]
      refine wpAnyH_take (i := 29) (oi := { dst := some 81, op := Op.pick (Operand.tmp 76) (Operand.tmp 80) (Operand.const (Value.bool false)), type := 4, pos := "law.go:26", after := #[{ on := 24, ground := Ground.data }, { on := 28, ground := Ground.data }], guard := none }) (v := ?_) rfl (by as_aux_lemma => kernel_rfl) (by as_aux_lemma => kernel_rfl) (by as_aux_lemma => kernel_rfl) (fun _ _ _ h => h) (Or.inl ⟨by rfl, ?_⟩) (by assumption) ?_
      rotate_left
      · intro w' hSw
        try dsimp only at hSw
        go_simp
        try with_reducible rfl
      try simp only [Act.put, List.setIfInBounds_toArray, List.set_cons_zero, List.set_cons_succ]
      refine wpAnyH_take (i := 30) (oi := { dst := some 82, op := Op.move (Operand.tmp 81), type := 4, pos := "law.go:26", after := #[{ on := 29, ground := Ground.data }, { on := 28, ground := Ground.chain }], guard := none }) (v := ?_) rfl (by as_aux_lemma => kernel_rfl) (by as_aux_lemma => kernel_rfl) (by as_aux_lemma => kernel_rfl) (fun _ _ _ h => h) (Or.inl ⟨by rfl, ?_⟩) (by assumption) ?_
      rotate_left
      · intro w' hSw
        try dsimp only at hSw
        go_simp
        try with_reducible rfl
      try simp only [Act.put, List.setIfInBounds_toArray, List.set_cons_zero, List.set_cons_succ]
      refine wpAnyH_take (i := 31) (oi := { dst := some 83, op := Op.load 25 (Operand.tmp 6), type := 25, pos := "law.go:26", after := #[{ on := 30, ground := Ground.guard }], guard := some (30, true) }) (v := ?_) rfl (by as_aux_lemma => kernel_rfl) (by as_aux_lemma => kernel_rfl) (by as_aux_lemma => kernel_rfl) (fun _ _ _ h => h) (Or.inl ⟨by rfl, ?_⟩) (by assumption) ?_
      rotate_left
      · intro w' hSw
        try dsimp only at hSw
        go_simp
        try with_reducible rfl
      try simp only [Act.put, List.setIfInBounds_toArray, List.set_cons_zero, List.set_cons_succ]
      refine wpAnyH_ready (rs := [32]) (by as_aux_lemma => kernel_rfl) (by simp) ?_
      refine AllReadyH.cons (o := { dst := some 84, op := Op.call { callee := Callee.value (Operand.func 21), args := #[Operand.tmp 83, Operand.const (Value.string { data := #[97, 110, 110] })], argTypes := #[25, 9] }, type := 37, pos := "law.go:26", after := #[{ on := 31, ground := Ground.data }, { on := 30, ground := Ground.chain }, { on := 30, ground := Ground.guard }], guard := some (30, true) }) rfl (fun Kx hK => ?_) AllReadyH.nil
      go_simp
      refine (vwwat_any (H3.out.later K34.out) (stOK_may lwM3) (by decide) [97, 110, 110]).mono ?_
      rintro e z35 ⟨vW3, rfl, hW3, bz35⟩
      have K35 := Lib.hid (below2Z K34.out bz35)
      have D35 := Lib.hid (heldB_up K35.out D0.out)
      replace O1 := Lib.hid (Tab.later O1.out bz35)
      replace nz21 := Lib.hid (((bz35).block _ (Array.getElem?_eq_some_iff.1 (nz21.out)).1).trans (nz21.out))
      replace MS := Lib.hid ((MS.out).later bz35)
      replace O2 := Lib.hid (Tab.later O2.out bz35)
      replace nz32 := Lib.hid (((bz35).block _ (Array.getElem?_eq_some_iff.1 (nz32.out)).1).trans (nz32.out))
      replace MT := Lib.hid ((MT.out).later bz35)
      replace W2 := Lib.hid (Texts.later W2.out bz35)
      rw [lwW3] at hW3
      obtain ⟨aW3, cW3, rfl⟩ := texts_shape hW3 (n := 0) rfl
      have W3 := Lib.hid hW3
      clear hW3
      clear bz35
      go_wp2_with fail
      refine hK.out _ _ ?_ (fun hHeld2 => ?_)
      · exact D35.out
      clear hK Kx hHeld
      have hHeld := hHeld2
      clear hHeld2
      try simp only [Act.put, List.setIfInBounds_toArray, List.set_cons_zero, List.set_cons_succ]
      refine wpAnyH_take (i := 33) (oi := { dst := some 85, op := Op.call { callee := Callee.builtin Builtin.len, args := #[Operand.tmp 84], argTypes := #[37] }, type := 3, pos := "law.go:26", after := #[{ on := 32, ground := Ground.data }, { on := 30, ground := Ground.guard }], guard := some (30, true) }) (v := ?_) rfl (by as_aux_lemma => kernel_rfl) (by as_aux_lemma => kernel_rfl) (by as_aux_lemma => kernel_rfl) (fun _ _ _ h => h) (Or.inl ⟨by rfl, ?_⟩) (by assumption) ?_
      rotate_left
      · intro w' hSw
        try dsimp only at hSw
        go_simp
        try with_reducible rfl
      try simp only [Act.put, List.setIfInBounds_toArray, List.set_cons_zero, List.set_cons_succ]
      refine wpAnyH_take (i := 34) (oi := { dst := some 86, op := Op.binOp BinOp.eql 3 (Operand.tmp 85) (Operand.const (Value.int IntKind.i64 0)) 3, type := 4, pos := "law.go:26", after := #[{ on := 33, ground := Ground.data }, { on := 30, ground := Ground.guard }], guard := some (30, true) }) (v := ?_) rfl (by as_aux_lemma => kernel_rfl) (by as_aux_lemma => kernel_rfl) (by as_aux_lemma => kernel_rfl) (fun _ _ _ h => h) (Or.inl ⟨by rfl, ?_⟩) (by assumption) ?_
      rotate_left
      · intro w' hSw
        try dsimp only at hSw
        go_simp
        try with_reducible rfl
      try simp only [Act.put, List.setIfInBounds_toArray, List.set_cons_zero, List.set_cons_succ]
      refine wpAnyH_take (i := 35) (oi := { dst := some 87, op := Op.pick (Operand.tmp 82) (Operand.tmp 86) (Operand.const (Value.bool false)), type := 4, pos := "law.go:26", after := #[{ on := 30, ground := Ground.data }, { on := 34, ground := Ground.data }], guard := none }) (v := ?_) rfl (by as_aux_lemma => kernel_rfl) (by as_aux_lemma => kernel_rfl) (by as_aux_lemma => kernel_rfl) (fun _ _ _ h => h) (Or.inl ⟨by rfl, ?_⟩) (by assumption) ?_
      rotate_left
      · intro w' hSw
        try dsimp only at hSw
        go_simp
        try with_reducible rfl
      try simp only [Act.put, List.setIfInBounds_toArray, List.set_cons_zero, List.set_cons_succ]
      refine wpAnyH_take (i := 36) (oi := { dst := some 88, op := Op.move (Operand.tmp 87), type := 4, pos := "law.go:26", after := #[{ on := 35, ground := Ground.data }, { on := 32, ground := Ground.chain }], guard := none }) (v := ?_) rfl (by as_aux_lemma => kernel_rfl) (by as_aux_lemma => kernel_rfl) (by as_aux_lemma => kernel_rfl) (fun _ _ _ h => h) (Or.inl ⟨by rfl, ?_⟩) (by assumption) ?_
      rotate_left
      · intro w' hSw
        try dsimp only at hSw
        go_simp
        try with_reducible rfl
      try simp only [Act.put, List.setIfInBounds_toArray, List.set_cons_zero, List.set_cons_succ]
      refine wpAnyH_take (i := 37) (oi := { dst := some 89, op := Op.move (Operand.tmp 12), type := 40, pos := "law.go:26", after := #[{ on := 36, ground := Ground.guard }], guard := some (36, true) }) (v := ?_) rfl (by as_aux_lemma => kernel_rfl) (by as_aux_lemma => kernel_rfl) (by as_aux_lemma => kernel_rfl) (fun _ _ _ h => h) (Or.inl ⟨by rfl, ?_⟩) (by assumption) ?_
      rotate_left
      · intro w' hSw
        try dsimp only at hSw
        go_simp
        try with_reducible rfl
      try simp only [Act.put, List.setIfInBounds_toArray, List.set_cons_zero, List.set_cons_succ]
      refine wpAnyH_take (i := 38) (oi := { dst := some 90, op := Op.load 30 (Operand.tmp 1), type := 30, pos := "law.go:26", after := #[{ on := 36, ground := Ground.guard }], guard := some (36, true) }) (v := ?_) rfl (by as_aux_lemma => kernel_rfl) (by as_aux_lemma => kernel_rfl) (by as_aux_lemma => kernel_rfl) (fun _ _ _ h => h) (Or.inl ⟨by rfl, ?_⟩) (by assumption) ?_
      rotate_left
      · intro w' hSw
        try dsimp only at hSw
        go_simp
        try with_reducible rfl
      try simp only [Act.put, List.setIfInBounds_toArray, List.set_cons_zero, List.set_cons_succ]
      refine wpAnyH_take (i := 39) (oi := { dst := some 91, op := Op.build 57 #[(0, Operand.const (Value.string { data := #[97, 110, 110] })), (1, Operand.const (Value.bool true)), (2, Operand.tmp 90)], type := 57, pos := "law.go:26", after := #[{ on := 38, ground := Ground.data }, { on := 36, ground := Ground.guard }], guard := some (36, true) }) (v := ?_) rfl (by as_aux_lemma => kernel_rfl) (by as_aux_lemma => kernel_rfl) (by as_aux_lemma => kernel_rfl) (fun _ _ _ h => h) (Or.inl ⟨by rfl, ?_⟩) (by assumption) ?_
      rotate_left
      · intro w' hSw
        try dsimp only at hSw
        go_simp
        try with_reducible rfl
      try simp only [Act.put, List.setIfInBounds_toArray, List.set_cons_zero, List.set_cons_succ]
      refine wpAnyH_ready (rs := [40]) (by as_aux_lemma => kernel_rfl) (by simp) ?_
      refine AllReadyH.cons (o := { dst := some 92, op := Op.buildSlice 40 1 #[(0, Operand.tmp 91)], type := 40, pos := "law.go:26", after := #[{ on := 39, ground := Ground.data }, { on := 36, ground := Ground.guard }], guard := some (36, true) }) rfl (fun Kx hK => ?_) AllReadyH.nil
      go_simp
      refine hK.out _ _ ?_ (fun hHeld2 => ?_)
      · exact heldB_up (below2Z K35.out (bl_newZ _ _)) D0.out
      clear hK Kx hHeld
      have hHeld := hHeld2
      clear hHeld2
      try simp only [Act.put, List.setIfInBounds_toArray, List.set_cons_zero, List.set_cons_succ]
      have bz36 := bl_newZ z35 (.cells #[.string ⟨#[97, 110, 110]⟩, .bool true, .int .i64 4, .int .i64 2, .int .i64 0, .string ⟨#[]⟩] 57)
      have K36 := Lib.hid (below2Z K35.out bz36)
      have D36 := Lib.hid (heldB_up K36.out D0.out)
      have nz36 := Lib.hid ((MapKept.heap_alloc z35 (.cells #[.string ⟨#[97, 110, 110]⟩, .bool true, .int .i64 4, .int .i64 2, .int .i64 0, .string ⟨#[]⟩] 57)).1)
      have hB36 : w19.heap.size ≤ z35.heap.size := (K35.out).size
      replace O1 := Lib.hid (Tab.later O1.out bz36)
      replace nz21 := Lib.hid (((bz36).block _ (Array.getElem?_eq_some_iff.1 (nz21.out)).1).trans (nz21.out))
      replace MS := Lib.hid ((MS.out).later bz36)
      replace O2 := Lib.hid (Tab.later O2.out bz36)
      replace nz32 := Lib.hid (((bz36).block _ (Array.getElem?_eq_some_iff.1 (nz32.out)).1).trans (nz32.out))
      replace MT := Lib.hid ((MT.out).later bz36)
      replace W2 := Lib.hid (Texts.later W2.out bz36)
      replace W3 := Lib.hid (Texts.later W3.out bz36)
      have MC := Lib.hid (chgs_of (rdS_made chgOK (w := z35) (cs := #[.string ⟨#[97, 110, 110]⟩, .bool true, .int .i64 4, .int .i64 2, .int .i64 0, .string ⟨#[]⟩]) (l := [⟨[97, 110, 110], true, ⟨4, 2, 0, []⟩⟩]) rfl (by decide) rfl))
      clear bz36
      generalize z35.alloc (.cells #[.string ⟨#[97, 110, 110]⟩, .bool true, .int .i64 4, .int .i64 2, .int .i64 0, .string ⟨#[]⟩] 57) = z36 at K36 D36 nz36 O1 nz21 MS O2 nz32 MT W2 W3 MC hHeld ⊢
      generalize z35.heap.size = B36 at nz36 hB36 MC ⊢
      refine wpAnyH_ready (rs := [41]) (by as_aux_lemma => kernel_rfl) (by simp) ?_
      refine AllReadyH.cons (o := { dst := some 93, op := Op.call { callee := Callee.value (Operand.func 23), args := #[Operand.tmp 89, Operand.tmp 92], argTypes := #[40, 40] }, type := 4, pos := "law.go:26", after := #[{ on := 37, ground := Ground.data }, { on := 40, ground := Ground.data }, { on := 36, ground := Ground.chain }, { on := 36, ground := Ground.guard }], guard := some (36, true) }) rfl (fun Kx hK => ?_) AllReadyH.nil
      go_simp
      refine (csame_yes (U7.out.later K36.out) MC.out).mono ?_
      rintro e z37 ⟨rfl, bz37⟩
      have K37 := Lib.hid (below2Z K36.out bz37)
      have D37 := Lib.hid (heldB_up K37.out D0.out)
      replace O1 := Lib.hid (Tab.later O1.out bz37)
      replace nz21 := Lib.hid (((bz37).block _ (Array.getElem?_eq_some_iff.1 (nz21.out)).1).trans (nz21.out))
      replace MS := Lib.hid ((MS.out).later bz37)
      replace O2 := Lib.hid (Tab.later O2.out bz37)
      replace nz32 := Lib.hid (((bz37).block _ (Array.getElem?_eq_some_iff.1 (nz32.out)).1).trans (nz32.out))
      replace MT := Lib.hid ((MT.out).later bz37)
      replace W2 := Lib.hid (Texts.later W2.out bz37)
      replace W3 := Lib.hid (Texts.later W3.out bz37)
      replace nz36 := Lib.hid (((bz37).block _ (Array.getElem?_eq_some_iff.1 (nz36.out)).1).trans (nz36.out))
      replace MC := Lib.hid ((MC.out).later bz37)
      clear bz37
      go_wp2_with fail
      refine hK.out _ _ ?_ (fun hHeld2 => ?_)
      · exact D37.out
      clear hK Kx hHeld
      have hHeld := hHeld2
      clear hHeld2
      try simp only [Act.put, List.setIfInBounds_toArray, List.set_cons_zero, List.set_cons_succ]
      refine wpAnyH_take (i := 42) (oi := { dst := some 94, op := Op.pick (Operand.tmp 88) (Operand.tmp 93) (Operand.const (Value.bool false)), type := 4, pos := "law.go:26", after := #[{ on := 36, ground := Ground.data }, { on := 41, ground := Ground.data }], guard := none }) (v := ?_) rfl (by as_aux_lemma => kernel_rfl) (by as_aux_lemma => kernel_rfl) (by as_aux_lemma => kernel_rfl) (fun _ _ _ h => h) (Or.inl ⟨by rfl, ?_⟩) (by assumption) ?_
      rotate_left
      · intro w' hSw
        try dsimp only at hSw
        go_simp
        try with_reducible rfl
      try simp only [Act.put, List.setIfInBounds_toArray, List.set_cons_zero, List.set_cons_succ]
      refine wpAnyH_take (i := 43) (oi := { dst := some 95, op := Op.move (Operand.tmp 94), type := 4, pos := "law.go:26", after := #[{ on := 42, ground := Ground.data }, { on := 41, ground := Ground.chain }], guard := none }) (v := ?_) rfl (by as_aux_lemma => kernel_rfl) (by as_aux_lemma => kernel_rfl) (by as_aux_lemma => kernel_rfl) (fun _ _ _ h => h) (Or.inl ⟨by rfl, ?_⟩) (by assumption) ?_
      rotate_left
      · intro w' hSw
        try dsimp only at hSw
        go_simp
        try with_reducible rfl
      try simp only [Act.put, List.setIfInBounds_toArray, List.set_cons_zero, List.set_cons_succ]
      refine wpAnyH_take (i := 44) (oi := { dst := some 96, op := Op.move (Operand.tmp 13), type := 40, pos := "law.go:26", after := #[{ on := 43, ground := Ground.guard }], guard := some (43, true) }) (v := ?_) rfl (by as_aux_lemma => kernel_rfl) (by as_aux_lemma => kernel_rfl) (by as_aux_lemma => kernel_rfl) (fun _ _ _ h => h) (Or.inl ⟨by rfl, ?_⟩) (by assumption) ?_
      rotate_left
      · intro w' hSw
        try dsimp only at hSw
        go_simp
        try with_reducible rfl
      try simp only [Act.put, List.setIfInBounds_toArray, List.set_cons_zero, List.set_cons_succ]
      refine wpAnyH_take (i := 45) (oi := { dst := some 97, op := Op.build 57 #[(0, Operand.const (Value.string { data := #[97, 110, 110] }))], type := 57, pos := "law.go:26", after := #[{ on := 43, ground := Ground.guard }], guard := some (43, true) }) (v := ?_) rfl (by as_aux_lemma => kernel_rfl) (by as_aux_lemma => kernel_rfl) (by as_aux_lemma => kernel_rfl) (fun _ _ _ h => h) (Or.inl ⟨by rfl, ?_⟩) (by assumption) ?_
      rotate_left
      · intro w' hSw
        try dsimp only at hSw
        go_simp
        try with_reducible rfl
      try simp only [Act.put, List.setIfInBounds_toArray, List.set_cons_zero, List.set_cons_succ]
      refine wpAnyH_ready (rs := [46]) (by as_aux_lemma => kernel_rfl) (by simp) ?_
      refine AllReadyH.cons (o := { dst := some 98, op := Op.buildSlice 40 1 #[(0, Operand.tmp 97)], type := 40, pos := "law.go:26", after := #[{ on := 45, ground := Ground.data }, { on := 43, ground := Ground.guard }], guard := some (43, true) }) rfl (fun Kx hK => ?_) AllReadyH.nil
      go_simp
      refine hK.out _ _ ?_ (fun hHeld2 => ?_)
      · exact heldB_up (below2Z K37.out (bl_newZ _ _)) D0.out
      clear hK Kx hHeld
      have hHeld := hHeld2
      clear hHeld2
      try simp only [Act.put, List.setIfInBounds_toArray, List.set_cons_zero, List.set_cons_succ]
      have bz38 := bl_newZ z37 (.cells #[.string ⟨#[97, 110, 110]⟩, .bool false, .int .i64 0, .int .i64 0, .int .i64 0, .string ⟨#[]⟩] 57)
      have K38 := Lib.hid (below2Z K37.out bz38)
      have D38 := Lib.hid (heldB_up K38.out D0.out)
      have nz38 := Lib.hid ((MapKept.heap_alloc z37 (.cells #[.string ⟨#[97, 110, 110]⟩, .bool false, .int .i64 0, .int .i64 0, .int .i64 0, .string ⟨#[]⟩] 57)).1)
      have hB38 : w19.heap.size ≤ z37.heap.size := (K37.out).size
      replace O1 := Lib.hid (Tab.later O1.out bz38)
      replace nz21 := Lib.hid (((bz38).block _ (Array.getElem?_eq_some_iff.1 (nz21.out)).1).trans (nz21.out))
      replace MS := Lib.hid ((MS.out).later bz38)
      replace O2 := Lib.hid (Tab.later O2.out bz38)
      replace nz32 := Lib.hid (((bz38).block _ (Array.getElem?_eq_some_iff.1 (nz32.out)).1).trans (nz32.out))
      replace MT := Lib.hid ((MT.out).later bz38)
      replace W2 := Lib.hid (Texts.later W2.out bz38)
      replace W3 := Lib.hid (Texts.later W3.out bz38)
      replace nz36 := Lib.hid (((bz38).block _ (Array.getElem?_eq_some_iff.1 (nz36.out)).1).trans (nz36.out))
      replace MC := Lib.hid ((MC.out).later bz38)
      have MD := Lib.hid (chgs_of (rdS_made chgOK (w := z37) (cs := #[.string ⟨#[97, 110, 110]⟩, .bool false, .int .i64 0, .int .i64 0, .int .i64 0, .string ⟨#[]⟩]) (l := [⟨[97, 110, 110], false, ⟨0, 0, 0, []⟩⟩]) rfl (by decide) rfl))
      clear bz38
      generalize z37.alloc (.cells #[.string ⟨#[97, 110, 110]⟩, .bool false, .int .i64 0, .int .i64 0, .int .i64 0, .string ⟨#[]⟩] 57) = z38 at K38 D38 nz38 O1 nz21 MS O2 nz32 MT W2 W3 nz36 MC MD hHeld ⊢
      generalize z37.heap.size = B38 at nz38 hB38 MD ⊢
      refine wpAnyH_ready (rs := [47]) (by as_aux_lemma => kernel_rfl) (by simp) ?_
      refine AllReadyH.cons (o := { dst := some 99, op := Op.call { callee := Callee.value (Operand.func 23), args := #[Operand.tmp 96, Operand.tmp 98], argTypes := #[40, 40] }, type := 4, pos := "law.go:26", after := #[{ on := 44, ground := Ground.data }, { on := 46, ground := Ground.data }, { on := 43, ground := Ground.chain }, { on := 43, ground := Ground.guard }], guard := some (43, true) }) rfl (fun Kx hK => ?_) AllReadyH.nil
      go_simp
      refine (csame_yes (U8.out.later K38.out) MD.out).mono ?_
      rintro e z39 ⟨rfl, bz39⟩
      have K39 := Lib.hid (below2Z K38.out bz39)
      have D39 := Lib.hid (heldB_up K39.out D0.out)
      replace O1 := Lib.hid (Tab.later O1.out bz39)
      replace nz21 := Lib.hid (((bz39).block _ (Array.getElem?_eq_some_iff.1 (nz21.out)).1).trans (nz21.out))
      replace MS := Lib.hid ((MS.out).later bz39)
      replace O2 := Lib.hid (Tab.later O2.out bz39)
      replace nz32 := Lib.hid (((bz39).block _ (Array.getElem?_eq_some_iff.1 (nz32.out)).1).trans (nz32.out))
      replace MT := Lib.hid ((MT.out).later bz39)
      replace W2 := Lib.hid (Texts.later W2.out bz39)
      replace W3 := Lib.hid (Texts.later W3.out bz39)
      replace nz36 := Lib.hid (((bz39).block _ (Array.getElem?_eq_some_iff.1 (nz36.out)).1).trans (nz36.out))
      replace MC := Lib.hid ((MC.out).later bz39)
      replace nz38 := Lib.hid (((bz39).block _ (Array.getElem?_eq_some_iff.1 (nz38.out)).1).trans (nz38.out))
      replace MD := Lib.hid ((MD.out).later bz39)
      clear bz39
      go_wp2_with fail
      refine hK.out _ _ ?_ (fun hHeld2 => ?_)
      · exact D39.out
      clear hK Kx hHeld
      have hHeld := hHeld2
      clear hHeld2
      try simp only [Act.put, List.setIfInBounds_toArray, List.set_cons_zero, List.set_cons_succ]
      refine wpAnyH_take (i := 48) (oi := { dst := some 100, op := Op.pick (Operand.tmp 95) (Operand.tmp 99) (Operand.const (Value.bool false)), type := 4, pos := "law.go:26", after := #[{ on := 43, ground := Ground.data }, { on := 47, ground := Ground.data }], guard := none }) (v := ?_) rfl (by as_aux_lemma => kernel_rfl) (by as_aux_lemma => kernel_rfl) (by as_aux_lemma => kernel_rfl) (fun _ _ _ h => h) (Or.inl ⟨by rfl, ?_⟩) (by assumption) ?_
      rotate_left
      · intro w' hSw
        try dsimp only at hSw
        go_simp
        try with_reducible rfl
      try simp only [Act.put, List.setIfInBounds_toArray, List.set_cons_zero, List.set_cons_succ]
      refine wpAnyH_take (i := 49) (oi := { dst := some 0, op := Op.assign (Operand.tmp 100), type := 4, pos := "law.go:26", after := #[{ on := 48, ground := Ground.data }, { on := 47, ground := Ground.chain }, { on := 0, ground := Ground.phase }, { on := 1, ground := Ground.phase }, { on := 2, ground := Ground.phase }, { on := 3, ground := Ground.phase }, { on := 4, ground := Ground.phase }, { on := 5, ground := Ground.phase }, { on := 6, ground := Ground.phase }, { on := 7, ground := Ground.phase }, { on := 8, ground := Ground.phase }, { on := 9, ground := Ground.phase }, { on := 10, ground := Ground.phase }, { on := 11, ground := Ground.phase }, { on := 12, ground := Ground.phase }, { on := 13, ground := Ground.phase }, { on := 14, ground := Ground.phase }, { on := 15, ground := Ground.phase }, { on := 16, ground := Ground.phase }, { on := 17, ground := Ground.phase }, { on := 18, ground := Ground.phase }, { on := 19, ground := Ground.phase }, { on := 20, ground := Ground.phase }, { on := 21, ground := Ground.phase }, { on := 22, ground := Ground.phase }, { on := 23, ground := Ground.phase }, { on := 24, ground := Ground.phase }, { on := 25, ground := Ground.phase }, { on := 26, ground := Ground.phase }, { on := 27, ground := Ground.phase }, { on := 28, ground := Ground.phase }, { on := 29, ground := Ground.phase }, { on := 30, ground := Ground.phase }, { on := 31, ground := Ground.phase }, { on := 32, ground := Ground.phase }, { on := 33, ground := Ground.phase }, { on := 34, ground := Ground.phase }, { on := 35, ground := Ground.phase }, { on := 36, ground := Ground.phase }, { on := 37, ground := Ground.phase }, { on := 38, ground := Ground.phase }, { on := 39, ground := Ground.phase }, { on := 40, ground := Ground.phase }, { on := 41, ground := Ground.phase }, { on := 42, ground := Ground.phase }, { on := 43, ground := Ground.phase }, { on := 44, ground := Ground.phase }, { on := 45, ground := Ground.phase }, { on := 46, ground := Ground.phase }, { on := 47, ground := Ground.phase }, { on := 48, ground := Ground.phase }], guard := none }) (v := ?_) rfl (by as_aux_lemma => kernel_rfl) (by as_aux_lemma => kernel_rfl) (by as_aux_lemma => kernel_rfl) (fun _ _ _ h => h) (Or.inl ⟨by rfl, ?_⟩) (by assumption) ?_
      rotate_left
      · intro w' hSw
        try dsimp only at hSw
        go_simp
        try with_reducible rfl
      try simp only [Act.put, List.setIfInBounds_toArray, List.set_cons_zero]
      refine wpAnyH_done (by kernel_rfl) ?_ _
      replace HB := Lib.hid (below2Z HB.out K39.out)
      go_wp2_with fail
      go_ret
      exact ⟨rfl, HB.out⟩

end Go.Proofs.YtphfinlfabklmaaGreat
