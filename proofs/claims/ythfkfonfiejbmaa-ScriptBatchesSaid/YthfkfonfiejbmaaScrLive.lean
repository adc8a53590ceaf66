/-
  LAYER 23: live.
-/
import Derived.Test.YthfkfonfiejbmaaScrUn
import Derived.Test.YthfkfonfiejbmaaScrBat
import Derived.Test.YthfkfonfiejbmaaScrFold
import Derived.Test.YthfkfonfiejbmaaSeqS
namespace Go.Proofs.Ythfkfonfiejbmaa
open Go.RowKit

def lvX : Ev := ⟨8, [97], [], 2, ⟨0, 0, 0, []⟩⟩
def lvY : Ev := ⟨5, [97], [98, 111, 98], 0, ⟨0, 0, 0, []⟩⟩

theorem lv1 : scMay lvX = true := by decide +kernel
theorem lv2 : scMay lvY = true := by decide +kernel
theorem lv3 : scMay ⟨5, [97], [], 0, ⟨0, 0, 0, []⟩⟩ = false := by decide +kernel
theorem lv4 : scMay ⟨0, [], [], 0, ⟨0, 0, 0, []⟩⟩ = false := by decide +kernel
theorem lv5 : scBytes lvX = [8, 1, 97, 2] := by decide +kernel
theorem lv6 : scBytes lvY = [5, 1, 97, 3, 98, 111, 98] := by decide +kernel
theorem lv7 : scDec [97, 98, 99] = (⟨0, [], [], 0, ⟨0, 0, 0, []⟩⟩, 2) := by rfl
theorem lv8 : scTake [9, 1, 97, 2] = (⟨9, [97], [], 0, ⟨0, 0, 0, []⟩⟩, false) := by rfl
theorem lv9 : scDec (cseal [9, 1, 97, 2]) = (⟨0, [], [], 0, ⟨0, 0, 0, []⟩⟩, 3) := by
  unfold scDec
  rw [copen_seal, if_neg (by simp), lv8]
  rfl
theorem lv10 : scFold ⟨5, [65], [66, 111, 98], 0, ⟨0, 0, 0, []⟩⟩ = (⟨5, [97], [98, 111, 98], 0, ⟨0, 0, 0, []⟩⟩, true) := by
  have h1 : idFold [65] = ([97], true) := by decide +kernel
  have h2 : idFold [66, 111, 98] = ([98, 111, 98], true) := by decide +kernel
  unfold scFold scFolded
  simp only
  rw [h1, h2, if_neg (by simp)]
  exact if_pos lv2
theorem lv11 : vtake [120] ((0 : Nat) : Int) 300 = ([], 0, 2) := by rfl
theorem lv12 : UnIs [120] [] 3 := unIs_none fun x _ hx => unAt_stuck (unAt_start [120]) (by simp) (Or.inl (Int.le_refl _)) lv11 (show scDec [] = (Ev.zero, 2) from rfl) (Or.inl (by decide)) x hx

theorem lvb : scBatch [lvX, lvY] = (scCat [lvX, lvY], 0) := scBatch_all (by simp) (by simp [lv1, lv2])
theorem lvu : UnIs (scCat [lvX, lvY]) [lvX, lvY] 0 := .inl ⟨rfl, by simp, by simp [lv1, lv2], rfl⟩
theorem lvl : (scCat [lvX, lvY]).length = 21 := by
  have h1 : (cseal (scBytes lvX)).length = 8 := by rw [seal_len, lv5]; rfl
  have h2 : (cseal (scBytes lvY)).length = 11 := by rw [seal_len, lv6]; rfl
  rw [scCat_cons, scCat_one, h1, h2, List.length_append, List.length_append, List.length_append, h1, h2]
  rfl

set_option maxHeartbeats 3200000 in
set_option maxRecDepth 100000 in
theorem live23 (w : World) : Calls Try.prog 8 #[] w fun e w' => e = .returned (.bool true) ∧ Below w.heap.size w w' := by
  have heq1 := fun w => (ev_eql 5 5 0 0 [97] [97] [98, 111, 98] [98, 111, 98] 0 0 0 0 0 0 [] [] w).trans (by rw [evEq_self])
  obtain ⟨s1, hs1⟩ : ∃ s1, cseal [8, 1, 97, 2] = s1 := ⟨_, rfl⟩
  obtain ⟨s2, hs2⟩ : ∃ s2, cseal [5, 1, 97, 3, 98, 111, 98] = s2 := ⟨_, rfl⟩
  obtain ⟨m, hm⟩ : ∃ m, scCat [lvX, lvY] = m := ⟨_, rfl⟩
  have L1 : Hid (s1.length = 8) := Lib.hid (by rw [← hs1, seal_len]; rfl)
  have L2 : Hid (s2.length = 11) := Lib.hid (by rw [← hs2, seal_len]; rfl)
  have L3 : Hid (m.length = 21) := Lib.hid (by rw [← hm]; exact lvl)
  have HX : Hid (scEnc ⟨8, [97], [], 2, ⟨0, 0, 0, []⟩⟩ = (s1, 0)) := Lib.hid (by rw [← hs1, ← lv5]; exact scEnc_yes lv1)
  have HY : Hid (scEnc ⟨5, [97], [98, 111, 98], 0, ⟨0, 0, 0, []⟩⟩ = (s2, 0)) := Lib.hid (by rw [← hs2, ← lv6]; exact scEnc_yes lv2)
  have HN : Hid (scEnc ⟨5, [97], [], 0, ⟨0, 0, 0, []⟩⟩ = ([], 1)) := Lib.hid (scEnc_no lv3)
  have HD : Hid (scDec s2 = (⟨5, [97], [98, 111, 98], 0, ⟨0, 0, 0, []⟩⟩, 0)) := Lib.hid (by rw [← hs2, ← lv6]; exact scDec_enc lv2)
  obtain ⟨s3, hs3⟩ : ∃ s3, cseal [9, 1, 97, 2] = s3 := ⟨_, rfl⟩
  have HD3 : Hid (scDec s3 = (⟨0, [], [], 0, ⟨0, 0, 0, []⟩⟩, 3)) := Lib.hid (by rw [← hs3]; exact lv9)
  have L4 : s3.length ≤ 4294967296 := by rw [← hs3, seal_len]; decide
  have L5 : s2.length ≤ 4294967296 := by rw [L2.out]; decide
  have L6 : m.length ≤ 1000000 := by rw [L3.out]; decide
  have HS3 := Lib.hid (rseal_any [9, 1, 97, 2] (by decide))
  have HS1 := Lib.hid (rseal_any [8, 1, 97, 2] (by decide))
  have HS2 := Lib.hid (rseal_any [5, 1, 97, 3, 98, 111, 98] (by decide))
  rw [hs3] at HS3
  rw [hs1] at HS1
  rw [hs2] at HS2
  have HBT : Hid (scBatch [lvX, lvY] = (m, 0)) := Lib.hid (by rw [← hm]; exact lvb)
  have HUN : Hid (UnIs m [lvX, lvY] 0) := Lib.hid (by rw [← hm]; exact lvu)
  have hshx : evShort lvX := ⟨by decide, by decide, by decide⟩
  have hshy : evShort lvY := ⟨by decide, by decide, by decide⟩
  have hshb : evShort ⟨5, [97], [], 0, ⟨0, 0, 0, []⟩⟩ := ⟨by decide, by decide, by decide⟩
  have hshf : evShort ⟨5, [65], [66, 111, 98], 0, ⟨0, 0, 0, []⟩⟩ := ⟨by decide, by decide, by decide⟩
  have hshz : evShort ⟨0, [], [], 0, ⟨0, 0, 0, []⟩⟩ := ⟨by decide, by decide, by decide⟩
  have HSL : Hid (∀ e ∈ [lvX, lvY], evShort e) := Lib.hid (by intro e he; simp only [List.mem_cons, List.not_mem_nil, or_false] at he; rcases he with rfl | rfl; exact hshx; exact hshy)
  clear hs1 hs2 hs3 hm
  have b0 := bl_newZ w (.cells #[.int .i64 8, .string ⟨#[97]⟩, .string ⟨#[]⟩, .int .i64 2, .int .i64 0, .int .i64 0, .int .i64 0, .string ⟨#[]⟩] 26)
  have b1 := bl_newZ (w.alloc (.cells #[.int .i64 8, .string ⟨#[97]⟩, .string ⟨#[]⟩, .int .i64 2, .int .i64 0, .int .i64 0, .int .i64 0, .string ⟨#[]⟩] 26)) (.cells #[.int .i64 5, .string ⟨#[97]⟩, .string ⟨#[98, 111, 98]⟩, .int .i64 0, .int .i64 0, .int .i64 0, .int .i64 0, .string ⟨#[]⟩] 26)
  have HB := Lib.hid (below2Z b0 b1)
  have X := newQ w (.cells #[.int .i64 8, .string ⟨#[97]⟩, .string ⟨#[]⟩, .int .i64 2, .int .i64 0, .int .i64 0, .int .i64 0, .string ⟨#[]⟩] 26)
  replace X := upQ X b1
  replace X := Lib.hid X
  have Y := newQ (w.alloc (.cells #[.int .i64 8, .string ⟨#[97]⟩, .string ⟨#[]⟩, .int .i64 2, .int .i64 0, .int .i64 0, .int .i64 0, .string ⟨#[]⟩] 26)) (.cells #[.int .i64 5, .string ⟨#[97]⟩, .string ⟨#[98, 111, 98]⟩, .int .i64 0, .int .i64 0, .int .i64 0, .int .i64 0, .string ⟨#[]⟩] 26)
  rw [World.size_alloc] at Y
  replace Y := Lib.hid Y
  clear b0 b1
  go_enter Try.func8, Try.ntmps8
  go_wp2_with fail
  refine (scenc_any 8 [97] [] [] 2 0 0 0 hshx HX _).mono ?_
  rintro e w3 ⟨rfl, b3⟩
  replace X := Lib.hid (upQ X.out b3)
  replace Y := Lib.hid (upQ Y.out b3)
  replace HB := Lib.hid (below2Z HB.out b3)
  clear b3
  obtain ⟨⟨Yc0, Yc1, Yc2, Yc3, Yc4, Yc5, Yc6, Yc7⟩, ⟨Yf0, Yf1, Yf2, Yf3, Yf4, Yf5, Yf6, Yf7⟩⟩ := blk8 Y.out
  go_wp2_with fail
  clear Yc0 Yc1 Yc2 Yc3 Yc4 Yc5 Yc6 Yc7 Yf0 Yf1 Yf2 Yf3 Yf4 Yf5 Yf6 Yf7
  refine (scenc_any 5 [97] [98, 111, 98] [] 0 0 0 0 hshy HY _).mono ?_
  rintro e w4 ⟨rfl, b4⟩
  replace X := Lib.hid (upQ X.out b4)
  replace Y := Lib.hid (upQ Y.out b4)
  replace HB := Lib.hid (below2Z HB.out b4)
  clear b4
  go_wp2_with fail
  refine (scenc_any 5 [97] [] [] 0 0 0 0 hshb HN _).mono ?_
  rintro e w5 ⟨rfl, b5⟩
  replace X := Lib.hid (upQ X.out b5)
  replace Y := Lib.hid (upQ Y.out b5)
  replace HB := Lib.hid (below2Z HB.out b5)
  clear b5
  go_wp2_with fail
  refine (scdec_any s2 L5 HD _).mono ?_
  rintro e w6 ⟨rfl, b6⟩
  replace X := Lib.hid (upQ X.out b6)
  replace Y := Lib.hid (upQ Y.out b6)
  replace HB := Lib.hid (below2Z HB.out b6)
  clear b6
  go_wp2_with fail
  have b7 := bl_newZ w6 (.cells #[.int .i64 5, .string ⟨#[97]⟩, .string ⟨#[98, 111, 98]⟩, .int .i64 0, .int .i64 0, .int .i64 0, .int .i64 0, .string ⟨#[]⟩] 26)
  have Z := newQ w6 (.cells #[.int .i64 5, .string ⟨#[97]⟩, .string ⟨#[98, 111, 98]⟩, .int .i64 0, .int .i64 0, .int .i64 0, .int .i64 0, .string ⟨#[]⟩] 26)
  have hZ : w.heap.size ≤ w6.heap.size := HB.out.size
  replace X := Lib.hid (upQ X.out b7)
  replace Y := Lib.hid (upQ Y.out b7)
  replace HB := Lib.hid (below2Z HB.out b7)
  clear b7
  replace Z := Lib.hid Z
  generalize w6.alloc (.cells #[.int .i64 5, .string ⟨#[97]⟩, .string ⟨#[98, 111, 98]⟩, .int .i64 0, .int .i64 0, .int .i64 0, .int .i64 0, .string ⟨#[]⟩] 26) = w8 at X Y Z HB ⊢
  generalize w6.heap.size = BZ at Z hZ ⊢
  refine (scdec_any [97, 98, 99] (by decide) (Lib.hid lv7) _).mono ?_
  rintro e w9 ⟨rfl, b9⟩
  replace X := Lib.hid (upQ X.out b9)
  replace Y := Lib.hid (upQ Y.out b9)
  replace Z := Lib.hid (upQ Z.out b9)
  replace HB := Lib.hid (below2Z HB.out b9)
  clear b9
  go_wp2_with fail
  have b10 := bl_newZ w9 (.cells #[.int .i64 0, .string ⟨#[]⟩, .string ⟨#[]⟩, .int .i64 0, .int .i64 0, .int .i64 0, .int .i64 0, .string ⟨#[]⟩] 26)
  have U := newQ w9 (.cells #[.int .i64 0, .string ⟨#[]⟩, .string ⟨#[]⟩, .int .i64 0, .int .i64 0, .int .i64 0, .int .i64 0, .string ⟨#[]⟩] 26)
  have hU : w.heap.size ≤ w9.heap.size := HB.out.size
  replace X := Lib.hid (upQ X.out b10)
  replace Y := Lib.hid (upQ Y.out b10)
  replace Z := Lib.hid (upQ Z.out b10)
  replace HB := Lib.hid (below2Z HB.out b10)
  clear b10
  replace U := Lib.hid U
  generalize w9.alloc (.cells #[.int .i64 0, .string ⟨#[]⟩, .string ⟨#[]⟩, .int .i64 0, .int .i64 0, .int .i64 0, .int .i64 0, .string ⟨#[]⟩] 26) = w11 at X Y Z U HB ⊢
  generalize w9.heap.size = BU at U hU ⊢
  clear U
  clear hU
  refine (HS3.out _).mono ?_
  rintro e w12 ⟨rfl, b12⟩
  replace X := Lib.hid (upQ X.out b12)
  replace Y := Lib.hid (upQ Y.out b12)
  replace Z := Lib.hid (upQ Z.out b12)
  replace HB := Lib.hid (below2Z HB.out b12)
  clear b12
  go_wp2_with fail
  refine (scdec_any s3 L4 HD3 _).mono ?_
  rintro e w13 ⟨rfl, b13⟩
  replace X := Lib.hid (upQ X.out b13)
  replace Y := Lib.hid (upQ Y.out b13)
  replace Z := Lib.hid (upQ Z.out b13)
  replace HB := Lib.hid (below2Z HB.out b13)
  clear b13
  obtain ⟨⟨Xc0, Xc1, Xc2, Xc3, Xc4, Xc5, Xc6, Xc7⟩, ⟨Xf0, Xf1, Xf2, Xf3, Xf4, Xf5, Xf6, Xf7⟩⟩ := blk8 X.out
  obtain ⟨⟨Yc0, Yc1, Yc2, Yc3, Yc4, Yc5, Yc6, Yc7⟩, ⟨Yf0, Yf1, Yf2, Yf3, Yf4, Yf5, Yf6, Yf7⟩⟩ := blk8 Y.out
  have hX := (Array.getElem?_eq_some_iff.1 X.out).1
  have hY := (Array.getElem?_eq_some_iff.1 Y.out).1
  go_wp2_with fail
  clear Xc0 Xc1 Xc2 Xc3 Xc4 Xc5 Xc6 Xc7 Xf0 Xf1 Xf2 Xf3 Xf4 Xf5 Xf6 Xf7 Yc0 Yc1 Yc2 Yc3 Yc4 Yc5 Yc6 Yc7 Yf0 Yf1 Yf2 Yf3 Yf4 Yf5 Yf6 Yf7 hX hY
  have b14 := bl_newZ w13 (.cells #[.int .i64 0, .string ⟨#[]⟩, .string ⟨#[]⟩, .int .i64 0, .int .i64 0, .int .i64 0, .int .i64 0, .string ⟨#[]⟩] 26)
  have V := newQ w13 (.cells #[.int .i64 0, .string ⟨#[]⟩, .string ⟨#[]⟩, .int .i64 0, .int .i64 0, .int .i64 0, .int .i64 0, .string ⟨#[]⟩] 26)
  have hV : w.heap.size ≤ w13.heap.size := HB.out.size
  replace X := Lib.hid (upQ X.out b14)
  replace Y := Lib.hid (upQ Y.out b14)
  replace Z := Lib.hid (upQ Z.out b14)
  replace HB := Lib.hid (below2Z HB.out b14)
  clear b14
  replace V := Lib.hid V
  have HR1 := Lib.hid (rdS_made evOK (w := (w13.alloc (.cells #[.int .i64 0, .string ⟨#[]⟩, .string ⟨#[]⟩, .int .i64 0, .int .i64 0, .int .i64 0, .int .i64 0, .string ⟨#[]⟩] 26))) (cs := #[.int .i64 8, .string ⟨#[97]⟩, .string ⟨#[]⟩, .int .i64 2, .int .i64 0, .int .i64 0, .int .i64 0, .string ⟨#[]⟩, .int .i64 5, .string ⟨#[97]⟩, .string ⟨#[98, 111, 98]⟩, .int .i64 0, .int .i64 0, .int .i64 0, .int .i64 0, .string ⟨#[]⟩]) (l := [lvX, lvY]) rfl (by decide) (B := w13.heap.size + 1) (by simp))
  have b15 := bl_newZ (w13.alloc (.cells #[.int .i64 0, .string ⟨#[]⟩, .string ⟨#[]⟩, .int .i64 0, .int .i64 0, .int .i64 0, .int .i64 0, .string ⟨#[]⟩] 26)) (.cells #[.int .i64 8, .string ⟨#[97]⟩, .string ⟨#[]⟩, .int .i64 2, .int .i64 0, .int .i64 0, .int .i64 0, .string ⟨#[]⟩, .int .i64 5, .string ⟨#[97]⟩, .string ⟨#[98, 111, 98]⟩, .int .i64 0, .int .i64 0, .int .i64 0, .int .i64 0, .string ⟨#[]⟩] 26)
  have W := newQ (w13.alloc (.cells #[.int .i64 0, .string ⟨#[]⟩, .string ⟨#[]⟩, .int .i64 0, .int .i64 0, .int .i64 0, .int .i64 0, .string ⟨#[]⟩] 26)) (.cells #[.int .i64 8, .string ⟨#[97]⟩, .string ⟨#[]⟩, .int .i64 2, .int .i64 0, .int .i64 0, .int .i64 0, .string ⟨#[]⟩, .int .i64 5, .string ⟨#[97]⟩, .string ⟨#[98, 111, 98]⟩, .int .i64 0, .int .i64 0, .int .i64 0, .int .i64 0, .string ⟨#[]⟩] 26)
  have hW : w.heap.size ≤ (w13.alloc (.cells #[.int .i64 0, .string ⟨#[]⟩, .string ⟨#[]⟩, .int .i64 0, .int .i64 0, .int .i64 0, .int .i64 0, .string ⟨#[]⟩] 26)).heap.size := HB.out.size
  rw [World.size_alloc] at W hW
  replace X := Lib.hid (upQ X.out b15)
  replace Y := Lib.hid (upQ Y.out b15)
  replace Z := Lib.hid (upQ Z.out b15)
  replace V := Lib.hid (upQ V.out b15)
  replace HB := Lib.hid (below2Z HB.out b15)
  clear b15
  replace W := Lib.hid W
  generalize (w13.alloc (.cells #[.int .i64 0, .string ⟨#[]⟩, .string ⟨#[]⟩, .int .i64 0, .int .i64 0, .int .i64 0, .int .i64 0, .string ⟨#[]⟩] 26)).alloc (.cells #[.int .i64 8, .string ⟨#[97]⟩, .string ⟨#[]⟩, .int .i64 2, .int .i64 0, .int .i64 0, .int .i64 0, .string ⟨#[]⟩, .int .i64 5, .string ⟨#[97]⟩, .string ⟨#[98, 111, 98]⟩, .int .i64 0, .int .i64 0, .int .i64 0, .int .i64 0, .string ⟨#[]⟩] 26) = w16 at HR1 X Y Z V W HB ⊢
  clear V
  clear W
  clear hV hW
  refine (scbat_any HR1.out HSL.out HBT).mono ?_
  rintro e w17 ⟨rfl, b17⟩
  replace X := Lib.hid (upQ X.out b17)
  replace Y := Lib.hid (upQ Y.out b17)
  replace Z := Lib.hid (upQ Z.out b17)
  replace HB := Lib.hid (below2Z HB.out b17)
  clear HR1
  clear b17
  go_wp2_with fail
  refine (scun_any m L6 _).mono ?_
  rintro e w18 ⟨v, mm, er, rfl, hev, hun, b18⟩
  replace X := Lib.hid (upQ X.out b18)
  replace Y := Lib.hid (upQ Y.out b18)
  replace Z := Lib.hid (upQ Z.out b18)
  replace HB := Lib.hid (below2Z HB.out b18)
  obtain ⟨rfl, rfl⟩ := unIs_one hun HUN.out
  clear b18
  obtain ⟨av, cv, hav, -⟩ := RdS.open' hev
  subst hav
  have HEV := Lib.hid hev
  clear hev hun
  go_wp2_with fail
  refine (scun_any [120] (by simp) _).mono ?_
  rintro e w19 ⟨v2, mm2, er2, rfl, hev2, hun2, b19⟩
  replace X := Lib.hid (upQ X.out b19)
  replace Y := Lib.hid (upQ Y.out b19)
  replace Z := Lib.hid (upQ Z.out b19)
  replace HEV := Lib.hid (RdS.later HEV.out b19)
  replace HB := Lib.hid (below2Z HB.out b19)
  obtain ⟨rfl, rfl⟩ := unIs_one hun2 lv12
  clear hev2 hun2
  clear b19
  go_wp2_with fail
  refine (scfold_any 5 [65] [66, 111, 98] [] 0 0 0 0 hshf (Lib.hid lv10) _).mono ?_
  rintro e w20 ⟨rfl, b20⟩
  replace X := Lib.hid (upQ X.out b20)
  replace Y := Lib.hid (upQ Y.out b20)
  replace Z := Lib.hid (upQ Z.out b20)
  replace HEV := Lib.hid (RdS.later HEV.out b20)
  replace HB := Lib.hid (below2Z HB.out b20)
  clear b20
  go_wp2_with fail
  have b21 := bl_newZ w20 (.cells #[.int .i64 5, .string ⟨#[97]⟩, .string ⟨#[98, 111, 98]⟩, .int .i64 0, .int .i64 0, .int .i64 0, .int .i64 0, .string ⟨#[]⟩] 26)
  have G := newQ w20 (.cells #[.int .i64 5, .string ⟨#[97]⟩, .string ⟨#[98, 111, 98]⟩, .int .i64 0, .int .i64 0, .int .i64 0, .int .i64 0, .string ⟨#[]⟩] 26)
  have hG : w.heap.size ≤ w20.heap.size := HB.out.size
  replace X := Lib.hid (upQ X.out b21)
  replace Y := Lib.hid (upQ Y.out b21)
  replace Z := Lib.hid (upQ Z.out b21)
  replace HEV := Lib.hid (RdS.later HEV.out b21)
  replace HB := Lib.hid (below2Z HB.out b21)
  clear b21
  replace G := Lib.hid G
  generalize w20.alloc (.cells #[.int .i64 5, .string ⟨#[97]⟩, .string ⟨#[98, 111, 98]⟩, .int .i64 0, .int .i64 0, .int .i64 0, .int .i64 0, .string ⟨#[]⟩] 26) = w22 at X Y Z G HEV HB ⊢
  generalize w20.heap.size = BG at G hG ⊢
  refine (HS1.out _).mono ?_
  rintro e w23 ⟨rfl, b23⟩
  replace X := Lib.hid (upQ X.out b23)
  replace Y := Lib.hid (upQ Y.out b23)
  replace Z := Lib.hid (upQ Z.out b23)
  replace G := Lib.hid (upQ G.out b23)
  replace HEV := Lib.hid (RdS.later HEV.out b23)
  replace HB := Lib.hid (below2Z HB.out b23)
  clear b23
  go_wp2_with fail
  refine (HS2.out _).mono ?_
  rintro e w24 ⟨rfl, b24⟩
  replace X := Lib.hid (upQ X.out b24)
  replace Y := Lib.hid (upQ Y.out b24)
  replace Z := Lib.hid (upQ Z.out b24)
  replace G := Lib.hid (upQ G.out b24)
  replace HEV := Lib.hid (RdS.later HEV.out b24)
  replace HB := Lib.hid (below2Z HB.out b24)
  clear b24
  obtain ⟨⟨Xc0, Xc1, Xc2, Xc3, Xc4, Xc5, Xc6, Xc7⟩, ⟨Xf0, Xf1, Xf2, Xf3, Xf4, Xf5, Xf6, Xf7⟩⟩ := blk8 X.out
  obtain ⟨⟨Yc0, Yc1, Yc2, Yc3, Yc4, Yc5, Yc6, Yc7⟩, ⟨Yf0, Yf1, Yf2, Yf3, Yf4, Yf5, Yf6, Yf7⟩⟩ := blk8 Y.out
  obtain ⟨⟨Zc0, Zc1, Zc2, Zc3, Zc4, Zc5, Zc6, Zc7⟩, ⟨Zf0, Zf1, Zf2, Zf3, Zf4, Zf5, Zf6, Zf7⟩⟩ := blk8 Z.out
  obtain ⟨⟨Gc0, Gc1, Gc2, Gc3, Gc4, Gc5, Gc6, Gc7⟩, ⟨Gf0, Gf1, Gf2, Gf3, Gf4, Gf5, Gf6, Gf7⟩⟩ := blk8 G.out
  have hl1 := L1.out
  have hl2 := L2.out
  have hl3 := L3.out
  go_wp2_with fail
  clear Xc0 Xc1 Xc2 Xc3 Xc4 Xc5 Xc6 Xc7 Xf0 Xf1 Xf2 Xf3 Xf4 Xf5 Xf6 Xf7 Yc0 Yc1 Yc2 Yc3 Yc4 Yc5 Yc6 Yc7 Yf0 Yf1 Yf2 Yf3 Yf4 Yf5 Yf6 Yf7 Zc0 Zc1 Zc2 Zc3 Zc4 Zc5 Zc6 Zc7 Zf0 Zf1 Zf2 Zf3 Zf4 Zf5 Zf6 Zf7 Gc0 Gc1 Gc2 Gc3 Gc4 Gc5 Gc6 Gc7 Gf0 Gf1 Gf2 Gf3 Gf4 Gf5 Gf6 Gf7 hl1 hl2 hl3
  have HR1 := Lib.hid (rdS_made evOK (w := w24) (cs := #[.int .i64 8, .string ⟨#[97]⟩, .string ⟨#[]⟩, .int .i64 2, .int .i64 0, .int .i64 0, .int .i64 0, .string ⟨#[]⟩, .int .i64 5, .string ⟨#[97]⟩, .string ⟨#[98, 111, 98]⟩, .int .i64 0, .int .i64 0, .int .i64 0, .int .i64 0, .string ⟨#[]⟩]) (l := [lvX, lvY]) rfl (by decide) (B := w24.heap.size) rfl)
  have b25 := bl_newZ w24 (.cells #[.int .i64 8, .string ⟨#[97]⟩, .string ⟨#[]⟩, .int .i64 2, .int .i64 0, .int .i64 0, .int .i64 0, .string ⟨#[]⟩, .int .i64 5, .string ⟨#[97]⟩, .string ⟨#[98, 111, 98]⟩, .int .i64 0, .int .i64 0, .int .i64 0, .int .i64 0, .string ⟨#[]⟩] 26)
  have W := newQ w24 (.cells #[.int .i64 8, .string ⟨#[97]⟩, .string ⟨#[]⟩, .int .i64 2, .int .i64 0, .int .i64 0, .int .i64 0, .string ⟨#[]⟩, .int .i64 5, .string ⟨#[97]⟩, .string ⟨#[98, 111, 98]⟩, .int .i64 0, .int .i64 0, .int .i64 0, .int .i64 0, .string ⟨#[]⟩] 26)
  have hW : w.heap.size ≤ w24.heap.size := HB.out.size
  replace X := Lib.hid (upQ X.out b25)
  replace Y := Lib.hid (upQ Y.out b25)
  replace Z := Lib.hid (upQ Z.out b25)
  replace G := Lib.hid (upQ G.out b25)
  replace HEV := Lib.hid (RdS.later HEV.out b25)
  replace HB := Lib.hid (below2Z HB.out b25)
  clear b25
  replace W := Lib.hid W
  generalize w24.alloc (.cells #[.int .i64 8, .string ⟨#[97]⟩, .string ⟨#[]⟩, .int .i64 2, .int .i64 0, .int .i64 0, .int .i64 0, .string ⟨#[]⟩, .int .i64 5, .string ⟨#[97]⟩, .string ⟨#[98, 111, 98]⟩, .int .i64 0, .int .i64 0, .int .i64 0, .int .i64 0, .string ⟨#[]⟩] 26) = w26 at HR1 X Y Z G W HEV HB ⊢
  clear W
  clear hW
  refine (scsame_yes HEV.out HR1.out).mono ?_
  rintro e w27 ⟨rfl, b27⟩
  replace X := Lib.hid (upQ X.out b27)
  replace Y := Lib.hid (upQ Y.out b27)
  replace Z := Lib.hid (upQ Z.out b27)
  replace G := Lib.hid (upQ G.out b27)
  replace HEV := Lib.hid (RdS.later HEV.out b27)
  replace HB := Lib.hid (below2Z HB.out b27)
  clear HR1
  clear b27
  obtain ⟨⟨Xc0, Xc1, Xc2, Xc3, Xc4, Xc5, Xc6, Xc7⟩, ⟨Xf0, Xf1, Xf2, Xf3, Xf4, Xf5, Xf6, Xf7⟩⟩ := blk8 X.out
  obtain ⟨⟨Yc0, Yc1, Yc2, Yc3, Yc4, Yc5, Yc6, Yc7⟩, ⟨Yf0, Yf1, Yf2, Yf3, Yf4, Yf5, Yf6, Yf7⟩⟩ := blk8 Y.out
  obtain ⟨⟨Gc0, Gc1, Gc2, Gc3, Gc4, Gc5, Gc6, Gc7⟩, ⟨Gf0, Gf1, Gf2, Gf3, Gf4, Gf5, Gf6, Gf7⟩⟩ := blk8 G.out
  go_wp2_with fail
  clear Xc0 Xc1 Xc2 Xc3 Xc4 Xc5 Xc6 Xc7 Xf0 Xf1 Xf2 Xf3 Xf4 Xf5 Xf6 Xf7 Yc0 Yc1 Yc2 Yc3 Yc4 Yc5 Yc6 Yc7 Yf0 Yf1 Yf2 Yf3 Yf4 Yf5 Yf6 Yf7 Gc0 Gc1 Gc2 Gc3 Gc4 Gc5 Gc6 Gc7 Gf0 Gf1 Gf2 Gf3 Gf4 Gf5 Gf6 Gf7
  refine (scmay_any 8 [97] [] [] 2 0 0 0 hshx (Lib.hid lv1) _).mono ?_
  rintro e w28 ⟨rfl, b28⟩
  replace X := Lib.hid (upQ X.out b28)
  replace Y := Lib.hid (upQ Y.out b28)
  replace Z := Lib.hid (upQ Z.out b28)
  replace G := Lib.hid (upQ G.out b28)
  replace HEV := Lib.hid (RdS.later HEV.out b28)
  replace HB := Lib.hid (below2Z HB.out b28)
  clear b28
  go_wp2_with fail
  refine (scmay_any 0 [] [] [] 0 0 0 0 hshz (Lib.hid lv4) _).mono ?_
  rintro e w29 ⟨rfl, b29⟩
  replace X := Lib.hid (upQ X.out b29)
  replace Y := Lib.hid (upQ Y.out b29)
  replace Z := Lib.hid (upQ Z.out b29)
  replace G := Lib.hid (upQ G.out b29)
  replace HEV := Lib.hid (RdS.later HEV.out b29)
  replace HB := Lib.hid (below2Z HB.out b29)
  clear b29
  go_wp2_with fail
  go_ret
  exact ⟨rfl, HB.out⟩

end Go.Proofs.Ythfkfonfiejbmaa
