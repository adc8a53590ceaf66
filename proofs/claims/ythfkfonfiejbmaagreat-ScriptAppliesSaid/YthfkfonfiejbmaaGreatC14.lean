/-
  TEXTS OF THE PROOF, one behind the other: ScrLive, RosPair, RosRise, RosOver.
-/
import Derived.Test.YthfkfonfiejbmaaGreatC13
import Derived.Test.YthfkfonfiejbmaaGreatC07
import Derived.Test.YthfkfonfiejbmaaGreatC08
import Derived.Test.YthfkfonfiejbmaaGreatC01

section

/-
  LAYER 23: live.
-/
namespace Go.Proofs.YthfkfonfiejbmaaGreat
open Go.RowKit

def lvX : Ev := ⟨8, [97], [], 2, ⟨0, 0, 0, []⟩⟩
def lvY : Ev := ⟨5, [97], [98, 111, 98], 0, ⟨0, 0, 0, []⟩⟩

theorem lv1 : scMay lvX = true := by decide +kernel
theorem lv2 : scMay lvY = true := by decide +kernel
theorem lv3 : scMay ⟨5, [97], [], 0, ⟨0, 0, 0, []⟩⟩ = false := by decide +kernel
theorem lv4 : scMay ⟨0, [], [], 0, ⟨0, 0, 0, []⟩⟩ = false := by decide +kernel
theorem lv5 : scBytes lvX = [8, 1, 97, 2] := by decide +kernel
theorem lv6 : scBytes lvY = [5, 1, 97, 3, 98, 111, 98] := by decide +kernel
theorem lv7 : scDec [97, 98, 99] = (⟨0, [], [], 0, ⟨0, 0, 0, []⟩⟩, 2) := by rfl
theorem lv8 : scTake [9, 1, 97, 2] = (⟨9, [97], [], 0, ⟨0, 0, 0, []⟩⟩, false) := by rfl
theorem lv9 : scDec (cseal [9, 1, 97, 2]) = (⟨0, [], [], 0, ⟨0, 0, 0, []⟩⟩, 3) := by
  unfold scDec
  rw [copen_seal, if_neg (by simp), lv8]
  rfl
theorem lv10 : scFold ⟨5, [65], [66, 111, 98], 0, ⟨0, 0, 0, []⟩⟩ = (⟨5, [97], [98, 111, 98], 0, ⟨0, 0, 0, []⟩⟩, true) := by
  have h1 : idFold [65] = ([97], true) := by decide +kernel
  have h2 : idFold [66, 111, 98] = ([98, 111, 98], true) := by decide +kernel
  unfold scFold scFolded
  simp only
  rw [h1, h2, if_neg (by simp)]
  exact if_pos lv2
theorem lv11 : vtake [120] ((0 : Nat) : Int) 300 = ([], 0, 2) := by rfl
theorem lv12 : UnIs [120] [] 3 := unIs_none fun x _ hx => unAt_stuck (unAt_start [120]) (by simp) (Or.inl (Int.le_refl _)) lv11 (show scDec [] = (Ev.zero, 2) from rfl) (Or.inl (by decide)) x hx

theorem lvb : scBatch [lvX, lvY] = (scCat [lvX, lvY], 0) := scBatch_all (by simp) (by simp [lv1, lv2])
theorem lvu : UnIs (scCat [lvX, lvY]) [lvX, lvY] 0 := .inl ⟨rfl, by simp, by simp [lv1, lv2], rfl⟩
theorem lvl : (scCat [lvX, lvY]).length = 21 := by
  have h1 : (cseal (scBytes lvX)).length = 8 := by rw [seal_len, lv5]; rfl
  have h2 : (cseal (scBytes lvY)).length = 11 := by rw [seal_len, lv6]; rfl
  rw [scCat_cons, scCat_one, h1, h2, List.length_append, List.length_append, List.length_append, h1, h2]
  rfl

set_option maxHeartbeats 3200000 in
set_option maxRecDepth 100000 in
theorem live23 (w : World) : Calls Tryz.prog 7 #[] w fun e w' => e = .returned (.bool true) ∧ Below w.heap.size w w' := by
  have heq1 := fun w => (ev_eql 5 5 0 0 [97] [97] [98, 111, 98] [98, 111, 98] 0 0 0 0 0 0 [] [] w).trans (by rw [evEq_self])
  obtain ⟨s1, hs1⟩ : ∃ s1, cseal [8, 1, 97, 2] = s1 := ⟨_, rfl⟩
  obtain ⟨s2, hs2⟩ : ∃ s2, cseal [5, 1, 97, 3, 98, 111, 98] = s2 := ⟨_, rfl⟩
  obtain ⟨m, hm⟩ : ∃ m, scCat [lvX, lvY] = m := ⟨_, rfl⟩
  have L1 : Hid (s1.length = 8) := Lib.hid (by rw [← hs1, seal_len]; rfl)
  have L2 : Hid (s2.length = 11) := Lib.hid (by rw [← hs2, seal_len]; rfl)
  have L3 : Hid (m.length = 21) := Lib.hid (by rw [← hm]; exact lvl)
  have HX : Hid (scEnc ⟨8, [97], [], 2, ⟨0, 0, 0, []⟩⟩ = (s1, 0)) := Lib.hid (by rw [← hs1, ← lv5]; exact scEnc_yes lv1)
  have HY : Hid (scEnc ⟨5, [97], [98, 111, 98], 0, ⟨0, 0, 0, []⟩⟩ = (s2, 0)) := Lib.hid (by rw [← hs2, ← lv6]; exact scEnc_yes lv2)
  have HN : Hid (scEnc ⟨5, [97], [], 0, ⟨0, 0, 0, []⟩⟩ = ([], 1)) := Lib.hid (scEnc_no lv3)
  have HD : Hid (scDec s2 = (⟨5, [97], [98, 111, 98], 0, ⟨0, 0, 0, []⟩⟩, 0)) := Lib.hid (by rw [← hs2, ← lv6]; exact scDec_enc lv2)
  obtain ⟨s3, hs3⟩ : ∃ s3, cseal [9, 1, 97, 2] = s3 := ⟨_, rfl⟩
  have HD3 : Hid (scDec s3 = (⟨0, [], [], 0, ⟨0, 0, 0, []⟩⟩, 3)) := Lib.hid (by rw [← hs3]; exact lv9)
  have L4 : s3.length ≤ 4294967296 := by rw [← hs3, seal_len]; decide
  have L5 : s2.length ≤ 4294967296 := by rw [L2.out]; decide
  have L6 : m.length ≤ 1000000 := by rw [L3.out]; decide
  have HS3 := Lib.hid (rseal_any [9, 1, 97, 2] (by decide))
  have HS1 := Lib.hid (rseal_any [8, 1, 97, 2] (by decide))
  have HS2 := Lib.hid (rseal_any [5, 1, 97, 3, 98, 111, 98] (by decide))
  rw [hs3] at HS3
  rw [hs1] at HS1
  rw [hs2] at HS2
  have HBT : Hid (scBatch [lvX, lvY] = (m, 0)) := Lib.hid (by rw [← hm]; exact lvb)
  have HUN : Hid (UnIs m [lvX, lvY] 0) := Lib.hid (by rw [← hm]; exact lvu)
  have hshx : evShort lvX := ⟨by decide, by decide, by decide⟩
  have hshy : evShort lvY := ⟨by decide, by decide, by decide⟩
  have hshb : evShort ⟨5, [97], [], 0, ⟨0, 0, 0, []⟩⟩ := ⟨by decide, by decide, by decide⟩
  have hshf : evShort ⟨5, [65], [66, 111, 98], 0, ⟨0, 0, 0, []⟩⟩ := ⟨by decide, by decide, by decide⟩
  have hshz : evShort ⟨0, [], [], 0, ⟨0, 0, 0, []⟩⟩ := ⟨by decide, by decide, by decide⟩
  have HSL : Hid (∀ e ∈ [lvX, lvY], evShort e) := Lib.hid (by intro e he; simp only [List.mem_cons, List.not_mem_nil, or_false] at he; rcases he with rfl | rfl; exact hshx; exact hshy)
  clear hs1 hs2 hs3 hm
  have b0 := bl_newZ w (.cells #[.int .i64 8, .string ⟨#[97]⟩, .string ⟨#[]⟩, .int .i64 2, .int .i64 0, .int .i64 0, .int .i64 0, .string ⟨#[]⟩] 29)
  have b1 := bl_newZ (w.alloc (.cells #[.int .i64 8, .string ⟨#[97]⟩, .string ⟨#[]⟩, .int .i64 2, .int .i64 0, .int .i64 0, .int .i64 0, .string ⟨#[]⟩] 29)) (.cells #[.int .i64 5, .string ⟨#[97]⟩, .string ⟨#[98, 111, 98]⟩, .int .i64 0, .int .i64 0, .int .i64 0, .int .i64 0, .string ⟨#[]⟩] 29)
  have HB := Lib.hid (below2Z b0 b1)
  have X := newQ w (.cells #[.int .i64 8, .string ⟨#[97]⟩, .string ⟨#[]⟩, .int .i64 2, .int .i64 0, .int .i64 0, .int .i64 0, .string ⟨#[]⟩] 29)
  replace X := upQ X b1
  replace X := Lib.hid X
  have Y := newQ (w.alloc (.cells #[.int .i64 8, .string ⟨#[97]⟩, .string ⟨#[]⟩, .int .i64 2, .int .i64 0, .int .i64 0, .int .i64 0, .string ⟨#[]⟩] 29)) (.cells #[.int .i64 5, .string ⟨#[97]⟩, .string ⟨#[98, 111, 98]⟩, .int .i64 0, .int .i64 0, .int .i64 0, .int .i64 0, .string ⟨#[]⟩] 29)
  rw [World.size_alloc] at Y
  replace Y := Lib.hid Y
  clear b0 b1
  go_enter Tryz.func7, Tryz.ntmps7
  go_wp2_with fail
  refine (scenc_any 8 [97] [] [] 2 0 0 0 hshx HX _).mono ?_
  rintro e w3 ⟨rfl, b3⟩
  replace X := Lib.hid (upQ X.out b3)
  replace Y := Lib.hid (upQ Y.out b3)
  replace HB := Lib.hid (below2Z HB.out b3)
  clear b3
  obtain ⟨⟨Yc0, Yc1, Yc2, Yc3, Yc4, Yc5, Yc6, Yc7⟩, ⟨Yf0, Yf1, Yf2, Yf3, Yf4, Yf5, Yf6, Yf7⟩⟩ := blk8 Y.out
  go_wp2_with fail
  clear Yc0 Yc1 Yc2 Yc3 Yc4 Yc5 Yc6 Yc7 Yf0 Yf1 Yf2 Yf3 Yf4 Yf5 Yf6 Yf7
  refine (scenc_any 5 [97] [98, 111, 98] [] 0 0 0 0 hshy HY _).mono ?_
  rintro e w4 ⟨rfl, b4⟩
  replace X := Lib.hid (upQ X.out b4)
  replace Y := Lib.hid (upQ Y.out b4)
  replace HB := Lib.hid (below2Z HB.out b4)
  clear b4
  go_wp2_with fail
  refine (scenc_any 5 [97] [] [] 0 0 0 0 hshb HN _).mono ?_
  rintro e w5 ⟨rfl, b5⟩
  replace X := Lib.hid (upQ X.out b5)
  replace Y := Lib.hid (upQ Y.out b5)
  replace HB := Lib.hid (below2Z HB.out b5)
  clear b5
  go_wp2_with fail
  refine (scdec_any s2 L5 HD _).mono ?_
  rintro e w6 ⟨rfl, b6⟩
  replace X := Lib.hid (upQ X.out b6)
  replace Y := Lib.hid (upQ Y.out b6)
  replace HB := Lib.hid (below2Z HB.out b6)
  clear b6
  go_wp2_with fail
  have b7 := bl_newZ w6 (.cells #[.int .i64 5, .string ⟨#[97]⟩, .string ⟨#[98, 111, 98]⟩, .int .i64 0, .int .i64 0, .int .i64 0, .int .i64 0, .string ⟨#[]⟩] 29)
  have Z := newQ w6 (.cells #[.int .i64 5, .string ⟨#[97]⟩, .string ⟨#[98, 111, 98]⟩, .int .i64 0, .int .i64 0, .int .i64 0, .int .i64 0, .string ⟨#[]⟩] 29)
  have hZ : w.heap.size ≤ w6.heap.size := HB.out.size
  replace X := Lib.hid (upQ X.out b7)
  replace Y := Lib.hid (upQ Y.out b7)
  replace HB := Lib.hid (below2Z HB.out b7)
  clear b7
  replace Z := Lib.hid Z
  generalize w6.alloc (.cells #[.int .i64 5, .string ⟨#[97]⟩, .string ⟨#[98, 111, 98]⟩, .int .i64 0, .int .i64 0, .int .i64 0, .int .i64 0, .string ⟨#[]⟩] 29) = w8 at X Y Z HB ⊢
  generalize w6.heap.size = BZ at Z hZ ⊢
  refine (scdec_any [97, 98, 99] (by decide) (Lib.hid lv7) _).mono ?_
  rintro e w9 ⟨rfl, b9⟩
  replace X := Lib.hid (upQ X.out b9)
  replace Y := Lib.hid (upQ Y.out b9)
  replace Z := Lib.hid (upQ Z.out b9)
  replace HB := Lib.hid (below2Z HB.out b9)
  clear b9
  go_wp2_with fail
  have b10 := bl_newZ w9 (.cells #[.int .i64 0, .string ⟨#[]⟩, .string ⟨#[]⟩, .int .i64 0, .int .i64 0, .int .i64 0, .int .i64 0, .string ⟨#[]⟩] 29)
  have U := newQ w9 (.cells #[.int .i64 0, .string ⟨#[]⟩, .string ⟨#[]⟩, .int .i64 0, .int .i64 0, .int .i64 0, .int .i64 0, .string ⟨#[]⟩] 29)
  have hU : w.heap.size ≤ w9.heap.size := HB.out.size
  replace X := Lib.hid (upQ X.out b10)
  replace Y := Lib.hid (upQ Y.out b10)
  replace Z := Lib.hid (upQ Z.out b10)
  replace HB := Lib.hid (below2Z HB.out b10)
  clear b10
  replace U := Lib.hid U
  generalize w9.alloc (.cells #[.int .i64 0, .string ⟨#[]⟩, .string ⟨#[]⟩, .int .i64 0, .int .i64 0, .int .i64 0, .int .i64 0, .string ⟨#[]⟩] 29) = w11 at X Y Z U HB ⊢
  generalize w9.heap.size = BU at U hU ⊢
  clear U
  clear hU
  refine (HS3.out _).mono ?_
  rintro e w12 ⟨rfl, b12⟩
  replace X := Lib.hid (upQ X.out b12)
  replace Y := Lib.hid (upQ Y.out b12)
  replace Z := Lib.hid (upQ Z.out b12)
  replace HB := Lib.hid (below2Z HB.out b12)
  clear b12
  go_wp2_with fail
  refine (scdec_any s3 L4 HD3 _).mono ?_
  rintro e w13 ⟨rfl, b13⟩
  replace X := Lib.hid (upQ X.out b13)
  replace Y := Lib.hid (upQ Y.out b13)
  replace Z := Lib.hid (upQ Z.out b13)
  replace HB := Lib.hid (below2Z HB.out b13)
  clear b13
  obtain ⟨⟨Xc0, Xc1, Xc2, Xc3, Xc4, Xc5, Xc6, Xc7⟩, ⟨Xf0, Xf1, Xf2, Xf3, Xf4, Xf5, Xf6, Xf7⟩⟩ := blk8 X.out
  obtain ⟨⟨Yc0, Yc1, Yc2, Yc3, Yc4, Yc5, Yc6, Yc7⟩, ⟨Yf0, Yf1, Yf2, Yf3, Yf4, Yf5, Yf6, Yf7⟩⟩ := blk8 Y.out
  have hX := (Array.getElem?_eq_some_iff.1 X.out).1
  have hY := (Array.getElem?_eq_some_iff.1 Y.out).1
  go_wp2_with fail
  clear Xc0 Xc1 Xc2 Xc3 Xc4 Xc5 Xc6 Xc7 Xf0 Xf1 Xf2 Xf3 Xf4 Xf5 Xf6 Xf7 Yc0 Yc1 Yc2 Yc3 Yc4 Yc5 Yc6 Yc7 Yf0 Yf1 Yf2 Yf3 Yf4 Yf5 Yf6 Yf7 hX hY
  have b14 := bl_newZ w13 (.cells #[.int .i64 0, .string ⟨#[]⟩, .string ⟨#[]⟩, .int .i64 0, .int .i64 0, .int .i64 0, .int .i64 0, .string ⟨#[]⟩] 29)
  have V := newQ w13 (.cells #[.int .i64 0, .string ⟨#[]⟩, .string ⟨#[]⟩, .int .i64 0, .int .i64 0, .int .i64 0, .int .i64 0, .string ⟨#[]⟩] 29)
  have hV : w.heap.size ≤ w13.heap.size := HB.out.size
  replace X := Lib.hid (upQ X.out b14)
  replace Y := Lib.hid (upQ Y.out b14)
  replace Z := Lib.hid (upQ Z.out b14)
  replace HB := Lib.hid (below2Z HB.out b14)
  clear b14
  replace V := Lib.hid V
  have HR1 := Lib.hid (rdS_made evOK (w := (w13.alloc (.cells #[.int .i64 0, .string ⟨#[]⟩, .string ⟨#[]⟩, .int .i64 0, .int .i64 0, .int .i64 0, .int .i64 0, .string ⟨#[]⟩] 29))) (cs := #[.int .i64 8, .string ⟨#[97]⟩, .string ⟨#[]⟩, .int .i64 2, .int .i64 0, .int .i64 0, .int .i64 0, .string ⟨#[]⟩, .int .i64 5, .string ⟨#[97]⟩, .string ⟨#[98, 111, 98]⟩, .int .i64 0, .int .i64 0, .int .i64 0, .int .i64 0, .string ⟨#[]⟩]) (l := [lvX, lvY]) rfl (by decide) (B := w13.heap.size + 1) (by simp))
  have b15 := bl_newZ (w13.alloc (.cells #[.int .i64 0, .string ⟨#[]⟩, .string ⟨#[]⟩, .int .i64 0, .int .i64 0, .int .i64 0, .int .i64 0, .string ⟨#[]⟩] 29)) (.cells #[.int .i64 8, .string ⟨#[97]⟩, .string ⟨#[]⟩, .int .i64 2, .int .i64 0, .int .i64 0, .int .i64 0, .string ⟨#[]⟩, .int .i64 5, .string ⟨#[97]⟩, .string ⟨#[98, 111, 98]⟩, .int .i64 0, .int .i64 0, .int .i64 0, .int .i64 0, .string ⟨#[]⟩] 29)
  have W := newQ (w13.alloc (.cells #[.int .i64 0, .string ⟨#[]⟩, .string ⟨#[]⟩, .int .i64 0, .int .i64 0, .int .i64 0, .int .i64 0, .string ⟨#[]⟩] 29)) (.cells #[.int .i64 8, .string ⟨#[97]⟩, .string ⟨#[]⟩, .int .i64 2, .int .i64 0, .int .i64 0, .int .i64 0, .string ⟨#[]⟩, .int .i64 5, .string ⟨#[97]⟩, .string ⟨#[98, 111, 98]⟩, .int .i64 0, .int .i64 0, .int .i64 0, .int .i64 0, .string ⟨#[]⟩] 29)
  have hW : w.heap.size ≤ (w13.alloc (.cells #[.int .i64 0, .string ⟨#[]⟩, .string ⟨#[]⟩, .int .i64 0, .int .i64 0, .int .i64 0, .int .i64 0, .string ⟨#[]⟩] 29)).heap.size := HB.out.size
  rw [World.size_alloc] at W hW
  replace X := Lib.hid (upQ X.out b15)
  replace Y := Lib.hid (upQ Y.out b15)
  replace Z := Lib.hid (upQ Z.out b15)
  replace V := Lib.hid (upQ V.out b15)
  replace HB := Lib.hid (below2Z HB.out b15)
  clear b15
  replace W := Lib.hid W
  generalize (w13.alloc (.cells #[.int .i64 0, .string ⟨#[]⟩, .string ⟨#[]⟩, .int .i64 0, .int .i64 0, .int .i64 0, .int .i64 0, .string ⟨#[]⟩] 29)).alloc (.cells #[.int .i64 8, .string ⟨#[97]⟩, .string ⟨#[]⟩, .int .i64 2, .int .i64 0, .int .i64 0, .int .i64 0, .string ⟨#[]⟩, .int .i64 5, .string ⟨#[97]⟩, .string ⟨#[98, 111, 98]⟩, .int .i64 0, .int .i64 0, .int .i64 0, .int .i64 0, .string ⟨#[]⟩] 29) = w16 at HR1 X Y Z V W HB ⊢
  clear V
  clear W
  clear hV hW
  refine (scbat_any HR1.out HSL.out HBT).mono ?_
  rintro e w17 ⟨rfl, b17⟩
  replace X := Lib.hid (upQ X.out b17)
  replace Y := Lib.hid (upQ Y.out b17)
  replace Z := Lib.hid (upQ Z.out b17)
  replace HB := Lib.hid (below2Z HB.out b17)
  clear HR1
  clear b17
  go_wp2_with fail
  refine (scun_any m L6 _).mono ?_
  rintro e w18 ⟨v, mm, er, rfl, hev, hun, b18⟩
  replace X := Lib.hid (upQ X.out b18)
  replace Y := Lib.hid (upQ Y.out b18)
  replace Z := Lib.hid (upQ Z.out b18)
  replace HB := Lib.hid (below2Z HB.out b18)
  obtain ⟨rfl, rfl⟩ := unIs_one hun HUN.out
  clear b18
  obtain ⟨av, cv, hav, -⟩ := RdS.open' hev
  subst hav
  have HEV := Lib.hid hev
  clear hev hun
  go_wp2_with fail
  refine (scun_any [120] (by simp) _).mono ?_
  rintro e w19 ⟨v2, mm2, er2, rfl, hev2, hun2, b19⟩
  replace X := Lib.hid (upQ X.out b19)
  replace Y := Lib.hid (upQ Y.out b19)
  replace Z := Lib.hid (upQ Z.out b19)
  replace HEV := Lib.hid (RdS.later HEV.out b19)
  replace HB := Lib.hid (below2Z HB.out b19)
  obtain ⟨rfl, rfl⟩ := unIs_one hun2 lv12
  clear hev2 hun2
  clear b19
  go_wp2_with fail
  refine (scfold_any 5 [65] [66, 111, 98] [] 0 0 0 0 hshf (Lib.hid lv10) _).mono ?_
  rintro e w20 ⟨rfl, b20⟩
  replace X := Lib.hid (upQ X.out b20)
  replace Y := Lib.hid (upQ Y.out b20)
  replace Z := Lib.hid (upQ Z.out b20)
  replace HEV := Lib.hid (RdS.later HEV.out b20)
  replace HB := Lib.hid (below2Z HB.out b20)
  clear b20
  go_wp2_with fail
  have b21 := bl_newZ w20 (.cells #[.int .i64 5, .string ⟨#[97]⟩, .string ⟨#[98, 111, 98]⟩, .int .i64 0, .int .i64 0, .int .i64 0, .int .i64 0, .string ⟨#[]⟩] 29)
  have G := newQ w20 (.cells #[.int .i64 5, .string ⟨#[97]⟩, .string ⟨#[98, 111, 98]⟩, .int .i64 0, .int .i64 0, .int .i64 0, .int .i64 0, .string ⟨#[]⟩] 29)
  have hG : w.heap.size ≤ w20.heap.size := HB.out.size
  replace X := Lib.hid (upQ X.out b21)
  replace Y := Lib.hid (upQ Y.out b21)
  replace Z := Lib.hid (upQ Z.out b21)
  replace HEV := Lib.hid (RdS.later HEV.out b21)
  replace HB := Lib.hid (below2Z HB.out b21)
  clear b21
  replace G := Lib.hid G
  generalize w20.alloc (.cells #[.int .i64 5, .string ⟨#[97]⟩, .string ⟨#[98, 111, 98]⟩, .int .i64 0, .int .i64 0, .int .i64 0, .int .i64 0, .string ⟨#[]⟩] 29) = w22 at X Y Z G HEV HB ⊢
  generalize w20.heap.size = BG at G hG ⊢
  refine (HS1.out _).mono ?_
  rintro e w23 ⟨rfl, b23⟩
  replace X := Lib.hid (upQ X.out b23)
  replace Y := Lib.hid (upQ Y.out b23)
  replace Z := Lib.hid (upQ Z.out b23)
  replace G := Lib.hid (upQ G.out b23)
  replace HEV := Lib.hid (RdS.later HEV.out b23)
  replace HB := Lib.hid (below2Z HB.out b23)
  clear b23
  go_wp2_with fail
  refine (HS2.out _).mono ?_
  rintro e w24 ⟨rfl, b24⟩
  replace X := Lib.hid (upQ X.out b24)
  replace Y := Lib.hid (upQ Y.out b24)
  replace Z := Lib.hid (upQ Z.out b24)
  replace G := Lib.hid (upQ G.out b24)
  replace HEV := Lib.hid (RdS.later HEV.out b24)
  replace HB := Lib.hid (below2Z HB.out b24)
  clear b24
  obtain ⟨⟨Xc0, Xc1, Xc2, Xc3, Xc4, Xc5, Xc6, Xc7⟩, ⟨Xf0, Xf1, Xf2, Xf3, Xf4, Xf5, Xf6, Xf7⟩⟩ := blk8 X.out
  obtain ⟨⟨Yc0, Yc1, Yc2, Yc3, Yc4, Yc5, Yc6, Yc7⟩, ⟨Yf0, Yf1, Yf2, Yf3, Yf4, Yf5, Yf6, Yf7⟩⟩ := blk8 Y.out
  obtain ⟨⟨Zc0, Zc1, Zc2, Zc3, Zc4, Zc5, Zc6, Zc7⟩, ⟨Zf0, Zf1, Zf2, Zf3, Zf4, Zf5, Zf6, Zf7⟩⟩ := blk8 Z.out
  obtain ⟨⟨Gc0, Gc1, Gc2, Gc3, Gc4, Gc5, Gc6, Gc7⟩, ⟨Gf0, Gf1, Gf2, Gf3, Gf4, Gf5, Gf6, Gf7⟩⟩ := blk8 G.out
  have hl1 := L1.out
  have hl2 := L2.out
  have hl3 := L3.out
  go_wp2_with fail
  clear Xc0 Xc1 Xc2 Xc3 Xc4 Xc5 Xc6 Xc7 Xf0 Xf1 Xf2 Xf3 Xf4 Xf5 Xf6 Xf7 Yc0 Yc1 Yc2 Yc3 Yc4 Yc5 Yc6 Yc7 Yf0 Yf1 Yf2 Yf3 Yf4 Yf5 Yf6 Yf7 Zc0 Zc1 Zc2 Zc3 Zc4 Zc5 Zc6 Zc7 Zf0 Zf1 Zf2 Zf3 Zf4 Zf5 Zf6 Zf7 Gc0 Gc1 Gc2 Gc3 Gc4 Gc5 Gc6 Gc7 Gf0 Gf1 Gf2 Gf3 Gf4 Gf5 Gf6 Gf7 hl1 hl2 hl3
  have HR1 := Lib.hid (rdS_made evOK (w := w24) (cs := #[.int .i64 8, .string ⟨#[97]⟩, .string ⟨#[]⟩, .int .i64 2, .int .i64 0, .int .i64 0, .int .i64 0, .string ⟨#[]⟩, .int .i64 5, .string ⟨#[97]⟩, .string ⟨#[98, 111, 98]⟩, .int .i64 0, .int .i64 0, .int .i64 0, .int .i64 0, .string ⟨#[]⟩]) (l := [lvX, lvY]) rfl (by decide) (B := w24.heap.size) rfl)
  have b25 := bl_newZ w24 (.cells #[.int .i64 8, .string ⟨#[97]⟩, .string ⟨#[]⟩, .int .i64 2, .int .i64 0, .int .i64 0, .int .i64 0, .string ⟨#[]⟩, .int .i64 5, .string ⟨#[97]⟩, .string ⟨#[98, 111, 98]⟩, .int .i64 0, .int .i64 0, .int .i64 0, .int .i64 0, .string ⟨#[]⟩] 29)
  have W := newQ w24 (.cells #[.int .i64 8, .string ⟨#[97]⟩, .string ⟨#[]⟩, .int .i64 2, .int .i64 0, .int .i64 0, .int .i64 0, .string ⟨#[]⟩, .int .i64 5, .string ⟨#[97]⟩, .string ⟨#[98, 111, 98]⟩, .int .i64 0, .int .i64 0, .int .i64 0, .int .i64 0, .string ⟨#[]⟩] 29)
  have hW : w.heap.size ≤ w24.heap.size := HB.out.size
  replace X := Lib.hid (upQ X.out b25)
  replace Y := Lib.hid (upQ Y.out b25)
  replace Z := Lib.hid (upQ Z.out b25)
  replace G := Lib.hid (upQ G.out b25)
  replace HEV := Lib.hid (RdS.later HEV.out b25)
  replace HB := Lib.hid (below2Z HB.out b25)
  clear b25
  replace W := Lib.hid W
  generalize w24.alloc (.cells #[.int .i64 8, .string ⟨#[97]⟩, .string ⟨#[]⟩, .int .i64 2, .int .i64 0, .int .i64 0, .int .i64 0, .string ⟨#[]⟩, .int .i64 5, .string ⟨#[97]⟩, .string ⟨#[98, 111, 98]⟩, .int .i64 0, .int .i64 0, .int .i64 0, .int .i64 0, .string ⟨#[]⟩] 29) = w26 at HR1 X Y Z G W HEV HB ⊢
  clear W
  clear hW
  refine (scsame_yes HEV.out HR1.out).mono ?_
  rintro e w27 ⟨rfl, b27⟩
  replace X := Lib.hid (upQ X.out b27)
  replace Y := Lib.hid (upQ Y.out b27)
  replace Z := Lib.hid (upQ Z.out b27)
  replace G := Lib.hid (upQ G.out b27)
  replace HEV := Lib.hid (RdS.later HEV.out b27)
  replace HB := Lib.hid (below2Z HB.out b27)
  clear HR1
  clear b27
  obtain ⟨⟨Xc0, Xc1, Xc2, Xc3, Xc4, Xc5, Xc6, Xc7⟩, ⟨Xf0, Xf1, Xf2, Xf3, Xf4, Xf5, Xf6, Xf7⟩⟩ := blk8 X.out
  obtain ⟨⟨Yc0, Yc1, Yc2, Yc3, Yc4, Yc5, Yc6, Yc7⟩, ⟨Yf0, Yf1, Yf2, Yf3, Yf4, Yf5, Yf6, Yf7⟩⟩ := blk8 Y.out
  obtain ⟨⟨Gc0, Gc1, Gc2, Gc3, Gc4, Gc5, Gc6, Gc7⟩, ⟨Gf0, Gf1, Gf2, Gf3, Gf4, Gf5, Gf6, Gf7⟩⟩ := blk8 G.out
  go_wp2_with fail
  clear Xc0 Xc1 Xc2 Xc3 Xc4 Xc5 Xc6 Xc7 Xf0 Xf1 Xf2 Xf3 Xf4 Xf5 Xf6 Xf7 Yc0 Yc1 Yc2 Yc3 Yc4 Yc5 Yc6 Yc7 Yf0 Yf1 Yf2 Yf3 Yf4 Yf5 Yf6 Yf7 Gc0 Gc1 Gc2 Gc3 Gc4 Gc5 Gc6 Gc7 Gf0 Gf1 Gf2 Gf3 Gf4 Gf5 Gf6 Gf7
  refine (scmay_any 8 [97] [] [] 2 0 0 0 hshx (Lib.hid lv1) _).mono ?_
  rintro e w28 ⟨rfl, b28⟩
  replace X := Lib.hid (upQ X.out b28)
  replace Y := Lib.hid (upQ Y.out b28)
  replace Z := Lib.hid (upQ Z.out b28)
  replace G := Lib.hid (upQ G.out b28)
  replace HEV := Lib.hid (RdS.later HEV.out b28)
  replace HB := Lib.hid (below2Z HB.out b28)
  clear b28
  go_wp2_with fail
  refine (scmay_any 0 [] [] [] 0 0 0 0 hshz (Lib.hid lv4) _).mono ?_
  rintro e w29 ⟨rfl, b29⟩
  replace X := Lib.hid (upQ X.out b29)
  replace Y := Lib.hid (upQ Y.out b29)
  replace Z := Lib.hid (upQ Z.out b29)
  replace G := Lib.hid (upQ G.out b29)
  replace HEV := Lib.hid (RdS.later HEV.out b29)
  replace HB := Lib.hid (below2Z HB.out b29)
  clear b29
  go_wp2_with fail
  go_ret
  exact ⟨rfl, HB.out⟩

end Go.Proofs.YthfkfonfiejbmaaGreat

end

section

/-
  LAYER 8, THE CODE: whether an entry has a counterpart that it may face.
-/
namespace Go.Proofs.YthfkfonfiejbmaaGreat
open Go.RowKit

set_option maxHeartbeats 1600000 in
set_option maxRecDepth 100000 in
theorem paired_no {w : World} {v : Value} {l : List Ent} (hv : Ents w v l) (hr : Rise l) (eo ec : List UInt8) (x1 x2 x3 x4 x5 : Bool) (hno : (l.any fun e => entIs e ⟨ec, eo, ⟨false, false, false, false, false⟩⟩) = false) :
    Calls Tryz.prog 91 #[v, .agg #[.string ⟨eo.toArray⟩, .string ⟨ec.toArray⟩, .bool x1, .bool x2, .bool x3, .bool x4, .bool x5]] w fun e w' => e = .returned (.bool false) ∧ Below w.heap.size w w' := by
  have B0 : Hid (Below w.heap.size w (w.alloc (.cells #[.string ⟨eo.toArray⟩, .string ⟨ec.toArray⟩, .bool x1, .bool x2, .bool x3, .bool x4, .bool x5] 68))) := Lib.hid ((Below.refl _ _).alloc (Nat.le_refl _) _)
  have HV := Lib.hid (hv.later B0.out)
  have HX := Lib.hid (cells7_made w ⟨eo, ec, ⟨x1, x2, x3, x4, x5⟩⟩ 68)
  have HE := Lib.hid (entry_any ec eo)
  obtain ⟨a, cap, rfl, hm⟩ := hv.open'
  go_enter Tryz.func91, Tryz.ntmps91
  go_wp2_with fail
  refine (HE.out _).mono ?_
  rintro e w1 ⟨rfl, b1⟩
  go_wp2_with fail
  refine (find_no (HV.out.later b1) hr ec eo false false false false false hno).mono ?_
  rintro e w2 ⟨rfl, b2⟩
  have B2 := Lib.hid (below2S B0.out (below2S b1 b2))
  clear b1 b2
  go_wp2_with fail
  go_ret
  refine ⟨rfl, ?_⟩
  repeat (first | exact B2.out | refine Below.setCell ?_ (by first | (simp; done) | (simp; omega)) _ | (refine Below.alloc ?_ (by first | exact B2.out.size | (simp; done) | (simp; omega)) _))

set_option maxHeartbeats 1600000 in
set_option maxRecDepth 100000 in
theorem paired_yes {w : World} {v : Value} {l : List Ent} (hv : Ents w v l) (hr : Rise l) (eo ec : List UInt8) (x1 x2 x3 x4 x5 : Bool) {fo fc : List UInt8} {i1 i2 i3 i4 i5 : Bool} (hlt : entPlace l ⟨ec, eo, ⟨false, false, false, false, false⟩⟩ < l.length) (he : l.getD (entPlace l ⟨ec, eo, ⟨false, false, false, false, false⟩⟩) Ent.zero = ⟨fo, fc, ⟨i1, i2, i3, i4, i5⟩⟩) (hs : entIs ⟨fo, fc, ⟨i1, i2, i3, i4, i5⟩⟩ ⟨ec, eo, ⟨false, false, false, false, false⟩⟩ = true) :
    Calls Tryz.prog 91 #[v, .agg #[.string ⟨eo.toArray⟩, .string ⟨ec.toArray⟩, .bool x1, .bool x2, .bool x3, .bool x4, .bool x5]] w fun e w' => e = .returned (.bool (suMay ⟨x1, x2, x3, x4, x5⟩ ⟨i1, i2, i3, i4, i5⟩ && !(suEmpty ⟨x1, x2, x3, x4, x5⟩ && suEmpty ⟨i1, i2, i3, i4, i5⟩))) ∧ Below w.heap.size w w' := by
  have B0 : Hid (Below w.heap.size w (w.alloc (.cells #[.string ⟨eo.toArray⟩, .string ⟨ec.toArray⟩, .bool x1, .bool x2, .bool x3, .bool x4, .bool x5] 68))) := Lib.hid ((Below.refl _ _).alloc (Nat.le_refl _) _)
  obtain ⟨m, hm0⟩ : ∃ m, suMay ⟨x1, x2, x3, x4, x5⟩ ⟨i1, i2, i3, i4, i5⟩ = m := ⟨_, rfl⟩
  obtain ⟨z, hz0⟩ : ∃ z, suEmpty ⟨x1, x2, x3, x4, x5⟩ = z := ⟨_, rfl⟩
  obtain ⟨y, hy0⟩ : ∃ y, suEmpty ⟨i1, i2, i3, i4, i5⟩ = y := ⟨_, rfl⟩
  rw [hm0, hz0, hy0]
  have HM := Lib.hid (smay_bl _ _ _ _ _ _ _ _ _ _ hm0)
  have HZ := Lib.hid (sempty_eq _ _ _ _ _ hz0)
  have HY := Lib.hid (sempty_eq _ _ _ _ _ hy0)
  clear hm0 hz0 hy0
  have HV := Lib.hid (hv.later B0.out)
  have HX := Lib.hid (cells7_made w ⟨eo, ec, ⟨x1, x2, x3, x4, x5⟩⟩ 68)
  have HE := Lib.hid (entry_any ec eo)
  obtain ⟨a, cap, rfl, hm⟩ := hv.open'
  cases m <;> cases z
  all_goals
    go_enter Tryz.func91, Tryz.ntmps91
    go_wp2_with fail
    refine (HE.out _).mono ?_
    rintro e w1 ⟨rfl, b1⟩
    go_wp2_with fail
    refine (find_yes (HV.out.later b1) hr ec eo false false false false false hlt he hs).mono ?_
    rintro e w2 ⟨rfl, b2⟩
    have b3 := below2S (below2S b1 b2) ((Below.refl _ _).alloc (Nat.le_refl _) (.cells #[.string ⟨fo.toArray⟩, .string ⟨fc.toArray⟩, .bool i1, .bool i2, .bool i3, .bool i4, .bool i5] 68))
    have B3 := Lib.hid (below2S B0.out b3)
    have X3 := Lib.hid (HX.out.later b3)
    have Y3 := Lib.hid (cells7_made w2 ⟨fo, fc, ⟨i1, i2, i3, i4, i5⟩⟩ 68)
    obtain ⟨c0, c1, c2, c3, c4, c5, c6⟩ := X3.out
    obtain ⟨d0, d1, d2, d3, d4, d5, d6⟩ := Y3.out
    simp only [Nat.zero_add] at c0 c1 c2 c3 c4 c5 c6 d0 d1 d2 d3 d4 d5 d6
    clear b1 b2 b3
    go_wp2_with fail
    refine (HM.out _).mono ?_
    rintro e w4 ⟨rfl, b4⟩
    have B4 := Lib.hid (below2S B3.out b4)
    have X4 := Lib.hid (X3.out.later b4)
    have Y4 := Lib.hid (Y3.out.later b4)
    obtain ⟨c0, c1, c2, c3, c4, c5, c6⟩ := X4.out
    obtain ⟨d0, d1, d2, d3, d4, d5, d6⟩ := Y4.out
    simp only [Nat.zero_add] at c0 c1 c2 c3 c4 c5 c6 d0 d1 d2 d3 d4 d5 d6
    clear b4
    go_wp2_with fail
  · go_ret
    exact ⟨rfl, B4.out⟩
  · go_ret
    exact ⟨rfl, B4.out⟩
  · refine (HZ.out _).mono ?_
    rintro e w5 ⟨rfl, b5⟩
    have B5 := Lib.hid (below2S B4.out b5)
    clear b5
    go_wp2_with fail
    go_ret
    exact ⟨rfl, B5.out⟩
  · refine (HZ.out _).mono ?_
    rintro e w5 ⟨rfl, b5⟩
    have B5 := Lib.hid (below2S B4.out b5)
    obtain ⟨d0, d1, d2, d3, d4, d5, d6⟩ := Y4.out.later b5
    simp only [Nat.zero_add] at d0 d1 d2 d3 d4 d5 d6
    clear b5
    go_wp2_with fail
    refine (HY.out _).mono ?_
    rintro e w6 ⟨rfl, b6⟩
    have B6 := Lib.hid (below2S B5.out b6)
    clear b6
    go_wp2_with fail
    go_ret
    exact ⟨rfl, B6.out⟩

end Go.Proofs.YthfkfonfiejbmaaGreat

end

section

/-
  LAYER 8, THE CODE: whether entries are of names, and rise.
-/
namespace Go.Proofs.YthfkfonfiejbmaaGreat
open Go.RowKit

/-- One entry is of two names, and stands behind the one ahead. -/
def riseAt (l : List Ent) (i : Nat) : Bool :=
  idIs (l.getD i Ent.zero).o && (idIs (l.getD i Ent.zero).c && (!decide ((l.getD i Ent.zero).o = (l.getD i Ent.zero).c) && (decide (i = 0) || entLt (l.getD (i - 1) Ent.zero) (l.getD i Ent.zero))))

def riseB (l : List Ent) : Bool := (List.range l.length).all (riseAt l)

theorem riseB_off {l : List Ent} {k : Nat} (hk : k < l.length) (h : riseAt l k = false) : riseB l = false := by
  rw [Bool.eq_false_iff]
  intro h'
  unfold riseB at h'
  rw [List.all_eq_true] at h'
  rw [h' k (by simpa using hk)] at h
  cases h

theorem rise_next {l : List Ent} {k : Nat} (h : (List.range k).all (riseAt l) = true) (hk : riseAt l k = true) : (List.range (k + 1)).all (riseAt l) = true := by
  rw [List.range_succ, List.all_append, h]
  simp [hk]

theorem riseB_at {l : List Ent} (h : riseB l = true) {k : Nat} (hk : k < l.length) : riseAt l k = true := by
  unfold riseB at h
  rw [List.all_eq_true] at h
  exact h k (by simpa using hk)

/-- What rises one by one rises. -/
theorem riseB_rise {l : List Ent} (h : riseB l = true) : Rise l := by
  have step : ∀ k, k + 1 < l.length → entLt (l.getD k Ent.zero) (l.getD (k + 1) Ent.zero) = true := by
    intro k hk
    have := riseB_at h hk
    unfold riseAt at this
    simp only [Bool.and_eq_true, Bool.or_eq_true, decide_eq_true_eq] at this
    rcases this.2.2.2 with h0 | h0
    · omega
    · rwa [show k + 1 - 1 = k by omega] at h0
  have far : ∀ d i, i + (d + 1) < l.length → entLt (l.getD i Ent.zero) (l.getD (i + (d + 1)) Ent.zero) = true := by
    intro d
    induction d with
    | zero => intro i hi; exact step i hi
    | succ d ih =>
      intro i hi
      exact entLt_trans (ih i (by omega)) (step (i + (d + 1)) (by omega))
  refine List.pairwise_iff_getElem.2 fun i j hi hj hij => ?_
  obtain ⟨d, rfl⟩ : ∃ d, j = i + (d + 1) := ⟨j - i - 1, by omega⟩
  have := far d i hj
  rwa [getD_at hi, getD_at hj] at this

theorem entI_ge {a b : Ent} {n : Int} (h : entI a b = n) : decide (0 ≤ n) = !entLt a b := by
  have hl := entI_lt a b
  rw [h] at hl
  cases hc : entLt a b with
  | true => rw [hc] at hl; have : n < 0 := by rw [hl]
            simp; omega
  | false => rw [hc] at hl; have : ¬ n < 0 := by rw [hl]; decide
             simp; omega

set_option maxHeartbeats 3200000 in
set_option maxRecDepth 100000 in
theorem rises_any {w : World} {v : Value} {l : List Ent} (hv : Ents w v l) (hs : ShortE l) :
    Calls Tryz.prog 89 #[v] w fun e w' => e = .returned (.bool (riseB l)) ∧ Below w.heap.size w w' := by
  have HV := Lib.hid hv
  have HS := Lib.hid hs
  obtain ⟨a, cap, rfl, hm⟩ := hv.open'
  clear hv hs
  go_enter Tryz.func89, Tryz.ntmps89
  go_wp2_with fail
  go_loopw [7] (fun i wr => ∃ k : Nat, k ≤ l.length ∧ i = .int .i64 k ∧ Hid (Below w.heap.size w wr) ∧ Hid ((List.range k).all (riseAt l) = true)) (fun i _ => l.length - (intOf i).toNat)
  case atStart => exact ⟨0, by omega, rfl, Below.refl _ _, by show _ = _; simp⟩
  case round =>
    obtain ⟨k, hk, rfl, HB, HA⟩ := hrel
    by_cases hlt : k < l.length
    · obtain ⟨b, off, rfl, h0, h1, h2, h3, h4, h5, h6⟩ := HV.out.row HB.out k hlt
      obtain ⟨hl1, hl2⟩ := HS.out.get hlt
      obtain ⟨⟨eo, ec, ⟨i1, i2, i3, i4, i5⟩⟩, hr⟩ : ∃ r, l.getD k Ent.zero = r := ⟨_, rfl⟩
      rw [hr] at h0 h1 h2 h3 h4 h5 h6 hl1 hl2
      simp only at h0 h1 h2 h3 h4 h5 h6 hl1 hl2
      have B1 := Lib.hid (bl_allocS HB.out (.cells #[.string ⟨eo.toArray⟩, .string ⟨ec.toArray⟩, .bool i1, .bool i2, .bool i3, .bool i4, .bool i5] 68))
      have C1 := Lib.hid (cells7_made wr ⟨eo, ec, ⟨i1, i2, i3, i4, i5⟩⟩ 68)
      cases hi : idIs eo with
      | false =>
        have HR : Hid (riseB l = false) := by show _ = _; exact riseB_off hlt (by unfold riseAt; rw [hr]; simp only; simp [hi])
        have HI := Lib.hid (is_eq eo hl1 (r := false) (Lib.hid hi))
        clear hi hr
        go_wp2_with fail
        refine (HI.out _).mono ?_
        rintro e w2 ⟨rfl, b2⟩
        have B2 := Lib.hid (below2S B1.out b2)
        clear b2
        go_wp2_with fail
        go_ret
        exact ⟨by rw [HR.out]; rfl, B2.out⟩
      | true =>
        have HI := Lib.hid (is_eq eo hl1 (r := true) (Lib.hid hi))
        cases hj : idIs ec with
        | false =>
          have HR : Hid (riseB l = false) := by show _ = _; exact riseB_off hlt (by unfold riseAt; rw [hr]; simp only; simp [hi, hj])
          have HJ := Lib.hid (is_eq ec hl2 (r := false) (Lib.hid hj))
          clear hi hj hr
          go_wp2_with fail
          refine (HI.out _).mono ?_
          rintro e w2 ⟨rfl, b2⟩
          have B2 := Lib.hid (below2S B1.out b2)
          obtain ⟨c0, c1, c2, c3, c4, c5, c6⟩ := C1.out.later b2
          simp only [Nat.zero_add] at c0 c1 c2 c3 c4 c5 c6
          clear b2
          go_wp2_with fail
          refine (HJ.out _).mono ?_
          rintro e w3 ⟨rfl, b3⟩
          have B3 := Lib.hid (below2S B2.out b3)
          clear b3 c0 c1 c2 c3 c4 c5 c6
          go_wp2_with fail
          go_ret
          exact ⟨by rw [HR.out]; rfl, B3.out⟩
        | true =>
          have HJ := Lib.hid (is_eq ec hl2 (r := true) (Lib.hid hj))
          by_cases hoc : eo = ec
          · subst hoc
            have HR : Hid (riseB l = false) := by show _ = _; exact riseB_off hlt (by unfold riseAt; rw [hr]; simp)
            clear hi hj hr
            go_wp2_with fail
            refine (HI.out _).mono ?_
            rintro e w2 ⟨rfl, b2⟩
            have B2 := Lib.hid (below2S B1.out b2)
            have C2 := Lib.hid (C1.out.later b2)
            obtain ⟨c0, c1, c2, c3, c4, c5, c6⟩ := C2.out
            simp only [Nat.zero_add] at c0 c1 c2 c3 c4 c5 c6
            have HB2 := Lib.hid b2
            clear b2
            go_wp2_with fail
            refine (HJ.out _).mono ?_
            rintro e w3 ⟨rfl, b3⟩
            have B3 := Lib.hid (below2S B2.out b3)
            have C3 := Lib.hid (C2.out.later b3)
            have HB3 := Lib.hid b3
            clear b3 c0 c1 c2 c3 c4 c5 c6
            obtain ⟨c0, c1, c2, c3, c4, c5, c6⟩ := C3.out
            simp only [Nat.zero_add] at c0 c1 c2 c3 c4 c5 c6
            go_wp2_with fail
            go_ret
            exact ⟨by rw [HR.out]; rfl, B3.out⟩
          · have toc : (eo == ec) = false := by rw [beq_eq_false_iff_ne]; exact hoc
            rcases Nat.eq_zero_or_pos k with rfl | hpos
            · have HA2 : Hid ((List.range (0 + 1)).all (riseAt l) = true) := by show _ = _; exact rise_next HA.out (by unfold riseAt; rw [hr]; simp [hi, hj, hoc])
              clear hi hj hr hoc
              simp only [Nat.zero_mul, Nat.add_zero] at h0 h1 h2 h3 h4 h5 h6
              go_wp2_with fail
              refine (HI.out _).mono ?_
              rintro e w2 ⟨rfl, b2⟩
              have B2 := Lib.hid (below2S B1.out b2)
              have C2 := Lib.hid (C1.out.later b2)
              obtain ⟨c0, c1, c2, c3, c4, c5, c6⟩ := C2.out
              simp only [Nat.zero_add] at c0 c1 c2 c3 c4 c5 c6
              have HB2 := Lib.hid b2
              clear b2
              go_wp2_with fail
              refine (HJ.out _).mono ?_
              rintro e w3 ⟨rfl, b3⟩
              have B3 := Lib.hid (below2S B2.out b3)
              have C3 := Lib.hid (C2.out.later b3)
              have HB3 := Lib.hid b3
              clear b3 c0 c1 c2 c3 c4 c5 c6
              obtain ⟨c0, c1, c2, c3, c4, c5, c6⟩ := C3.out
              simp only [Nat.zero_add] at c0 c1 c2 c3 c4 c5 c6
              go_wp2_with fail
              have q0 := cell_regrown c0
              have q1 := cell_regrown c1
              have q2 := cell_regrown c2
              have q3 := cell_regrown c3
              have q4 := cell_regrown c4
              have q5 := cell_regrown c5
              have q6 := cell_regrown c6
              clear c0 c1 c2 c3 c4 c5 c6
              refine wp_region_quiet_below (by kernel_rfl) (by kernel_rfl) ?_
              repeat (go_big_quiet_step (fail))
              refine wpQuiet_nil ?_
              intro w5 hw5
              have B5 := Lib.hid (below2S B3.out (regrown_belowP hw5))
              clear hw5 q0 q1 q2 q3 q4 q5 q6
              go_wp2_with fail
              go_roundw
              case rel => exact ⟨1, by omega, by go_num, B5, HA2⟩
              case measure => simp [intOf]; omega
            · obtain ⟨j, rfl⟩ : ∃ j, k = j + 1 := ⟨k - 1, by omega⟩
              obtain ⟨b2, off2, e2, hP⟩ := HV.out.row HB.out j (by omega)
              injection e2 with e2
              injection e2 with e3 e4 _
              subst e3 e4
              obtain ⟨⟨po, pc, ⟨j1, j2, j3, j4, j5⟩⟩, hr2⟩ : ∃ r, l.getD j Ent.zero = r := ⟨_, rfl⟩
              rw [hr2] at hP
              have HP := Lib.hid hP
              have HCmp := Lib.hid (rcompare_any po pc eo ec j1 j2 j3 j4 j5 i1 i2 i3 i4 i5)
              obtain ⟨n, hn⟩ : ∃ n, entI ⟨po, pc, ⟨j1, j2, j3, j4, j5⟩⟩ ⟨eo, ec, ⟨i1, i2, i3, i4, i5⟩⟩ = n := ⟨_, rfl⟩
              have hge := entI_ge hn
              rw [hn] at HCmp
              clear hn hP
              cases hc : entLt ⟨po, pc, ⟨j1, j2, j3, j4, j5⟩⟩ ⟨eo, ec, ⟨i1, i2, i3, i4, i5⟩⟩ with
              | true =>
                rw [hc] at hge
                simp only [Bool.not_true] at hge
                have HA2 : Hid ((List.range (j + 1 + 1)).all (riseAt l) = true) := by show _ = _; exact rise_next HA.out (by unfold riseAt; rw [hr, show j + 1 - 1 = j by omega, hr2]; simp [hi, hj, hoc, hc])
                clear hi hj hr hoc hr2 hc
                go_wp2_with fail
                refine (HI.out _).mono ?_
                rintro e w2 ⟨rfl, b2⟩
                have B2 := Lib.hid (below2S B1.out b2)
                have C2 := Lib.hid (C1.out.later b2)
                obtain ⟨c0, c1, c2, c3, c4, c5, c6⟩ := C2.out
                simp only [Nat.zero_add] at c0 c1 c2 c3 c4 c5 c6
                have HB2 := Lib.hid b2
                clear b2
                go_wp2_with fail
                refine (HJ.out _).mono ?_
                rintro e w3 ⟨rfl, b3⟩
                have B3 := Lib.hid (below2S B2.out b3)
                have C3 := Lib.hid (C2.out.later b3)
                have HB3 := Lib.hid b3
                clear b3 c0 c1 c2 c3 c4 c5 c6
                obtain ⟨c0, c1, c2, c3, c4, c5, c6⟩ := C3.out
                simp only [Nat.zero_add] at c0 c1 c2 c3 c4 c5 c6
                go_wp2_with fail
                obtain ⟨p0, p1, p2, p3, p4, p5, p6⟩ := cells7_regrown (HP.out.later (below2S (below2S ((Below.refl _ _).alloc (Nat.le_refl _) _) HB2.out) HB3.out))
                have q0 := cell_regrown c0
                have q1 := cell_regrown c1
                have q2 := cell_regrown c2
                have q3 := cell_regrown c3
                have q4 := cell_regrown c4
                have q5 := cell_regrown c5
                have q6 := cell_regrown c6
                clear c0 c1 c2 c3 c4 c5 c6
                refine wp_region_quiet_below (by kernel_rfl) (by kernel_rfl) ?_
                repeat (go_big_quiet_step (with_reducible exact rgB HCmp.out _ _ _))
                refine wpQuiet_nil ?_
                intro w5 hw5
                have B5 := Lib.hid (below2S B3.out (regrown_belowP hw5))
                clear hw5 p0 p1 p2 p3 p4 p5 p6 q0 q1 q2 q3 q4 q5 q6
                go_wp2_with fail
                go_roundw
                case rel => exact ⟨j + 1 + 1, by omega, by go_num, B5, HA2⟩
                case measure => simp [intOf]; omega
              | false =>
                rw [hc] at hge
                simp only [Bool.not_false] at hge
                have HR : Hid (riseB l = false) := by show _ = _; exact riseB_off hlt (by unfold riseAt; rw [hr, show j + 1 - 1 = j by omega, hr2]; simp [hc])
                clear hi hj hr hoc hr2 hc
                go_wp2_with fail
                refine (HI.out _).mono ?_
                rintro e w2 ⟨rfl, b2⟩
                have B2 := Lib.hid (below2S B1.out b2)
                have C2 := Lib.hid (C1.out.later b2)
                obtain ⟨c0, c1, c2, c3, c4, c5, c6⟩ := C2.out
                simp only [Nat.zero_add] at c0 c1 c2 c3 c4 c5 c6
                have HB2 := Lib.hid b2
                clear b2
                go_wp2_with fail
                refine (HJ.out _).mono ?_
                rintro e w3 ⟨rfl, b3⟩
                have B3 := Lib.hid (below2S B2.out b3)
                have C3 := Lib.hid (C2.out.later b3)
                have HB3 := Lib.hid b3
                clear b3 c0 c1 c2 c3 c4 c5 c6
                obtain ⟨c0, c1, c2, c3, c4, c5, c6⟩ := C3.out
                simp only [Nat.zero_add] at c0 c1 c2 c3 c4 c5 c6
                go_wp2_with fail
                obtain ⟨p0, p1, p2, p3, p4, p5, p6⟩ := cells7_regrown (HP.out.later (below2S (below2S ((Below.refl _ _).alloc (Nat.le_refl _) _) HB2.out) HB3.out))
                have q0 := cell_regrown c0
                have q1 := cell_regrown c1
                have q2 := cell_regrown c2
                have q3 := cell_regrown c3
                have q4 := cell_regrown c4
                have q5 := cell_regrown c5
                have q6 := cell_regrown c6
                clear c0 c1 c2 c3 c4 c5 c6
                refine wp_region_quiet_below (by kernel_rfl) (by kernel_rfl) ?_
                repeat (go_big_quiet_step (with_reducible exact rgB HCmp.out _ _ _))
                refine wpQuiet_nil ?_
                intro w5 hw5
                have B5 := Lib.hid (below2S B3.out (regrown_belowP hw5))
                clear hw5 p0 p1 p2 p3 p4 p5 p6 q0 q1 q2 q3 q4 q5 q6
                go_wp2_with fail
                go_ret
                exact ⟨by rw [HR.out]; rfl, B5.out⟩
    · obtain rfl : k = l.length := by omega
      have HR : Hid (riseB l = true) := HA
      go_wp2_with fail
      go_ret
      exact ⟨by rw [HR.out]; rfl, HB.out⟩

end Go.Proofs.YthfkfonfiejbmaaGreat

end

section

/-
  LAYER 8, THE CODE: whether an entry is one more than its Owner may have.
-/
namespace Go.Proofs.YthfkfonfiejbmaaGreat
open Go.RowKit

set_option maxHeartbeats 1600000 in
set_option maxRecDepth 100000 in
theorem over_any {w : World} {v : Value} {l : List Ent} (hv : Ents w v l) {k : Nat} (hk : k < l.length) :
    Calls Tryz.prog 90 #[v, .int .i64 k] w fun e w' => e = .returned (.bool (roOver l k)) ∧ Below w.heap.size w w' := by
  have HV := Lib.hid hv
  obtain ⟨a, cap, rfl, hm⟩ := hv.open'
  clear hv
  by_cases h16 : 16 ≤ k
  · obtain ⟨b, off, rfl, hA⟩ := HV.out.row (Below.refl _ _) (k - 16) (by omega)
    obtain ⟨b2, off2, e2, hB⟩ := HV.out.row (Below.refl _ _) k hk
    injection e2 with e2
    injection e2 with e3 e4 _
    subst e3 e4
    obtain ⟨x, hx⟩ : ∃ x, (l.getD (k - 16) Ent.zero).o = x := ⟨_, rfl⟩
    obtain ⟨y, hy⟩ : ∃ y, (l.getD k Ent.zero).o = y := ⟨_, rfl⟩
    have g0 := cell_regrown hA.1
    have g1 := cell_regrown hB.1
    rw [hx] at g0
    rw [hy] at g1
    have HR : Hid (roOver l k = (x == y)) := by
      show _ = _
      unfold roOver
      rw [hx, hy, show decide (16 ≤ k) = true by simpa using h16, Bool.true_and]
      by_cases h : x = y <;> simp [h]
    obtain ⟨r, hr⟩ : ∃ r, (x == y) = r := ⟨_, rfl⟩
    rw [HR.out, hr]
    have t1 : decide (16 ≤ (k : Int)) = true := by simp; omega
    have e16 : (16 : Int) ≤ (k : Int) := by omega
    have hj1 : (k : Int) - 16 < (l.length : Int) := by omega
    have hj0 : (0 : Int) ≤ (k : Int) - 16 := by omega
    have hj2 : (k : Int) < (l.length : Int) := by omega
    have hw : IntKind.i64.wrap ((k : Int) - 16) = (k : Int) - 16 := IntWalk.i64_in _ (by omega)
    have hn : ((k : Int) - 16).toNat = k - 16 := by omega
    clear hx hy HR hA hB
    go_enter Tryz.func90, Tryz.ntmps90
    go_wp2_with fail
    refine wp_region_quiet_below (by kernel_rfl) (by kernel_rfl) ?_
    repeat (go_big_quiet_step (fail))
    refine wpQuiet_nil ?_
    intro w5 hw5
    have B5 := Lib.hid (regrown_belowP hw5)
    clear hw5 g0 g1
    go_wp2_with fail
    go_ret
    exact ⟨rfl, B5.out⟩
  · have HR : Hid (roOver l k = false) := by show _ = _; unfold roOver; simp [h16]
    have t1 : decide (16 ≤ (k : Int)) = false := by simp; omega
    clear h16
    rw [HR.out]
    go_enter Tryz.func90, Tryz.ntmps90
    go_wp2_with fail
    refine wp_region_quiet_below (by kernel_rfl) (by kernel_rfl) ?_
    repeat (go_big_quiet_step (fail))
    refine wpQuiet_nil ?_
    intro w5 hw5
    have B5 := Lib.hid (regrown_belowP hw5)
    clear hw5
    go_wp2_with fail
    go_ret
    exact ⟨rfl, B5.out⟩

end Go.Proofs.YthfkfonfiejbmaaGreat

end
