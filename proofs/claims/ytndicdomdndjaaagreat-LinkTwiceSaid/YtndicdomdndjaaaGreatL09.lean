/-
  TEXTS OF THE PROOF, one behind the other: LnkLive.
-/
import Derived.Test.YtndicdomdndjaaaGreatL08

/-
  LAYER 18: live of the statements tells true.
-/
namespace Go.Proofs.YtndicdomdndjaaaGreat
open Go.RowKit

theorem tab_oneL {W : World} {B : Nat} {c st : List UInt8} {a b d : Int} (h : CellsAt W B 0 [.string ⟨c.toArray⟩, .int .i64 a, .int .i64 b, .int .i64 d, .string ⟨st.toArray⟩]) : Tab W (.slice (some ⟨B, 0, none⟩) 1 1) [⟨c, ⟨a, b, d, st⟩⟩] := by
  refine ⟨_, 1, rfl, by simp, by decide, (fun e => by cases e), .inr ⟨B, 0, rfl, World.block_lt_of_cell? W _ (h 0 _ rfl), fun i hi => ?_⟩⟩
  obtain rfl : i = 0 := by simpa using hi
  exact ⟨h 0 _ rfl, h 1 _ rfl, h 2 _ rfl, h 3 _ rfl, h 4 _ rfl⟩

theorem tab_nilL (X : World) : Tab X (.slice none 0 0) [] := OwnR.tab (ownR_nil X 0)

theorem short_nilL : Short [] := fun r h => by cases h

theorem lnk_q1 : Hid (lnNew ⟨2, 2, 1, 5⟩ 10 = (⟨0, ⟨[], false⟩, ⟨2, 10⟩, true, 10⟩, 0)) := by show _ = _; kernel_rfl
theorem lnk_q2 : Hid (lnNew ⟨0, 0, 0, 0⟩ 10 = (⟨0, ⟨[], false⟩, ⟨0, 0⟩, false, 0⟩, 1)) := by show _ = _; kernel_rfl
theorem lnk_q3 : Hid (lnEmit ⟨2, 2, 1, 5⟩ ⟨0, ⟨[], false⟩, ⟨2, 10⟩, true, 10⟩ [⟨[97], ⟨4, 0, 0, []⟩⟩] 10 = (⟨1, ⟨[], false⟩, ⟨1, 10⟩, false, 10⟩, [⟨3, 0, false, [], Val.zero, 0, [⟨[97], ⟨4, 0, 0, []⟩⟩]⟩])) := by show _ = _; kernel_rfl
theorem lnk_q4 : Hid (lnPush ⟨2, 2, 1, 5⟩ ⟨1, ⟨[], false⟩, ⟨1, 10⟩, false, 10⟩ ⟨[97], false, ⟨0, 0, 0, []⟩⟩ = ⟨1, ⟨[⟨[97], false, ⟨0, 0, 0, []⟩⟩], false⟩, ⟨1, 10⟩, false, 10⟩) := by show _ = _; kernel_rfl
theorem lnk_q5 : Hid (lnPush ⟨2, 2, 1, 5⟩ ⟨1, ⟨[⟨[97], false, ⟨0, 0, 0, []⟩⟩], false⟩, ⟨1, 10⟩, false, 10⟩ ⟨[98], false, ⟨0, 0, 0, []⟩⟩ = ⟨1, ⟨[⟨[97], false, ⟨0, 0, 0, []⟩⟩, ⟨[98], false, ⟨0, 0, 0, []⟩⟩], false⟩, ⟨1, 10⟩, false, 10⟩) := by show _ = _; kernel_rfl
theorem lnk_q6 : Hid (lnEmit ⟨2, 2, 1, 5⟩ ⟨1, ⟨[⟨[97], false, ⟨0, 0, 0, []⟩⟩, ⟨[98], false, ⟨0, 0, 0, []⟩⟩], false⟩, ⟨1, 10⟩, false, 10⟩ [] 10 = (⟨2, ⟨[⟨[98], false, ⟨0, 0, 0, []⟩⟩], false⟩, ⟨0, 10⟩, false, 10⟩, [⟨1, 1, false, [97], ⟨0, 0, 0, []⟩, 0, []⟩])) := by show _ = _; kernel_rfl
theorem lnk_q7 : Hid (lnEmit ⟨2, 2, 1, 5⟩ ⟨2, ⟨[⟨[98], false, ⟨0, 0, 0, []⟩⟩], false⟩, ⟨0, 10⟩, false, 10⟩ [] 10 = (⟨2, ⟨[⟨[98], false, ⟨0, 0, 0, []⟩⟩], false⟩, ⟨0, 10⟩, false, 10⟩, [])) := by show _ = _; kernel_rfl
theorem lnk_q8 : Hid (lnEmit ⟨2, 2, 1, 5⟩ ⟨2, ⟨[⟨[98], false, ⟨0, 0, 0, []⟩⟩], false⟩, ⟨0, 10⟩, false, 10⟩ [] 16 = (⟨4, ⟨[], false⟩, ⟨0, 16⟩, false, 16⟩, [⟨1, 2, false, [98], ⟨0, 0, 0, []⟩, 0, []⟩, ⟨2, 3, false, [], Val.zero, diSum [], []⟩])) := by show _ = _; kernel_rfl
theorem lnk_q9 : Hid (lnPush ⟨2, 2, 1, 5⟩ ⟨1, ⟨[⟨[97], false, ⟨0, 0, 0, []⟩⟩, ⟨[98], false, ⟨0, 0, 0, []⟩⟩], false⟩, ⟨1, 10⟩, false, 10⟩ ⟨[99], false, ⟨0, 0, 0, []⟩⟩ = ⟨1, ⟨[], false⟩, ⟨1, 10⟩, true, 10⟩) := by show _ = _; kernel_rfl
theorem lnk_q10 : Hid (lnQuiet ⟨4, ⟨[], false⟩, ⟨0, 16⟩, false, 16⟩ = true) := by show _ = _; kernel_rfl
theorem lnk_q11 : Hid (lnQuiet ⟨2, ⟨[⟨[98], false, ⟨0, 0, 0, []⟩⟩], false⟩, ⟨0, 10⟩, false, 10⟩ = false) := by show _ = _; kernel_rfl
theorem lnk_q12 : Hid (lnMay ⟨2, 2, 1, 5⟩ ⟨4, ⟨[], false⟩, ⟨0, 16⟩, false, 16⟩ = true) := by show _ = _; kernel_rfl
theorem lnk_q13 : Hid (lnMay ⟨2, 2, 1, 5⟩ ⟨-1, ⟨[], false⟩, ⟨0, 0⟩, false, 0⟩ = false) := by show _ = _; kernel_rfl
theorem lnk_s1 : Short [⟨[97], ⟨4, 0, 0, []⟩⟩] := by intro r hr; simp only [List.mem_singleton] at hr; subst hr; exact ⟨by decide, by decide⟩
theorem lnk_s2 : ShortC [⟨[97], false, ⟨0, 0, 0, []⟩⟩, ⟨[98], false, ⟨0, 0, 0, []⟩⟩] := by intro r hr; simp only [List.mem_cons, List.not_mem_nil, or_false] at hr; rcases hr with rfl | rfl <;> exact ⟨by decide, by decide⟩
theorem lnk_s3 : ShortC [⟨[98], false, ⟨0, 0, 0, []⟩⟩] := by intro r hr; simp only [List.mem_singleton] at hr; subst hr; exact ⟨by decide, by decide⟩
theorem shortC_nilL : ShortC [] := fun r h => by cases h

set_option maxHeartbeats 12800000 in
set_option maxRecDepth 1000000 in
theorem live18 (w : World) : Calls Tryz.prog 10 #[] w fun e w' => e = .returned (.bool true) ∧ Below w.heap.size w w' := by
  have HB := Lib.hid (Below.refl w.heap.size w)
  go_enter Tryz.func10, Tryz.ntmps10
  have b1 := bl_newZ w (.cells #[.int .i64 2, .int .i64 2, .int .i64 1, .int .i64 5] 23)
  have CB := newQ w (.cells #[.int .i64 2, .int .i64 2, .int .i64 1, .int .i64 5] 23)
  have hCB : w.heap.size ≤ w.heap.size := HB.out.size
  replace HB := Lib.hid (below2Z HB.out b1)
  clear b1
  replace CB := Lib.hid CB
  have b2 := bl_newZ (w.alloc (.cells #[.int .i64 2, .int .i64 2, .int .i64 1, .int .i64 5] 23)) (.cells #[.int .i64 4, .int .i64 0, .int .i64 0, .string ⟨#[]⟩] 32)
  have VB := newQ (w.alloc (.cells #[.int .i64 2, .int .i64 2, .int .i64 1, .int .i64 5] 23)) (.cells #[.int .i64 4, .int .i64 0, .int .i64 0, .string ⟨#[]⟩] 32)
  have hVB : w.heap.size ≤ (w.alloc (.cells #[.int .i64 2, .int .i64 2, .int .i64 1, .int .i64 5] 23)).heap.size := HB.out.size
  rw [World.size_alloc] at VB hVB
  replace CB := Lib.hid (upQ CB.out b2)
  replace HB := Lib.hid (below2Z HB.out b2)
  clear b2
  replace VB := Lib.hid VB
  have b3 := bl_newZ ((w.alloc (.cells #[.int .i64 2, .int .i64 2, .int .i64 1, .int .i64 5] 23)).alloc (.cells #[.int .i64 4, .int .i64 0, .int .i64 0, .string ⟨#[]⟩] 32)) (.cells #[.string ⟨#[97]⟩, .int .i64 4, .int .i64 0, .int .i64 0, .string ⟨#[]⟩] 67)
  have TK := newQ ((w.alloc (.cells #[.int .i64 2, .int .i64 2, .int .i64 1, .int .i64 5] 23)).alloc (.cells #[.int .i64 4, .int .i64 0, .int .i64 0, .string ⟨#[]⟩] 32)) (.cells #[.string ⟨#[97]⟩, .int .i64 4, .int .i64 0, .int .i64 0, .string ⟨#[]⟩] 67)
  have hTK : w.heap.size ≤ ((w.alloc (.cells #[.int .i64 2, .int .i64 2, .int .i64 1, .int .i64 5] 23)).alloc (.cells #[.int .i64 4, .int .i64 0, .int .i64 0, .string ⟨#[]⟩] 32)).heap.size := HB.out.size
  rw [World.size_alloc, World.size_alloc] at TK hTK
  replace CB := Lib.hid (upQ CB.out b3)
  replace VB := Lib.hid (upQ VB.out b3)
  replace HB := Lib.hid (below2Z HB.out b3)
  clear b3
  replace TK := Lib.hid TK
  go_upto_region 4 with fail
  generalize ((w.alloc (.cells #[.int .i64 2, .int .i64 2, .int .i64 1, .int .i64 5] 23)).alloc (.cells #[.int .i64 4, .int .i64 0, .int .i64 0, .string ⟨#[]⟩] 32)).alloc (.cells #[.string ⟨#[97]⟩, .int .i64 4, .int .i64 0, .int .i64 0, .string ⟨#[]⟩] 67) = w4 at CB VB TK HB ⊢
  have T := Lib.hid (tab_oneL (c := [97]) (a := 4) (b := 0) (d := 0) (st := []) (cellsAt_block TK.out))
  clear VB
  clear TK
  obtain ⟨⟨CBc0, CBc1, CBc2, CBc3⟩, ⟨CBf0, CBf1, CBf2, CBf3⟩⟩ := blk4 CB.out
  go_wp2_with fail
  clear CBc0 CBc1 CBc2 CBc3 CBf0 CBf1 CBf2 CBf3
  refine (lnew_eq 2 2 1 5 10 lnk_q1 _).mono ?_
  rintro e w5 ⟨rfl, b5⟩
  replace CB := Lib.hid (upQ CB.out b5)
  replace T := Lib.hid (Tab.later T.out b5)
  replace HB := Lib.hid (below2Z HB.out b5)
  clear b5
  have b6 := bl_newZ w5 (.cells #[.int .i64 0, .slice none 0 0, .bool false, .int .i64 2, .int .i64 10, .bool true, .int .i64 10] 30)
  have L4 := newQ w5 (.cells #[.int .i64 0, .slice none 0 0, .bool false, .int .i64 2, .int .i64 10, .bool true, .int .i64 10] 30)
  have hL4 : w.heap.size ≤ w5.heap.size := HB.out.size
  replace CB := Lib.hid (upQ CB.out b6)
  replace T := Lib.hid (Tab.later T.out b6)
  replace HB := Lib.hid (below2Z HB.out b6)
  clear b6
  replace L4 := Lib.hid L4
  go_upto_region 5 with fail
  generalize w5.alloc (.cells #[.int .i64 0, .slice none 0 0, .bool false, .int .i64 2, .int .i64 10, .bool true, .int .i64 10] 30) = w7 at CB L4 T HB ⊢
  go_wp2_with fail
  refine (lnew_eq 0 0 0 0 10 lnk_q2 _).mono ?_
  rintro e w8 ⟨rfl, b8⟩
  replace CB := Lib.hid (upQ CB.out b8)
  replace L4 := Lib.hid (upQ L4.out b8)
  replace T := Lib.hid (Tab.later T.out b8)
  replace HB := Lib.hid (below2Z HB.out b8)
  clear b8
  have b9 := bl_newZ w8 (.cells #[.int .i64 0, .slice none 0 0, .bool false, .int .i64 0, .int .i64 0, .bool false, .int .i64 0] 30)
  have L6 := newQ w8 (.cells #[.int .i64 0, .slice none 0 0, .bool false, .int .i64 0, .int .i64 0, .bool false, .int .i64 0] 30)
  have hL6 : w.heap.size ≤ w8.heap.size := HB.out.size
  replace CB := Lib.hid (upQ CB.out b9)
  replace L4 := Lib.hid (upQ L4.out b9)
  replace T := Lib.hid (Tab.later T.out b9)
  replace HB := Lib.hid (below2Z HB.out b9)
  clear b9
  replace L6 := Lib.hid L6
  go_upto_region 6 with fail
  generalize w8.alloc (.cells #[.int .i64 0, .slice none 0 0, .bool false, .int .i64 0, .int .i64 0, .bool false, .int .i64 0] 30) = w10 at CB L4 L6 T HB ⊢
  clear L6
  obtain ⟨⟨CBc0, CBc1, CBc2, CBc3⟩, ⟨CBf0, CBf1, CBf2, CBf3⟩⟩ := blk4 CB.out
  obtain ⟨⟨L4c0, L4c1, L4c2, L4c3, L4c4, L4c5, L4c6⟩, ⟨L4f0, L4f1, L4f2, L4f3, L4f4, L4f5, L4f6⟩⟩ := blk7 L4.out
  go_wp2_with fail
  clear CBc0 CBc1 CBc2 CBc3 CBf0 CBf1 CBf2 CBf3 L4c0 L4c1 L4c2 L4c3 L4c4 L4c5 L4c6 L4f0 L4f1 L4f2 L4f3 L4f4 L4f5 L4f6
  refine (lemit_eq (chgs_nil _) T.out shortC_nilL (by decide) lnk_s1 2 2 1 5 0 2 10 10 10 false true lnk_q3).mono ?_
  rintro e w11 ⟨uM, fvM, psM, rfl, hM, kM, mM, b11⟩
  replace CB := Lib.hid (upQ CB.out b11)
  replace L4 := Lib.hid (upQ L4.out b11)
  replace T := Lib.hid (Tab.later T.out b11)
  replace HB := Lib.hid (below2Z HB.out b11)
  obtain ⟨uMa, uMc, rfl⟩ := chgs_shape hM (n := 0) rfl
  obtain ⟨gM, fMc, pMa, pMc, rfl, hFM, -⟩ := kf_one kM mM
  have QM := Lib.hid hM
  have FM := Lib.hid hFM
  clear hM kM mM hFM
  clear b11
  have b12 := bl_newZ w11 (.cells #[.int .i64 1, .slice uMa 0 uMc, .bool false, .int .i64 1, .int .i64 10, .bool false, .int .i64 10] 30)
  have L8 := newQ w11 (.cells #[.int .i64 1, .slice uMa 0 uMc, .bool false, .int .i64 1, .int .i64 10, .bool false, .int .i64 10] 30)
  have hL8 : w.heap.size ≤ w11.heap.size := HB.out.size
  replace CB := Lib.hid (upQ CB.out b12)
  replace L4 := Lib.hid (upQ L4.out b12)
  replace T := Lib.hid (Tab.later T.out b12)
  replace QM := Lib.hid (Chgs.later QM.out b12)
  replace FM := Lib.hid (CellsAt.later FM.out b12)
  replace HB := Lib.hid (below2Z HB.out b12)
  clear b12
  replace L8 := Lib.hid L8
  go_upto_region 7 with fail
  generalize w11.alloc (.cells #[.int .i64 1, .slice uMa 0 uMc, .bool false, .int .i64 1, .int .i64 10, .bool false, .int .i64 10] 30) = w13 at CB L4 L8 T QM FM HB ⊢
  clear T
  go_cut [10] from 40 to 46 (fun p wx => ∃ B ua uc, p = .pointer (some ⟨B, 0, none⟩) ∧ Hid (wx.heap[B]? = some (.cells #[.int .i64 1, .slice ua 2 uc, .bool false, .int .i64 1, .int .i64 10, .bool false, .int .i64 10] 30 (0, 0))) ∧ Hid (Chgs wx (.slice ua 2 uc) [⟨[97], false, ⟨0, 0, 0, []⟩⟩, ⟨[98], false, ⟨0, 0, 0, []⟩⟩]) ∧ Hid (Below w13.heap.size w13 wx))
  case first =>
    obtain ⟨BS, hBS⟩ : ∃ BS : List (Nat × List Value), BS = [(w.heap.size, [.int .i64 2, .int .i64 2, .int .i64 1, .int .i64 5]), (w11.heap.size, [.int .i64 1, .slice uMa 0 uMc, .bool false, .int .i64 1, .int .i64 10, .bool false, .int .i64 10])] := ⟨_, rfl⟩
    have D0 := Lib.hid (show heldB w13 BS from by rw [hBS]; exact heldB_cons (cellsAt_block CB.out) (heldB_cons (cellsAt_block L8.out) (heldB_nil _)))
    have hq0 : ∀ X, heldB X BS → X.cell? ⟨w.heap.size, 0, none⟩ = some (.int .i64 2) := fun X hx => heldB_get (vs := [.int .i64 2, .int .i64 2, .int .i64 1, .int .i64 5]) hx (by rw [hBS]; simp) rfl
    have hq1 : ∀ X, heldB X BS → X.cell? ⟨w.heap.size, 1, none⟩ = some (.int .i64 2) := fun X hx => heldB_get (vs := [.int .i64 2, .int .i64 2, .int .i64 1, .int .i64 5]) hx (by rw [hBS]; simp) rfl
    have hq2 : ∀ X, heldB X BS → X.cell? ⟨w.heap.size, 2, none⟩ = some (.int .i64 1) := fun X hx => heldB_get (vs := [.int .i64 2, .int .i64 2, .int .i64 1, .int .i64 5]) hx (by rw [hBS]; simp) rfl
    have hq3 : ∀ X, heldB X BS → X.cell? ⟨w.heap.size, 3, none⟩ = some (.int .i64 5) := fun X hx => heldB_get (vs := [.int .i64 2, .int .i64 2, .int .i64 1, .int .i64 5]) hx (by rw [hBS]; simp) rfl
    have hq4 : ∀ X, heldB X BS → X.cell? ⟨w11.heap.size, 0, none⟩ = some (.int .i64 1) := fun X hx => heldB_get (vs := [.int .i64 1, .slice uMa 0 uMc, .bool false, .int .i64 1, .int .i64 10, .bool false, .int .i64 10]) hx (by rw [hBS]; simp) rfl
    have hq5 : ∀ X, heldB X BS → X.cell? ⟨w11.heap.size, 1, none⟩ = some (.slice uMa 0 uMc) := fun X hx => heldB_get (vs := [.int .i64 1, .slice uMa 0 uMc, .bool false, .int .i64 1, .int .i64 10, .bool false, .int .i64 10]) hx (by rw [hBS]; simp) rfl
    have hq6 : ∀ X, heldB X BS → X.cell? ⟨w11.heap.size, 2, none⟩ = some (.bool false) := fun X hx => heldB_get (vs := [.int .i64 1, .slice uMa 0 uMc, .bool false, .int .i64 1, .int .i64 10, .bool false, .int .i64 10]) hx (by rw [hBS]; simp) rfl
    have hq7 : ∀ X, heldB X BS → X.cell? ⟨w11.heap.size, 3, none⟩ = some (.int .i64 1) := fun X hx => heldB_get (vs := [.int .i64 1, .slice uMa 0 uMc, .bool false, .int .i64 1, .int .i64 10, .bool false, .int .i64 10]) hx (by rw [hBS]; simp) rfl
    have hq8 : ∀ X, heldB X BS → X.cell? ⟨w11.heap.size, 4, none⟩ = some (.int .i64 10) := fun X hx => heldB_get (vs := [.int .i64 1, .slice uMa 0 uMc, .bool false, .int .i64 1, .int .i64 10, .bool false, .int .i64 10]) hx (by rw [hBS]; simp) rfl
    have hq9 : ∀ X, heldB X BS → X.cell? ⟨w11.heap.size, 5, none⟩ = some (.bool false) := fun X hx => heldB_get (vs := [.int .i64 1, .slice uMa 0 uMc, .bool false, .int .i64 1, .int .i64 10, .bool false, .int .i64 10]) hx (by rw [hBS]; simp) rfl
    have hq10 : ∀ X, heldB X BS → X.cell? ⟨w11.heap.size, 6, none⟩ = some (.int .i64 10) := fun X hx => heldB_get (vs := [.int .i64 1, .slice uMa 0 uMc, .bool false, .int .i64 1, .int .i64 10, .bool false, .int .i64 10]) hx (by rw [hBS]; simp) rfl
    clear hBS
    have K0 : Hid (Below w13.heap.size w13 w13.drew) := Lib.hid (Below.refl _ _).drew
    refine wp_region_held_drew (S := (fun X => heldB X BS)) (by kernel_rfl) ?_ (fun hHeld => ?_)
    · exact heldB_up K0.out D0.out
    generalize w13.drew = z0 at K0 hHeld ⊢
    refine wpAnyH_take (i := 0) (oi := { dst := some 40, op := Op.load 23 (Operand.tmp 1), type := 23, pos := "law.go:22", after := #[], guard := none }) (v := ?_) rfl (by as_aux_lemma => kernel_rfl) (by as_aux_lemma => kernel_rfl) (by as_aux_lemma => kernel_rfl) (fun _ _ _ h => h) (Or.inl ⟨by rfl, ?_⟩) (by assumption) ?_
    rotate_left
    · intro w' hSw
      try dsimp only at hSw
      go_simp
      try with_reducible rfl
    try simp only [Act.put, List.setIfInBounds_toArray, List.set_cons_zero, List.set_cons_succ]
    refine wpAnyH_take (i := 1) (oi := { dst := some 41, op := Op.load 23 (Operand.tmp 1), type := 23, pos := "law.go:22", after := #[], guard := none }) (v := ?_) rfl (by as_aux_lemma => kernel_rfl) (by as_aux_lemma => kernel_rfl) (by as_aux_lemma => kernel_rfl) (fun _ _ _ h => h) (Or.inl ⟨by rfl, ?_⟩) (by assumption) ?_
    rotate_left
    · intro w' hSw
      try dsimp only at hSw
      go_simp
      try with_reducible rfl
    try simp only [Act.put, List.setIfInBounds_toArray, List.set_cons_zero, List.set_cons_succ]
    refine wpAnyH_take (i := 2) (oi := { dst := some 42, op := Op.load 30 (Operand.tmp 8), type := 30, pos := "law.go:22", after := #[], guard := none }) (v := ?_) rfl (by as_aux_lemma => kernel_rfl) (by as_aux_lemma => kernel_rfl) (by as_aux_lemma => kernel_rfl) (fun _ _ _ h => h) (Or.inl ⟨by rfl, ?_⟩) (by assumption) ?_
    rotate_left
    · intro w' hSw
      try dsimp only at hSw
      go_simp
      try with_reducible rfl
    try simp only [Act.put, List.setIfInBounds_toArray, List.set_cons_zero, List.set_cons_succ]
    refine wpAnyH_take (i := 3) (oi := { dst := some 43, op := Op.build 34 #[(0, Operand.const (Value.string { data := #[97] }))], type := 34, pos := "law.go:22", after := #[], guard := none }) (v := ?_) rfl (by as_aux_lemma => kernel_rfl) (by as_aux_lemma => kernel_rfl) (by as_aux_lemma => kernel_rfl) (fun _ _ _ h => h) (Or.inl ⟨by rfl, ?_⟩) (by assumption) ?_
    rotate_left
    · intro w' hSw
      try dsimp only at hSw
      go_simp
      try with_reducible rfl
    try simp only [Act.put, List.setIfInBounds_toArray, List.set_cons_zero, List.set_cons_succ]
    refine wpAnyH_take (i := 5) (oi := { dst := some 45, op := Op.build 34 #[(0, Operand.const (Value.string { data := #[98] }))], type := 34, pos := "law.go:22", after := #[], guard := none }) (v := ?_) rfl (by as_aux_lemma => kernel_rfl) (by as_aux_lemma => kernel_rfl) (by as_aux_lemma => kernel_rfl) (fun _ _ _ h => h) (Or.inl ⟨by rfl, ?_⟩) (by assumption) ?_
    rotate_left
    · intro w' hSw
      try dsimp only at hSw
      go_simp
      try with_reducible rfl
    try simp only [Act.put, List.setIfInBounds_toArray, List.set_cons_zero, List.set_cons_succ]
    refine wpAnyH_ready (rs := [4, 7]) (by as_aux_lemma => kernel_rfl) (by simp) ?_
    refine AllReadyH.cons (o := { dst := some 44, op := Op.call { callee := Callee.value (Operand.func 18), args := #[Operand.tmp 41, Operand.tmp 42, Operand.tmp 43], argTypes := #[23, 30, 34] }, type := 30, pos := "law.go:22", after := #[{ on := 1, ground := Ground.data }, { on := 2, ground := Ground.data }, { on := 3, ground := Ground.data }], guard := none }) rfl (fun Kx hK => ?_) (AllReadyH.cons (o := { dst := some 10, op := Op.alloc 30, type := 0, pos := "law.go:22", after := #[], guard := none }) rfl (fun Kx hK => ?_) (AllReadyH.nil))
    · go_simp
      refine (lpush_eq (QM.out.later K0.out) (by decide) false false 2 2 1 5 1 1 10 10 0 0 0 false [97] [] lnk_q4).mono ?_
      rintro e z1 ⟨un1, rfl, hN1, bz1⟩
      have K1 := Lib.hid (below2Z K0.out bz1)
      have D1 := Lib.hid (heldB_up K1.out D0.out)
      obtain ⟨n1a, n1c, rfl⟩ := chgs_shape hN1 (n := 1) rfl
      have N1 := Lib.hid hN1
      clear hN1
      clear bz1
      go_wp2_with fail
      refine hK.out _ _ ?_ (fun hHeld2 => ?_)
      · exact D1.out
      clear hK Kx hHeld
      have hHeld := hHeld2
      clear hHeld2
      try simp only [Act.put, List.setIfInBounds_toArray, List.set_cons_zero, List.set_cons_succ]
      refine wpAnyH_ready (rs := [6, 7]) (by as_aux_lemma => kernel_rfl) (by simp) ?_
      refine AllReadyH.cons (o := { dst := some 46, op := Op.call { callee := Callee.value (Operand.func 18), args := #[Operand.tmp 40, Operand.tmp 44, Operand.tmp 45], argTypes := #[23, 30, 34] }, type := 30, pos := "law.go:22", after := #[{ on := 0, ground := Ground.data }, { on := 4, ground := Ground.data }, { on := 5, ground := Ground.data }, { on := 4, ground := Ground.chain }], guard := none }) rfl (fun Kx hK => ?_) (AllReadyH.cons (o := { dst := some 10, op := Op.alloc 30, type := 0, pos := "law.go:22", after := #[], guard := none }) rfl (fun Kx hK => ?_) (AllReadyH.nil))
      · go_simp
        refine (lpush_eq N1.out (by decide) false false 2 2 1 5 1 1 10 10 0 0 0 false [98] [] lnk_q5).mono ?_
        rintro e z2 ⟨un2, rfl, hN2, bz2⟩
        have K2 := Lib.hid (below2Z K1.out bz2)
        have D2 := Lib.hid (heldB_up K2.out D0.out)
        replace N1 := Lib.hid (Chgs.later (N1.out) bz2)
        obtain ⟨ua, uc, rfl⟩ := chgs_shape hN2 (n := 2) rfl
        have N2 := Lib.hid hN2
        clear hN2
        clear bz2
        go_wp2_with fail
        refine hK.out _ _ ?_ (fun hHeld2 => ?_)
        · exact D2.out
        clear hK Kx hHeld
        have hHeld := hHeld2
        clear hHeld2
        try simp only [Act.put, List.setIfInBounds_toArray, List.set_cons_zero, List.set_cons_succ]
        refine wpAnyH_ready (rs := [7]) (by as_aux_lemma => kernel_rfl) (by simp) ?_
        refine AllReadyH.cons (o := { dst := some 10, op := Op.alloc 30, type := 0, pos := "law.go:22", after := #[], guard := none }) rfl (fun Kx hK => ?_) AllReadyH.nil
        go_simp
        refine hK.out _ _ ?_ (fun hHeld2 => ?_)
        · exact heldB_up (below2Z K2.out (bl_newZ _ _)) D0.out
        clear hK Kx hHeld
        have hHeld := hHeld2
        clear hHeld2
        try simp only [Act.put, List.setIfInBounds_toArray, List.set_cons_zero, List.set_cons_succ]
        have bz3 := bl_newZ z2 (.cells #[.int .i64 0, .slice none 0 0, .bool false, .int .i64 0, .int .i64 0, .bool false, .int .i64 0] 30)
        have K3 := Lib.hid (below2Z K2.out bz3)
        have D3 := Lib.hid (heldB_up K3.out D0.out)
        have nz3 := Lib.hid ((MapKept.heap_alloc z2 (.cells #[.int .i64 0, .slice none 0 0, .bool false, .int .i64 0, .int .i64 0, .bool false, .int .i64 0] 30)).1)
        have hB3 : w13.heap.size ≤ z2.heap.size := (K2.out).size
        replace N2 := Lib.hid (Chgs.later (N2.out) bz3)
        clear bz3
        generalize z2.alloc (.cells #[.int .i64 0, .slice none 0 0, .bool false, .int .i64 0, .int .i64 0, .bool false, .int .i64 0] 30) = z3 at K3 D3 nz3 N2 hHeld ⊢
        generalize z2.heap.size = B3 at nz3 hB3  ⊢
        obtain ⟨⟨r0, r1, r2, r3, r4, r5, r6⟩, ⟨g0, g1, g2, g3, g4, g5, g6⟩⟩ := blk7 nz3.out
        refine wpAnyH_ready (rs := [8]) (by as_aux_lemma => kernel_rfl) (by simp) ?_
        refine AllReadyH.cons (o := { dst := none, op := Op.store 30 (Operand.tmp 10) (Operand.tmp 46), type := 0, pos := "law.go:22", after := #[{ on := 7, ground := Ground.data }, { on := 6, ground := Ground.data }, { on := 6, ground := Ground.chain }, { on := 0, ground := Ground.phase }, { on := 1, ground := Ground.phase }, { on := 2, ground := Ground.phase }, { on := 3, ground := Ground.phase }, { on := 4, ground := Ground.phase }, { on := 5, ground := Ground.phase }, { on := 6, ground := Ground.phase }, { on := 7, ground := Ground.phase }], guard := none }) rfl (fun Kx hK => ?_) AllReadyH.nil
        go_simp
        clear r0 r1 r2 r3 r4 r5 r6 g0 g1 g2 g3 g4 g5 g6
        have YB := Lib.hid (stN7_heap nz3.out (.int .i64 1) (.slice ua 2 uc) (.bool false) (.int .i64 1) (.int .i64 10) (.bool false) (.int .i64 10))
        have KE := Lib.hid (stN7_below (K3.out) hB3 (.int .i64 1) (.slice ua 2 uc) (.bool false) (.int .i64 1) (.int .i64 10) (.bool false) (.int .i64 10))
        have UZ := Lib.hid (chgs_keep N2.out nz3.out (noLink 0 0 0 0 none 0 0 false false) (fun k hk => stN7_far z3 B3 (.int .i64 1) (.slice ua 2 uc) (.bool false) (.int .i64 1) (.int .i64 10) (.bool false) (.int .i64 10) hk) (by rw [stN7_size]; exact Nat.le_refl _))
        refine hK.out _ _ ?_ (fun hHeld2 => ?_)
        · exact heldB_up KE.out D0.out
        clear hK Kx hHeld
        have hHeld := hHeld2
        clear hHeld2
        refine wpAnyH_done (by kernel_rfl) ?_ _
        go_wp2_with fail
        go_meet
        exact ⟨B3, ua, uc, rfl, YB, UZ, KE⟩
      · go_simp
        refine hK.out _ _ ?_ (fun hHeld2 => ?_)
        · exact heldB_up (below2Z K1.out (bl_newZ _ _)) D0.out
        clear hK Kx hHeld
        have hHeld := hHeld2
        clear hHeld2
        try simp only [Act.put, List.setIfInBounds_toArray, List.set_cons_zero, List.set_cons_succ]
        have bz5 := bl_newZ z1 (.cells #[.int .i64 0, .slice none 0 0, .bool false, .int .i64 0, .int .i64 0, .bool false, .int .i64 0] 30)
        have K5 := Lib.hid (below2Z K1.out bz5)
        have D5 := Lib.hid (heldB_up K5.out D0.out)
        have nz5 := Lib.hid ((MapKept.heap_alloc z1 (.cells #[.int .i64 0, .slice none 0 0, .bool false, .int .i64 0, .int .i64 0, .bool false, .int .i64 0] 30)).1)
        have hB5 : w13.heap.size ≤ z1.heap.size := (K1.out).size
        replace N1 := Lib.hid (Chgs.later (N1.out) bz5)
        clear bz5
        generalize z1.alloc (.cells #[.int .i64 0, .slice none 0 0, .bool false, .int .i64 0, .int .i64 0, .bool false, .int .i64 0] 30) = z5 at K5 D5 nz5 N1 hHeld ⊢
        generalize z1.heap.size = B5 at nz5 hB5  ⊢
        refine wpAnyH_ready (rs := [6]) (by as_aux_lemma => kernel_rfl) (by simp) ?_
        refine AllReadyH.cons (o := { dst := some 46, op := Op.call { callee := Callee.value (Operand.func 18), args := #[Operand.tmp 40, Operand.tmp 44, Operand.tmp 45], argTypes := #[23, 30, 34] }, type := 30, pos := "law.go:22", after := #[{ on := 0, ground := Ground.data }, { on := 4, ground := Ground.data }, { on := 5, ground := Ground.data }, { on := 4, ground := Ground.chain }], guard := none }) rfl (fun Kx hK => ?_) AllReadyH.nil
        go_simp
        refine (lpush_eq N1.out (by decide) false false 2 2 1 5 1 1 10 10 0 0 0 false [98] [] lnk_q5).mono ?_
        rintro e z6 ⟨un2, rfl, hN2, bz6⟩
        have K6 := Lib.hid (below2Z K5.out bz6)
        have D6 := Lib.hid (heldB_up K6.out D0.out)
        replace N1 := Lib.hid (Chgs.later (N1.out) bz6)
        replace nz5 := Lib.hid (((bz6).block _ (Array.getElem?_eq_some_iff.1 (nz5.out)).1).trans (nz5.out))
        obtain ⟨ua, uc, rfl⟩ := chgs_shape hN2 (n := 2) rfl
        have N2 := Lib.hid hN2
        clear hN2
        clear bz6
        go_wp2_with fail
        refine hK.out _ _ ?_ (fun hHeld2 => ?_)
        · exact D6.out
        clear hK Kx hHeld
        have hHeld := hHeld2
        clear hHeld2
        try simp only [Act.put, List.setIfInBounds_toArray, List.set_cons_zero, List.set_cons_succ]
        obtain ⟨⟨r0, r1, r2, r3, r4, r5, r6⟩, ⟨g0, g1, g2, g3, g4, g5, g6⟩⟩ := blk7 nz5.out
        refine wpAnyH_ready (rs := [8]) (by as_aux_lemma => kernel_rfl) (by simp) ?_
        refine AllReadyH.cons (o := { dst := none, op := Op.store 30 (Operand.tmp 10) (Operand.tmp 46), type := 0, pos := "law.go:22", after := #[{ on := 7, ground := Ground.data }, { on := 6, ground := Ground.data }, { on := 6, ground := Ground.chain }, { on := 0, ground := Ground.phase }, { on := 1, ground := Ground.phase }, { on := 2, ground := Ground.phase }, { on := 3, ground := Ground.phase }, { on := 4, ground := Ground.phase }, { on := 5, ground := Ground.phase }, { on := 6, ground := Ground.phase }, { on := 7, ground := Ground.phase }], guard := none }) rfl (fun Kx hK => ?_) AllReadyH.nil
        go_simp
        clear r0 r1 r2 r3 r4 r5 r6 g0 g1 g2 g3 g4 g5 g6
        have YB := Lib.hid (stN7_heap nz5.out (.int .i64 1) (.slice ua 2 uc) (.bool false) (.int .i64 1) (.int .i64 10) (.bool false) (.int .i64 10))
        have KE := Lib.hid (stN7_below (K6.out) hB5 (.int .i64 1) (.slice ua 2 uc) (.bool false) (.int .i64 1) (.int .i64 10) (.bool false) (.int .i64 10))
        have UZ := Lib.hid (chgs_keep N2.out nz5.out (noLink 0 0 0 0 none 0 0 false false) (fun k hk => stN7_far z6 B5 (.int .i64 1) (.slice ua 2 uc) (.bool false) (.int .i64 1) (.int .i64 10) (.bool false) (.int .i64 10) hk) (by rw [stN7_size]; exact Nat.le_refl _))
        refine hK.out _ _ ?_ (fun hHeld2 => ?_)
        · exact heldB_up KE.out D0.out
        clear hK Kx hHeld
        have hHeld := hHeld2
        clear hHeld2
        refine wpAnyH_done (by kernel_rfl) ?_ _
        go_wp2_with fail
        go_meet
        exact ⟨B5, ua, uc, rfl, YB, UZ, KE⟩
    · go_simp
      refine hK.out _ _ ?_ (fun hHeld2 => ?_)
      · exact heldB_up (below2Z K0.out (bl_newZ _ _)) D0.out
      clear hK Kx hHeld
      have hHeld := hHeld2
      clear hHeld2
      try simp only [Act.put, List.setIfInBounds_toArray, List.set_cons_zero, List.set_cons_succ]
      have bz8 := bl_newZ z0 (.cells #[.int .i64 0, .slice none 0 0, .bool false, .int .i64 0, .int .i64 0, .bool false, .int .i64 0] 30)
      have K8 := Lib.hid (below2Z K0.out bz8)
      have D8 := Lib.hid (heldB_up K8.out D0.out)
      have nz8 := Lib.hid ((MapKept.heap_alloc z0 (.cells #[.int .i64 0, .slice none 0 0, .bool false, .int .i64 0, .int .i64 0, .bool false, .int .i64 0] 30)).1)
      have hB8 : w13.heap.size ≤ z0.heap.size := (K0.out).size
      clear bz8
      generalize z0.alloc (.cells #[.int .i64 0, .slice none 0 0, .bool false, .int .i64 0, .int .i64 0, .bool false, .int .i64 0] 30) = z8 at K8 D8 nz8 hHeld ⊢
      generalize z0.heap.size = B8 at nz8 hB8  ⊢
      refine wpAnyH_ready (rs := [4]) (by as_aux_lemma => kernel_rfl) (by simp) ?_
      refine AllReadyH.cons (o := { dst := some 44, op := Op.call { callee := Callee.value (Operand.func 18), args := #[Operand.tmp 41, Operand.tmp 42, Operand.tmp 43], argTypes := #[23, 30, 34] }, type := 30, pos := "law.go:22", after := #[{ on := 1, ground := Ground.data }, { on := 2, ground := Ground.data }, { on := 3, ground := Ground.data }], guard := none }) rfl (fun Kx hK => ?_) AllReadyH.nil
      go_simp
      refine (lpush_eq (QM.out.later K8.out) (by decide) false false 2 2 1 5 1 1 10 10 0 0 0 false [97] [] lnk_q4).mono ?_
      rintro e z9 ⟨un1, rfl, hN1, bz9⟩
      have K9 := Lib.hid (below2Z K8.out bz9)
      have D9 := Lib.hid (heldB_up K9.out D0.out)
      replace nz8 := Lib.hid (((bz9).block _ (Array.getElem?_eq_some_iff.1 (nz8.out)).1).trans (nz8.out))
      obtain ⟨n1a, n1c, rfl⟩ := chgs_shape hN1 (n := 1) rfl
      have N1 := Lib.hid hN1
      clear hN1
      clear bz9
      go_wp2_with fail
      refine hK.out _ _ ?_ (fun hHeld2 => ?_)
      · exact D9.out
      clear hK Kx hHeld
      have hHeld := hHeld2
      clear hHeld2
      try simp only [Act.put, List.setIfInBounds_toArray, List.set_cons_zero, List.set_cons_succ]
      refine wpAnyH_ready (rs := [6]) (by as_aux_lemma => kernel_rfl) (by simp) ?_
      refine AllReadyH.cons (o := { dst := some 46, op := Op.call { callee := Callee.value (Operand.func 18), args := #[Operand.tmp 40, Operand.tmp 44, Operand.tmp 45], argTypes := #[23, 30, 34] }, type := 30, pos := "law.go:22", after := #[{ on := 0, ground := Ground.data }, { on := 4, ground := Ground.data }, { on := 5, ground := Ground.data }, { on := 4, ground := Ground.chain }], guard := none }) rfl (fun Kx hK => ?_) AllReadyH.nil
      go_simp
      refine (lpush_eq N1.out (by decide) false false 2 2 1 5 1 1 10 10 0 0 0 false [98] [] lnk_q5).mono ?_
      rintro e z10 ⟨un2, rfl, hN2, bz10⟩
      have K10 := Lib.hid (below2Z K9.out bz10)
      have D10 := Lib.hid (heldB_up K10.out D0.out)
      replace nz8 := Lib.hid (((bz10).block _ (Array.getElem?_eq_some_iff.1 (nz8.out)).1).trans (nz8.out))
      replace N1 := Lib.hid (Chgs.later (N1.out) bz10)
      obtain ⟨ua, uc, rfl⟩ := chgs_shape hN2 (n := 2) rfl
      have N2 := Lib.hid hN2
      clear hN2
      clear bz10
      go_wp2_with fail
      refine hK.out _ _ ?_ (fun hHeld2 => ?_)
      · exact D10.out
      clear hK Kx hHeld
      have hHeld := hHeld2
      clear hHeld2
      try simp only [Act.put, List.setIfInBounds_toArray, List.set_cons_zero, List.set_cons_succ]
      obtain ⟨⟨r0, r1, r2, r3, r4, r5, r6⟩, ⟨g0, g1, g2, g3, g4, g5, g6⟩⟩ := blk7 nz8.out
      refine wpAnyH_ready (rs := [8]) (by as_aux_lemma => kernel_rfl) (by simp) ?_
      refine AllReadyH.cons (o := { dst := none, op := Op.store 30 (Operand.tmp 10) (Operand.tmp 46), type := 0, pos := "law.go:22", after := #[{ on := 7, ground := Ground.data }, { on := 6, ground := Ground.data }, { on := 6, ground := Ground.chain }, { on := 0, ground := Ground.phase }, { on := 1, ground := Ground.phase }, { on := 2, ground := Ground.phase }, { on := 3, ground := Ground.phase }, { on := 4, ground := Ground.phase }, { on := 5, ground := Ground.phase }, { on := 6, ground := Ground.phase }, { on := 7, ground := Ground.phase }], guard := none }) rfl (fun Kx hK => ?_) AllReadyH.nil
      go_simp
      clear r0 r1 r2 r3 r4 r5 r6 g0 g1 g2 g3 g4 g5 g6
      have YB := Lib.hid (stN7_heap nz8.out (.int .i64 1) (.slice ua 2 uc) (.bool false) (.int .i64 1) (.int .i64 10) (.bool false) (.int .i64 10))
      have KE := Lib.hid (stN7_below (K10.out) hB8 (.int .i64 1) (.slice ua 2 uc) (.bool false) (.int .i64 1) (.int .i64 10) (.bool false) (.int .i64 10))
      have UZ := Lib.hid (chgs_keep N2.out nz8.out (noLink 0 0 0 0 none 0 0 false false) (fun k hk => stN7_far z10 B8 (.int .i64 1) (.slice ua 2 uc) (.bool false) (.int .i64 1) (.int .i64 10) (.bool false) (.int .i64 10) hk) (by rw [stN7_size]; exact Nat.le_refl _))
      refine hK.out _ _ ?_ (fun hHeld2 => ?_)
      · exact heldB_up KE.out D0.out
      clear hK Kx hHeld
      have hHeld := hHeld2
      clear hHeld2
      refine wpAnyH_done (by kernel_rfl) ?_ _
      go_wp2_with fail
      go_meet
      exact ⟨B8, ua, uc, rfl, YB, UZ, KE⟩
  case rest =>
    obtain ⟨BL, nna, nnc, rfl, LN, QN, KB⟩ := hcut
    obtain ⟨w14, hw14⟩ : ∃ X, X = wc := ⟨_, rfl⟩
    subst hw14
    replace CB := Lib.hid (upQ CB.out KB.out)
    replace L4 := Lib.hid (upQ L4.out KB.out)
    replace L8 := Lib.hid (upQ L8.out KB.out)
    replace QM := Lib.hid (Chgs.later QM.out KB.out)
    replace FM := Lib.hid (CellsAt.later FM.out KB.out)
    replace HB := Lib.hid (below2Z HB.out KB.out)
    clear KB
    have L10 := LN
    clear LN
    obtain ⟨⟨CBc0, CBc1, CBc2, CBc3⟩, ⟨CBf0, CBf1, CBf2, CBf3⟩⟩ := blk4 CB.out
    obtain ⟨⟨L10c0, L10c1, L10c2, L10c3, L10c4, L10c5, L10c6⟩, ⟨L10f0, L10f1, L10f2, L10f3, L10f4, L10f5, L10f6⟩⟩ := blk7 L10.out
    go_wp2_with fail
    clear CBc0 CBc1 CBc2 CBc3 CBf0 CBf1 CBf2 CBf3 L10c0 L10c1 L10c2 L10c3 L10c4 L10c5 L10c6 L10f0 L10f1 L10f2 L10f3 L10f4 L10f5 L10f6
    refine (lemit_eq QN.out (tab_nilL _) lnk_s2 (by decide) short_nilL 2 2 1 5 1 1 10 10 10 false false lnk_q6).mono ?_
    rintro e w15 ⟨uO, fvO, psO, rfl, hO, kO, mO, b15⟩
    replace CB := Lib.hid (upQ CB.out b15)
    replace L4 := Lib.hid (upQ L4.out b15)
    replace L8 := Lib.hid (upQ L8.out b15)
    replace L10 := Lib.hid (upQ L10.out b15)
    replace QM := Lib.hid (Chgs.later QM.out b15)
    replace FM := Lib.hid (CellsAt.later FM.out b15)
    replace QN := Lib.hid (Chgs.later QN.out b15)
    replace HB := Lib.hid (below2Z HB.out b15)
    obtain ⟨uOa, uOc, rfl⟩ := chgs_shape hO (n := 1) rfl
    obtain ⟨gO, fOc, pOa, pOc, rfl, hFO, -⟩ := kf_one kO mO
    have QO := Lib.hid hO
    have FO := Lib.hid hFO
    clear hO kO mO hFO
    clear b15
    have b16 := bl_newZ w15 (.cells #[.int .i64 2, .slice uOa 1 uOc, .bool false, .int .i64 0, .int .i64 10, .bool false, .int .i64 10] 30)
    have L11 := newQ w15 (.cells #[.int .i64 2, .slice uOa 1 uOc, .bool false, .int .i64 0, .int .i64 10, .bool false, .int .i64 10] 30)
    have hL11 : w.heap.size ≤ w15.heap.size := HB.out.size
    replace CB := Lib.hid (upQ CB.out b16)
    replace L4 := Lib.hid (upQ L4.out b16)
    replace L8 := Lib.hid (upQ L8.out b16)
    replace L10 := Lib.hid (upQ L10.out b16)
    replace QM := Lib.hid (Chgs.later QM.out b16)
    replace FM := Lib.hid (CellsAt.later FM.out b16)
    replace QN := Lib.hid (Chgs.later QN.out b16)
    replace QO := Lib.hid (Chgs.later QO.out b16)
    replace FO := Lib.hid (CellsAt.later FO.out b16)
    replace HB := Lib.hid (below2Z HB.out b16)
    clear b16
    replace L11 := Lib.hid L11
    go_upto_region 9 with fail
    generalize w15.alloc (.cells #[.int .i64 2, .slice uOa 1 uOc, .bool false, .int .i64 0, .int .i64 10, .bool false, .int .i64 10] 30) = w17 at CB L4 L8 L10 L11 QM FM QN QO FO HB ⊢
    obtain ⟨⟨CBc0, CBc1, CBc2, CBc3⟩, ⟨CBf0, CBf1, CBf2, CBf3⟩⟩ := blk4 CB.out
    obtain ⟨⟨L11c0, L11c1, L11c2, L11c3, L11c4, L11c5, L11c6⟩, ⟨L11f0, L11f1, L11f2, L11f3, L11f4, L11f5, L11f6⟩⟩ := blk7 L11.out
    go_wp2_with fail
    clear CBc0 CBc1 CBc2 CBc3 CBf0 CBf1 CBf2 CBf3 L11c0 L11c1 L11c2 L11c3 L11c4 L11c5 L11c6 L11f0 L11f1 L11f2 L11f3 L11f4 L11f5 L11f6
    refine (lemit_eq QO.out (tab_nilL _) lnk_s3 (by decide) short_nilL 2 2 1 5 2 0 10 10 10 false false lnk_q7).mono ?_
    rintro e w18 ⟨uP, fvP, psP, rfl, hP, kP, mP, b18⟩
    replace CB := Lib.hid (upQ CB.out b18)
    replace L4 := Lib.hid (upQ L4.out b18)
    replace L8 := Lib.hid (upQ L8.out b18)
    replace L10 := Lib.hid (upQ L10.out b18)
    replace L11 := Lib.hid (upQ L11.out b18)
    replace QM := Lib.hid (Chgs.later QM.out b18)
    replace FM := Lib.hid (CellsAt.later FM.out b18)
    replace QN := Lib.hid (Chgs.later QN.out b18)
    replace QO := Lib.hid (Chgs.later QO.out b18)
    replace FO := Lib.hid (CellsAt.later FO.out b18)
    replace HB := Lib.hid (below2Z HB.out b18)
    obtain ⟨uPa, uPc, rfl⟩ := chgs_shape hP (n := 1) rfl
    obtain ⟨fPa, fPc, rfl⟩ := kf_zero kP mP
    have QP := Lib.hid hP
    clear hP kP mP
    clear b18
    have b19 := bl_newZ w18 (.cells #[.int .i64 2, .slice uPa 1 uPc, .bool false, .int .i64 0, .int .i64 10, .bool false, .int .i64 10] 30)
    have L13 := newQ w18 (.cells #[.int .i64 2, .slice uPa 1 uPc, .bool false, .int .i64 0, .int .i64 10, .bool false, .int .i64 10] 30)
    have hL13 : w.heap.size ≤ w18.heap.size := HB.out.size
    replace CB := Lib.hid (upQ CB.out b19)
    replace L4 := Lib.hid (upQ L4.out b19)
    replace L8 := Lib.hid (upQ L8.out b19)
    replace L10 := Lib.hid (upQ L10.out b19)
    replace L11 := Lib.hid (upQ L11.out b19)
    replace QM := Lib.hid (Chgs.later QM.out b19)
    replace FM := Lib.hid (CellsAt.later FM.out b19)
    replace QN := Lib.hid (Chgs.later QN.out b19)
    replace QO := Lib.hid (Chgs.later QO.out b19)
    replace FO := Lib.hid (CellsAt.later FO.out b19)
    replace QP := Lib.hid (Chgs.later QP.out b19)
    replace HB := Lib.hid (below2Z HB.out b19)
    clear b19
    replace L13 := Lib.hid L13
    go_upto_region 10 with fail
    generalize w18.alloc (.cells #[.int .i64 2, .slice uPa 1 uPc, .bool false, .int .i64 0, .int .i64 10, .bool false, .int .i64 10] 30) = w20 at CB L4 L8 L10 L11 L13 QM FM QN QO FO QP HB ⊢
    obtain ⟨⟨CBc0, CBc1, CBc2, CBc3⟩, ⟨CBf0, CBf1, CBf2, CBf3⟩⟩ := blk4 CB.out
    obtain ⟨⟨L11c0, L11c1, L11c2, L11c3, L11c4, L11c5, L11c6⟩, ⟨L11f0, L11f1, L11f2, L11f3, L11f4, L11f5, L11f6⟩⟩ := blk7 L11.out
    go_wp2_with fail
    clear CBc0 CBc1 CBc2 CBc3 CBf0 CBf1 CBf2 CBf3 L11c0 L11c1 L11c2 L11c3 L11c4 L11c5 L11c6 L11f0 L11f1 L11f2 L11f3 L11f4 L11f5 L11f6
    refine (lemit_eq QO.out (tab_nilL _) lnk_s3 (by decide) short_nilL 2 2 1 5 2 0 10 10 16 false false lnk_q8).mono ?_
    rintro e w21 ⟨uI, fvI, psI, rfl, hI, kI, mI, b21⟩
    replace CB := Lib.hid (upQ CB.out b21)
    replace L4 := Lib.hid (upQ L4.out b21)
    replace L8 := Lib.hid (upQ L8.out b21)
    replace L10 := Lib.hid (upQ L10.out b21)
    replace L11 := Lib.hid (upQ L11.out b21)
    replace L13 := Lib.hid (upQ L13.out b21)
    replace QM := Lib.hid (Chgs.later QM.out b21)
    replace FM := Lib.hid (CellsAt.later FM.out b21)
    replace QN := Lib.hid (Chgs.later QN.out b21)
    replace QO := Lib.hid (Chgs.later QO.out b21)
    replace FO := Lib.hid (CellsAt.later FO.out b21)
    replace QP := Lib.hid (Chgs.later QP.out b21)
    replace HB := Lib.hid (below2Z HB.out b21)
    obtain ⟨uIa, uIc, rfl⟩ := chgs_shape hI (n := 0) rfl
    obtain ⟨gI, fIc, pIa, pIc, rIa, rIc, rfl, hFI, hGI⟩ := kf_two kI mI
    have QI := Lib.hid hI
    have FI := Lib.hid hFI
    have GI := Lib.hid hGI
    clear hI kI mI hFI hGI
    clear b21
    have b22 := bl_newZ w21 (.cells #[.int .i64 4, .slice uIa 0 uIc, .bool false, .int .i64 0, .int .i64 16, .bool false, .int .i64 16] 30)
    have L15 := newQ w21 (.cells #[.int .i64 4, .slice uIa 0 uIc, .bool false, .int .i64 0, .int .i64 16, .bool false, .int .i64 16] 30)
    have hL15 : w.heap.size ≤ w21.heap.size := HB.out.size
    replace CB := Lib.hid (upQ CB.out b22)
    replace L4 := Lib.hid (upQ L4.out b22)
    replace L8 := Lib.hid (upQ L8.out b22)
    replace L10 := Lib.hid (upQ L10.out b22)
    replace L11 := Lib.hid (upQ L11.out b22)
    replace L13 := Lib.hid (upQ L13.out b22)
    replace QM := Lib.hid (Chgs.later QM.out b22)
    replace FM := Lib.hid (CellsAt.later FM.out b22)
    replace QN := Lib.hid (Chgs.later QN.out b22)
    replace QO := Lib.hid (Chgs.later QO.out b22)
    replace FO := Lib.hid (CellsAt.later FO.out b22)
    replace QP := Lib.hid (Chgs.later QP.out b22)
    replace QI := Lib.hid (Chgs.later QI.out b22)
    replace FI := Lib.hid (CellsAt.later FI.out b22)
    replace GI := Lib.hid (CellsAt.later GI.out b22)
    replace HB := Lib.hid (below2Z HB.out b22)
    clear b22
    replace L15 := Lib.hid L15
    go_upto_region 11 with fail
    generalize w21.alloc (.cells #[.int .i64 4, .slice uIa 0 uIc, .bool false, .int .i64 0, .int .i64 16, .bool false, .int .i64 16] 30) = w23 at CB L4 L8 L10 L11 L13 L15 QM FM QN QO FO QP QI FI GI HB ⊢
    obtain ⟨⟨CBc0, CBc1, CBc2, CBc3⟩, ⟨CBf0, CBf1, CBf2, CBf3⟩⟩ := blk4 CB.out
    obtain ⟨⟨L10c0, L10c1, L10c2, L10c3, L10c4, L10c5, L10c6⟩, ⟨L10f0, L10f1, L10f2, L10f3, L10f4, L10f5, L10f6⟩⟩ := blk7 L10.out
    go_wp2_with fail
    clear CBc0 CBc1 CBc2 CBc3 CBf0 CBf1 CBf2 CBf3 L10c0 L10c1 L10c2 L10c3 L10c4 L10c5 L10c6 L10f0 L10f1 L10f2 L10f3 L10f4 L10f5 L10f6
    refine (lpush_eq QN.out (by decide) false false 2 2 1 5 1 1 10 10 0 0 0 false [99] [] lnk_q9).mono ?_
    rintro e w24 ⟨uR, rfl, hR, b24⟩
    replace CB := Lib.hid (upQ CB.out b24)
    replace L4 := Lib.hid (upQ L4.out b24)
    replace L8 := Lib.hid (upQ L8.out b24)
    replace L10 := Lib.hid (upQ L10.out b24)
    replace L11 := Lib.hid (upQ L11.out b24)
    replace L13 := Lib.hid (upQ L13.out b24)
    replace L15 := Lib.hid (upQ L15.out b24)
    replace QM := Lib.hid (Chgs.later QM.out b24)
    replace FM := Lib.hid (CellsAt.later FM.out b24)
    replace QN := Lib.hid (Chgs.later QN.out b24)
    replace QO := Lib.hid (Chgs.later QO.out b24)
    replace FO := Lib.hid (CellsAt.later FO.out b24)
    replace QP := Lib.hid (Chgs.later QP.out b24)
    replace QI := Lib.hid (Chgs.later QI.out b24)
    replace FI := Lib.hid (CellsAt.later FI.out b24)
    replace GI := Lib.hid (CellsAt.later GI.out b24)
    replace HB := Lib.hid (below2Z HB.out b24)
    obtain ⟨uRa, uRc, rfl⟩ := chgs_shape hR (n := 0) rfl
    clear hR
    clear b24
    have b25 := bl_newZ w24 (.cells #[.int .i64 1, .slice uRa 0 uRc, .bool false, .int .i64 1, .int .i64 10, .bool true, .int .i64 10] 30)
    have L17 := newQ w24 (.cells #[.int .i64 1, .slice uRa 0 uRc, .bool false, .int .i64 1, .int .i64 10, .bool true, .int .i64 10] 30)
    have hL17 : w.heap.size ≤ w24.heap.size := HB.out.size
    replace CB := Lib.hid (upQ CB.out b25)
    replace L4 := Lib.hid (upQ L4.out b25)
    replace L8 := Lib.hid (upQ L8.out b25)
    replace L10 := Lib.hid (upQ L10.out b25)
    replace L11 := Lib.hid (upQ L11.out b25)
    replace L13 := Lib.hid (upQ L13.out b25)
    replace L15 := Lib.hid (upQ L15.out b25)
    replace QM := Lib.hid (Chgs.later QM.out b25)
    replace FM := Lib.hid (CellsAt.later FM.out b25)
    replace QN := Lib.hid (Chgs.later QN.out b25)
    replace QO := Lib.hid (Chgs.later QO.out b25)
    replace FO := Lib.hid (CellsAt.later FO.out b25)
    replace QP := Lib.hid (Chgs.later QP.out b25)
    replace QI := Lib.hid (Chgs.later QI.out b25)
    replace FI := Lib.hid (CellsAt.later FI.out b25)
    replace GI := Lib.hid (CellsAt.later GI.out b25)
    replace HB := Lib.hid (below2Z HB.out b25)
    clear b25
    replace L17 := Lib.hid L17
    go_upto_region 12 with fail
    generalize w24.alloc (.cells #[.int .i64 1, .slice uRa 0 uRc, .bool false, .int .i64 1, .int .i64 10, .bool true, .int .i64 10] 30) = w26 at CB L4 L8 L10 L11 L13 L15 L17 QM FM QN QO FO QP QI FI GI HB ⊢
    clear L10
    clear QN QM
    obtain ⟨⟨CBc0, CBc1, CBc2, CBc3⟩, ⟨CBf0, CBf1, CBf2, CBf3⟩⟩ := blk4 CB.out
    obtain ⟨⟨L4c0, L4c1, L4c2, L4c3, L4c4, L4c5, L4c6⟩, ⟨L4f0, L4f1, L4f2, L4f3, L4f4, L4f5, L4f6⟩⟩ := blk7 L4.out
    obtain ⟨⟨L8c0, L8c1, L8c2, L8c3, L8c4, L8c5, L8c6⟩, ⟨L8f0, L8f1, L8f2, L8f3, L8f4, L8f5, L8f6⟩⟩ := blk7 L8.out
    obtain ⟨⟨L11c0, L11c1, L11c2, L11c3, L11c4, L11c5, L11c6⟩, ⟨L11f0, L11f1, L11f2, L11f3, L11f4, L11f5, L11f6⟩⟩ := blk7 L11.out
    obtain ⟨⟨L13c0, L13c1, L13c2, L13c3, L13c4, L13c5, L13c6⟩, ⟨L13f0, L13f1, L13f2, L13f3, L13f4, L13f5, L13f6⟩⟩ := blk7 L13.out
    obtain ⟨⟨L15c0, L15c1, L15c2, L15c3, L15c4, L15c5, L15c6⟩, ⟨L15f0, L15f1, L15f2, L15f3, L15f4, L15f5, L15f6⟩⟩ := blk7 L15.out
    obtain ⟨⟨L17c0, L17c1, L17c2, L17c3, L17c4, L17c5, L17c6⟩, ⟨L17f0, L17f1, L17f2, L17f3, L17f4, L17f5, L17f6⟩⟩ := blk7 L17.out
    have fc0 : w26.cell? ⟨gM, 0, none⟩ = some (.int .i64 3) := FM.out 0 _ rfl
    have fc1 : w26.cell? ⟨gM, 9, none⟩ = some (.slice pMa 1 pMc) := FM.out 9 _ rfl
    have fc2 : w26.cell? ⟨gO, 0, none⟩ = some (.int .i64 1) := FO.out 0 _ rfl
    have fc3 : w26.cell? ⟨gO, 3, none⟩ = some (.string ⟨#[97]⟩) := FO.out 3 _ rfl
    have fc4 : w26.cell? ⟨gO, 1, none⟩ = some (.int .i64 1) := FO.out 1 _ rfl
    have fc5 : w26.cell? ⟨gI, 3, none⟩ = some (.string ⟨#[98]⟩) := FI.out 3 _ rfl
    have fc6 : w26.cell? ⟨gI, 10, none⟩ = some (.int .i64 2) := GI.out 0 _ rfl
    have fc7 : w26.cell? ⟨gI, 11, none⟩ = some (.int .i64 3) := GI.out 1 _ rfl
    go_wp2_with fail
    clear CBc0 CBc1 CBc2 CBc3 CBf0 CBf1 CBf2 CBf3 L4c0 L4c1 L4c2 L4c3 L4c4 L4c5 L4c6 L4f0 L4f1 L4f2 L4f3 L4f4 L4f5 L4f6 L8c0 L8c1 L8c2 L8c3 L8c4 L8c5 L8c6 L8f0 L8f1 L8f2 L8f3 L8f4 L8f5 L8f6 L11c0 L11c1 L11c2 L11c3 L11c4 L11c5 L11c6 L11f0 L11f1 L11f2 L11f3 L11f4 L11f5 L11f6 L13c0 L13c1 L13c2 L13c3 L13c4 L13c5 L13c6 L13f0 L13f1 L13f2 L13f3 L13f4 L13f5 L13f6 L15c0 L15c1 L15c2 L15c3 L15c4 L15c5 L15c6 L15f0 L15f1 L15f2 L15f3 L15f4 L15f5 L15f6 L17c0 L17c1 L17c2 L17c3 L17c4 L17c5 L17c6 L17f0 L17f1 L17f2 L17f3 L17f4 L17f5 L17f6 fc0 fc1 fc2 fc3 fc4 fc5 fc6 fc7
    refine (rlsame_yes QO.out QP.out false false 2 0 10 10).mono ?_
    rintro e w27 ⟨rfl, b27⟩
    replace CB := Lib.hid (upQ CB.out b27)
    replace L4 := Lib.hid (upQ L4.out b27)
    replace L8 := Lib.hid (upQ L8.out b27)
    replace L11 := Lib.hid (upQ L11.out b27)
    replace L13 := Lib.hid (upQ L13.out b27)
    replace L15 := Lib.hid (upQ L15.out b27)
    replace L17 := Lib.hid (upQ L17.out b27)
    replace FM := Lib.hid (CellsAt.later FM.out b27)
    replace QO := Lib.hid (Chgs.later QO.out b27)
    replace FO := Lib.hid (CellsAt.later FO.out b27)
    replace QP := Lib.hid (Chgs.later QP.out b27)
    replace QI := Lib.hid (Chgs.later QI.out b27)
    replace FI := Lib.hid (CellsAt.later FI.out b27)
    replace GI := Lib.hid (CellsAt.later GI.out b27)
    replace HB := Lib.hid (below2Z HB.out b27)
    clear b27
    obtain ⟨⟨CBc0, CBc1, CBc2, CBc3⟩, ⟨CBf0, CBf1, CBf2, CBf3⟩⟩ := blk4 CB.out
    obtain ⟨⟨L4c0, L4c1, L4c2, L4c3, L4c4, L4c5, L4c6⟩, ⟨L4f0, L4f1, L4f2, L4f3, L4f4, L4f5, L4f6⟩⟩ := blk7 L4.out
    obtain ⟨⟨L8c0, L8c1, L8c2, L8c3, L8c4, L8c5, L8c6⟩, ⟨L8f0, L8f1, L8f2, L8f3, L8f4, L8f5, L8f6⟩⟩ := blk7 L8.out
    obtain ⟨⟨L11c0, L11c1, L11c2, L11c3, L11c4, L11c5, L11c6⟩, ⟨L11f0, L11f1, L11f2, L11f3, L11f4, L11f5, L11f6⟩⟩ := blk7 L11.out
    obtain ⟨⟨L13c0, L13c1, L13c2, L13c3, L13c4, L13c5, L13c6⟩, ⟨L13f0, L13f1, L13f2, L13f3, L13f4, L13f5, L13f6⟩⟩ := blk7 L13.out
    obtain ⟨⟨L15c0, L15c1, L15c2, L15c3, L15c4, L15c5, L15c6⟩, ⟨L15f0, L15f1, L15f2, L15f3, L15f4, L15f5, L15f6⟩⟩ := blk7 L15.out
    obtain ⟨⟨L17c0, L17c1, L17c2, L17c3, L17c4, L17c5, L17c6⟩, ⟨L17f0, L17f1, L17f2, L17f3, L17f4, L17f5, L17f6⟩⟩ := blk7 L17.out
    have fc0 : w27.cell? ⟨gM, 0, none⟩ = some (.int .i64 3) := FM.out 0 _ rfl
    have fc1 : w27.cell? ⟨gM, 9, none⟩ = some (.slice pMa 1 pMc) := FM.out 9 _ rfl
    have fc2 : w27.cell? ⟨gO, 0, none⟩ = some (.int .i64 1) := FO.out 0 _ rfl
    have fc3 : w27.cell? ⟨gO, 3, none⟩ = some (.string ⟨#[97]⟩) := FO.out 3 _ rfl
    have fc4 : w27.cell? ⟨gO, 1, none⟩ = some (.int .i64 1) := FO.out 1 _ rfl
    have fc5 : w27.cell? ⟨gI, 3, none⟩ = some (.string ⟨#[98]⟩) := FI.out 3 _ rfl
    have fc6 : w27.cell? ⟨gI, 10, none⟩ = some (.int .i64 2) := GI.out 0 _ rfl
    have fc7 : w27.cell? ⟨gI, 11, none⟩ = some (.int .i64 3) := GI.out 1 _ rfl
    go_wp2_with fail
    clear CBc0 CBc1 CBc2 CBc3 CBf0 CBf1 CBf2 CBf3 L4c0 L4c1 L4c2 L4c3 L4c4 L4c5 L4c6 L4f0 L4f1 L4f2 L4f3 L4f4 L4f5 L4f6 L8c0 L8c1 L8c2 L8c3 L8c4 L8c5 L8c6 L8f0 L8f1 L8f2 L8f3 L8f4 L8f5 L8f6 L11c0 L11c1 L11c2 L11c3 L11c4 L11c5 L11c6 L11f0 L11f1 L11f2 L11f3 L11f4 L11f5 L11f6 L13c0 L13c1 L13c2 L13c3 L13c4 L13c5 L13c6 L13f0 L13f1 L13f2 L13f3 L13f4 L13f5 L13f6 L15c0 L15c1 L15c2 L15c3 L15c4 L15c5 L15c6 L15f0 L15f1 L15f2 L15f3 L15f4 L15f5 L15f6 L17c0 L17c1 L17c2 L17c3 L17c4 L17c5 L17c6 L17f0 L17f1 L17f2 L17f3 L17f4 L17f5 L17f6 fc0 fc1 fc2 fc3 fc4 fc5 fc6 fc7
    refine (lquiet_any QI.out false false 4 0 16 16 lnk_q10).mono ?_
    rintro e w28 ⟨rfl, b28⟩
    replace CB := Lib.hid (upQ CB.out b28)
    replace L4 := Lib.hid (upQ L4.out b28)
    replace L8 := Lib.hid (upQ L8.out b28)
    replace L11 := Lib.hid (upQ L11.out b28)
    replace L13 := Lib.hid (upQ L13.out b28)
    replace L15 := Lib.hid (upQ L15.out b28)
    replace L17 := Lib.hid (upQ L17.out b28)
    replace FM := Lib.hid (CellsAt.later FM.out b28)
    replace QO := Lib.hid (Chgs.later QO.out b28)
    replace FO := Lib.hid (CellsAt.later FO.out b28)
    replace QP := Lib.hid (Chgs.later QP.out b28)
    replace QI := Lib.hid (Chgs.later QI.out b28)
    replace FI := Lib.hid (CellsAt.later FI.out b28)
    replace GI := Lib.hid (CellsAt.later GI.out b28)
    replace HB := Lib.hid (below2Z HB.out b28)
    clear b28
    obtain ⟨⟨CBc0, CBc1, CBc2, CBc3⟩, ⟨CBf0, CBf1, CBf2, CBf3⟩⟩ := blk4 CB.out
    obtain ⟨⟨L4c0, L4c1, L4c2, L4c3, L4c4, L4c5, L4c6⟩, ⟨L4f0, L4f1, L4f2, L4f3, L4f4, L4f5, L4f6⟩⟩ := blk7 L4.out
    obtain ⟨⟨L8c0, L8c1, L8c2, L8c3, L8c4, L8c5, L8c6⟩, ⟨L8f0, L8f1, L8f2, L8f3, L8f4, L8f5, L8f6⟩⟩ := blk7 L8.out
    obtain ⟨⟨L11c0, L11c1, L11c2, L11c3, L11c4, L11c5, L11c6⟩, ⟨L11f0, L11f1, L11f2, L11f3, L11f4, L11f5, L11f6⟩⟩ := blk7 L11.out
    obtain ⟨⟨L13c0, L13c1, L13c2, L13c3, L13c4, L13c5, L13c6⟩, ⟨L13f0, L13f1, L13f2, L13f3, L13f4, L13f5, L13f6⟩⟩ := blk7 L13.out
    obtain ⟨⟨L15c0, L15c1, L15c2, L15c3, L15c4, L15c5, L15c6⟩, ⟨L15f0, L15f1, L15f2, L15f3, L15f4, L15f5, L15f6⟩⟩ := blk7 L15.out
    obtain ⟨⟨L17c0, L17c1, L17c2, L17c3, L17c4, L17c5, L17c6⟩, ⟨L17f0, L17f1, L17f2, L17f3, L17f4, L17f5, L17f6⟩⟩ := blk7 L17.out
    have fc0 : w28.cell? ⟨gM, 0, none⟩ = some (.int .i64 3) := FM.out 0 _ rfl
    have fc1 : w28.cell? ⟨gM, 9, none⟩ = some (.slice pMa 1 pMc) := FM.out 9 _ rfl
    have fc2 : w28.cell? ⟨gO, 0, none⟩ = some (.int .i64 1) := FO.out 0 _ rfl
    have fc3 : w28.cell? ⟨gO, 3, none⟩ = some (.string ⟨#[97]⟩) := FO.out 3 _ rfl
    have fc4 : w28.cell? ⟨gO, 1, none⟩ = some (.int .i64 1) := FO.out 1 _ rfl
    have fc5 : w28.cell? ⟨gI, 3, none⟩ = some (.string ⟨#[98]⟩) := FI.out 3 _ rfl
    have fc6 : w28.cell? ⟨gI, 10, none⟩ = some (.int .i64 2) := GI.out 0 _ rfl
    have fc7 : w28.cell? ⟨gI, 11, none⟩ = some (.int .i64 3) := GI.out 1 _ rfl
    go_wp2_with fail
    clear CBc0 CBc1 CBc2 CBc3 CBf0 CBf1 CBf2 CBf3 L4c0 L4c1 L4c2 L4c3 L4c4 L4c5 L4c6 L4f0 L4f1 L4f2 L4f3 L4f4 L4f5 L4f6 L8c0 L8c1 L8c2 L8c3 L8c4 L8c5 L8c6 L8f0 L8f1 L8f2 L8f3 L8f4 L8f5 L8f6 L11c0 L11c1 L11c2 L11c3 L11c4 L11c5 L11c6 L11f0 L11f1 L11f2 L11f3 L11f4 L11f5 L11f6 L13c0 L13c1 L13c2 L13c3 L13c4 L13c5 L13c6 L13f0 L13f1 L13f2 L13f3 L13f4 L13f5 L13f6 L15c0 L15c1 L15c2 L15c3 L15c4 L15c5 L15c6 L15f0 L15f1 L15f2 L15f3 L15f4 L15f5 L15f6 L17c0 L17c1 L17c2 L17c3 L17c4 L17c5 L17c6 L17f0 L17f1 L17f2 L17f3 L17f4 L17f5 L17f6 fc0 fc1 fc2 fc3 fc4 fc5 fc6 fc7
    refine (lquiet_any QO.out false false 2 0 10 10 lnk_q11).mono ?_
    rintro e w29 ⟨rfl, b29⟩
    replace CB := Lib.hid (upQ CB.out b29)
    replace L4 := Lib.hid (upQ L4.out b29)
    replace L8 := Lib.hid (upQ L8.out b29)
    replace L11 := Lib.hid (upQ L11.out b29)
    replace L13 := Lib.hid (upQ L13.out b29)
    replace L15 := Lib.hid (upQ L15.out b29)
    replace L17 := Lib.hid (upQ L17.out b29)
    replace FM := Lib.hid (CellsAt.later FM.out b29)
    replace QO := Lib.hid (Chgs.later QO.out b29)
    replace FO := Lib.hid (CellsAt.later FO.out b29)
    replace QP := Lib.hid (Chgs.later QP.out b29)
    replace QI := Lib.hid (Chgs.later QI.out b29)
    replace FI := Lib.hid (CellsAt.later FI.out b29)
    replace GI := Lib.hid (CellsAt.later GI.out b29)
    replace HB := Lib.hid (below2Z HB.out b29)
    clear b29
    obtain ⟨⟨CBc0, CBc1, CBc2, CBc3⟩, ⟨CBf0, CBf1, CBf2, CBf3⟩⟩ := blk4 CB.out
    obtain ⟨⟨L4c0, L4c1, L4c2, L4c3, L4c4, L4c5, L4c6⟩, ⟨L4f0, L4f1, L4f2, L4f3, L4f4, L4f5, L4f6⟩⟩ := blk7 L4.out
    obtain ⟨⟨L8c0, L8c1, L8c2, L8c3, L8c4, L8c5, L8c6⟩, ⟨L8f0, L8f1, L8f2, L8f3, L8f4, L8f5, L8f6⟩⟩ := blk7 L8.out
    obtain ⟨⟨L11c0, L11c1, L11c2, L11c3, L11c4, L11c5, L11c6⟩, ⟨L11f0, L11f1, L11f2, L11f3, L11f4, L11f5, L11f6⟩⟩ := blk7 L11.out
    obtain ⟨⟨L13c0, L13c1, L13c2, L13c3, L13c4, L13c5, L13c6⟩, ⟨L13f0, L13f1, L13f2, L13f3, L13f4, L13f5, L13f6⟩⟩ := blk7 L13.out
    obtain ⟨⟨L15c0, L15c1, L15c2, L15c3, L15c4, L15c5, L15c6⟩, ⟨L15f0, L15f1, L15f2, L15f3, L15f4, L15f5, L15f6⟩⟩ := blk7 L15.out
    obtain ⟨⟨L17c0, L17c1, L17c2, L17c3, L17c4, L17c5, L17c6⟩, ⟨L17f0, L17f1, L17f2, L17f3, L17f4, L17f5, L17f6⟩⟩ := blk7 L17.out
    have fc0 : w29.cell? ⟨gM, 0, none⟩ = some (.int .i64 3) := FM.out 0 _ rfl
    have fc1 : w29.cell? ⟨gM, 9, none⟩ = some (.slice pMa 1 pMc) := FM.out 9 _ rfl
    have fc2 : w29.cell? ⟨gO, 0, none⟩ = some (.int .i64 1) := FO.out 0 _ rfl
    have fc3 : w29.cell? ⟨gO, 3, none⟩ = some (.string ⟨#[97]⟩) := FO.out 3 _ rfl
    have fc4 : w29.cell? ⟨gO, 1, none⟩ = some (.int .i64 1) := FO.out 1 _ rfl
    have fc5 : w29.cell? ⟨gI, 3, none⟩ = some (.string ⟨#[98]⟩) := FI.out 3 _ rfl
    have fc6 : w29.cell? ⟨gI, 10, none⟩ = some (.int .i64 2) := GI.out 0 _ rfl
    have fc7 : w29.cell? ⟨gI, 11, none⟩ = some (.int .i64 3) := GI.out 1 _ rfl
    go_wp2_with fail
    clear CBc0 CBc1 CBc2 CBc3 CBf0 CBf1 CBf2 CBf3 L4c0 L4c1 L4c2 L4c3 L4c4 L4c5 L4c6 L4f0 L4f1 L4f2 L4f3 L4f4 L4f5 L4f6 L8c0 L8c1 L8c2 L8c3 L8c4 L8c5 L8c6 L8f0 L8f1 L8f2 L8f3 L8f4 L8f5 L8f6 L11c0 L11c1 L11c2 L11c3 L11c4 L11c5 L11c6 L11f0 L11f1 L11f2 L11f3 L11f4 L11f5 L11f6 L13c0 L13c1 L13c2 L13c3 L13c4 L13c5 L13c6 L13f0 L13f1 L13f2 L13f3 L13f4 L13f5 L13f6 L15c0 L15c1 L15c2 L15c3 L15c4 L15c5 L15c6 L15f0 L15f1 L15f2 L15f3 L15f4 L15f5 L15f6 L17c0 L17c1 L17c2 L17c3 L17c4 L17c5 L17c6 L17f0 L17f1 L17f2 L17f3 L17f4 L17f5 L17f6 fc0 fc1 fc2 fc3 fc4 fc5 fc6 fc7
    refine (lmay_any QI.out shortC_nilL (by decide) false false 4 0 16 16 2 2 1 5 lnk_q12).mono ?_
    rintro e w30 ⟨rfl, b30⟩
    replace CB := Lib.hid (upQ CB.out b30)
    replace L4 := Lib.hid (upQ L4.out b30)
    replace L8 := Lib.hid (upQ L8.out b30)
    replace L11 := Lib.hid (upQ L11.out b30)
    replace L13 := Lib.hid (upQ L13.out b30)
    replace L15 := Lib.hid (upQ L15.out b30)
    replace L17 := Lib.hid (upQ L17.out b30)
    replace FM := Lib.hid (CellsAt.later FM.out b30)
    replace QO := Lib.hid (Chgs.later QO.out b30)
    replace FO := Lib.hid (CellsAt.later FO.out b30)
    replace QP := Lib.hid (Chgs.later QP.out b30)
    replace QI := Lib.hid (Chgs.later QI.out b30)
    replace FI := Lib.hid (CellsAt.later FI.out b30)
    replace GI := Lib.hid (CellsAt.later GI.out b30)
    replace HB := Lib.hid (below2Z HB.out b30)
    clear b30
    obtain ⟨⟨CBc0, CBc1, CBc2, CBc3⟩, ⟨CBf0, CBf1, CBf2, CBf3⟩⟩ := blk4 CB.out
    obtain ⟨⟨L4c0, L4c1, L4c2, L4c3, L4c4, L4c5, L4c6⟩, ⟨L4f0, L4f1, L4f2, L4f3, L4f4, L4f5, L4f6⟩⟩ := blk7 L4.out
    obtain ⟨⟨L8c0, L8c1, L8c2, L8c3, L8c4, L8c5, L8c6⟩, ⟨L8f0, L8f1, L8f2, L8f3, L8f4, L8f5, L8f6⟩⟩ := blk7 L8.out
    obtain ⟨⟨L11c0, L11c1, L11c2, L11c3, L11c4, L11c5, L11c6⟩, ⟨L11f0, L11f1, L11f2, L11f3, L11f4, L11f5, L11f6⟩⟩ := blk7 L11.out
    obtain ⟨⟨L13c0, L13c1, L13c2, L13c3, L13c4, L13c5, L13c6⟩, ⟨L13f0, L13f1, L13f2, L13f3, L13f4, L13f5, L13f6⟩⟩ := blk7 L13.out
    obtain ⟨⟨L15c0, L15c1, L15c2, L15c3, L15c4, L15c5, L15c6⟩, ⟨L15f0, L15f1, L15f2, L15f3, L15f4, L15f5, L15f6⟩⟩ := blk7 L15.out
    obtain ⟨⟨L17c0, L17c1, L17c2, L17c3, L17c4, L17c5, L17c6⟩, ⟨L17f0, L17f1, L17f2, L17f3, L17f4, L17f5, L17f6⟩⟩ := blk7 L17.out
    have fc0 : w30.cell? ⟨gM, 0, none⟩ = some (.int .i64 3) := FM.out 0 _ rfl
    have fc1 : w30.cell? ⟨gM, 9, none⟩ = some (.slice pMa 1 pMc) := FM.out 9 _ rfl
    have fc2 : w30.cell? ⟨gO, 0, none⟩ = some (.int .i64 1) := FO.out 0 _ rfl
    have fc3 : w30.cell? ⟨gO, 3, none⟩ = some (.string ⟨#[97]⟩) := FO.out 3 _ rfl
    have fc4 : w30.cell? ⟨gO, 1, none⟩ = some (.int .i64 1) := FO.out 1 _ rfl
    have fc5 : w30.cell? ⟨gI, 3, none⟩ = some (.string ⟨#[98]⟩) := FI.out 3 _ rfl
    have fc6 : w30.cell? ⟨gI, 10, none⟩ = some (.int .i64 2) := GI.out 0 _ rfl
    have fc7 : w30.cell? ⟨gI, 11, none⟩ = some (.int .i64 3) := GI.out 1 _ rfl
    go_wp2_with fail
    clear CBc0 CBc1 CBc2 CBc3 CBf0 CBf1 CBf2 CBf3 L4c0 L4c1 L4c2 L4c3 L4c4 L4c5 L4c6 L4f0 L4f1 L4f2 L4f3 L4f4 L4f5 L4f6 L8c0 L8c1 L8c2 L8c3 L8c4 L8c5 L8c6 L8f0 L8f1 L8f2 L8f3 L8f4 L8f5 L8f6 L11c0 L11c1 L11c2 L11c3 L11c4 L11c5 L11c6 L11f0 L11f1 L11f2 L11f3 L11f4 L11f5 L11f6 L13c0 L13c1 L13c2 L13c3 L13c4 L13c5 L13c6 L13f0 L13f1 L13f2 L13f3 L13f4 L13f5 L13f6 L15c0 L15c1 L15c2 L15c3 L15c4 L15c5 L15c6 L15f0 L15f1 L15f2 L15f3 L15f4 L15f5 L15f6 L17c0 L17c1 L17c2 L17c3 L17c4 L17c5 L17c6 L17f0 L17f1 L17f2 L17f3 L17f4 L17f5 L17f6 fc0 fc1 fc2 fc3 fc4 fc5 fc6 fc7
    refine (lmay_any (chgs_nil _) shortC_nilL (by decide) false false (-1) 0 0 0 2 2 1 5 lnk_q13).mono ?_
    rintro e w31 ⟨rfl, b31⟩
    replace CB := Lib.hid (upQ CB.out b31)
    replace L4 := Lib.hid (upQ L4.out b31)
    replace L8 := Lib.hid (upQ L8.out b31)
    replace L11 := Lib.hid (upQ L11.out b31)
    replace L13 := Lib.hid (upQ L13.out b31)
    replace L15 := Lib.hid (upQ L15.out b31)
    replace L17 := Lib.hid (upQ L17.out b31)
    replace FM := Lib.hid (CellsAt.later FM.out b31)
    replace QO := Lib.hid (Chgs.later QO.out b31)
    replace FO := Lib.hid (CellsAt.later FO.out b31)
    replace QP := Lib.hid (Chgs.later QP.out b31)
    replace QI := Lib.hid (Chgs.later QI.out b31)
    replace FI := Lib.hid (CellsAt.later FI.out b31)
    replace GI := Lib.hid (CellsAt.later GI.out b31)
    replace HB := Lib.hid (below2Z HB.out b31)
    clear b31
    go_wp2_with fail
    go_ret
    exact ⟨rfl, HB.out⟩

end Go.Proofs.YtndicdomdndjaaaGreat
