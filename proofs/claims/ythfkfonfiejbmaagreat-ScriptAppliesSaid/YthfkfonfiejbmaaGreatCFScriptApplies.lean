/-
  THE PROOF OF ScriptApplies: for every input the law returns true, and each argument reads behind the call as it read before. No condition.
-/
import Derived.Test.YthfkfonfiejbmaaGreatC14
import Derived.Test.YthfkfonfiejbmaaGreatC20
import Derived.Test.YthfkfonfiejbmaaGreatC19
import Derived.Test.YthfkfonfiejbmaaGreatC09
import Derived.Test.YthfkfonfiejbmaaGreatC08
import Derived.Test.YthfkfonfiejbmaaGreatRows
import Derived.ProofKit
import Derived.OpenShut
import Derived.ShutString
import Derived.ChangeOld
import Derived.SliceStrings
import Derived.Lib.SmallJoins

section

/-
  THE WALK OF ScriptApplies.
-/
namespace Go.Proofs.YthfkfonfiejbmaaGreat
open Go.RowKit

theorem ro_suMay {l : List Ent} (h : RoM l) (u o : List UInt8) : suMay (roIt l u o) (roIt l o u) = true := by
  by_cases h1 : ∃ f ∈ l, f.o = u ∧ f.c = o
  · obtain ⟨f, hf, rfl, rfl⟩ := h1
    obtain ⟨_, _, _, _, g, hg, h2, h3, h4, _⟩ := h.2 f hf
    rw [roIt_mem h.1 hf, ← h2, ← h3, roIt_mem h.1 hg]
    exact h4
  · by_cases h2 : ∃ f ∈ l, f.o = o ∧ f.c = u
    · obtain ⟨f, hf, rfl, rfl⟩ := h2
      obtain ⟨_, _, _, _, g, hg, h3, h4, _⟩ := h.2 f hf
      exact absurd ⟨g, hg, h3, h4⟩ h1
    · rw [roIt_none (fun e he h => h1 ⟨e, he, h⟩), roIt_none (fun e he h => h2 ⟨e, he, h⟩)]
      decide

theorem suAct_arg {a b x y : It} {k : Int} {e : Nat} (hm : suMay a b = true) (h1 : 1 ≤ k) (h6 : k ≤ 6) (h : suAct a b k = (x, y, e)) : e ≠ 1 := by
  unfold suAct at h
  rw [if_pos ⟨hm, h1, h6⟩] at h
  unfold suDo at h
  repeat' split at h
  all_goals (simp only [Prod.mk.injEq] at h; obtain ⟨_, _, h3⟩ := h; omega)

/-- Beside ErrArg an event that may be has one user for both. -/
theorem stApply_arg {t t' : Sta} {e : Ev} {n : Nat} (hm : stMay t = true) (he : scMay e = true) (h : stApply t e = (t', n)) : n ≠ 1 ∨ e.u = e.o := by
  have hro : roMayC t.e = true := by unfold stMay at hm; rw [Bool.and_eq_true] at hm; exact hm.1
  have hse : seMay t.s = true := by unfold stMay at hm; rw [Bool.and_eq_true] at hm; exact hm.2
  rcases scMay_kinds he with ⟨k1, k6, hu, ho, hi, hv⟩ | ⟨k7, hu, ho, i0, i4, hv⟩ | ⟨k8, hu, ho, i0, i4, hv⟩
  · by_cases huo : e.u = e.o
    · exact .inr huo
    · refine .inl ?_
      obtain ⟨m, n2, hd⟩ : ∃ m n, roDo t.e e.k e.u e.o = (m, n) := ⟨_, _, rfl⟩
      rw [stApply_do hm k1 k6 hd] at h
      simp only [Prod.mk.injEq] at h
      obtain ⟨_, rfl⟩ := h
      unfold roDo at hd
      rw [if_pos (by simp [hro, hu, ho, huo, k1, k6])] at hd
      obtain ⟨a, b, er, hs⟩ : ∃ a b er, suAct (roIt t.e e.u e.o) (roIt t.e e.o e.u) e.k = (a, b, er) := ⟨_, _, _, rfl⟩
      rw [hs] at hd
      simp only at hd
      have hne := suAct_arg (ro_suMay (roMay_iff.1 hro) e.u e.o) k1 k6 hs
      split at hd
      · simp only [Prod.mk.injEq] at hd; omega
      · split at hd
        · simp only [Prod.mk.injEq] at hd; omega
        · simp only [Prod.mk.injEq] at hd; omega
  · refine .inl ?_
    obtain ⟨m, n2, hd⟩ : ∃ m n, sePut t.s ⟨e.u, e.id, e.v⟩ = (m, n) := ⟨_, _, rfl⟩
    rw [stApply_put hm k7 hd] at h
    simp only [Prod.mk.injEq] at h
    obtain ⟨_, rfl⟩ := h
    unfold sePut at hd
    rw [if_pos ⟨hse, by unfold seOne; simp [hu, i0, i4, hv]⟩] at hd
    split at hd
    · simp only [Prod.mk.injEq] at hd; omega
    · simp only [Prod.mk.injEq] at hd; omega
  · refine .inl ?_
    obtain ⟨m, n2, hd⟩ : ∃ m n, seDrop t.s e.u e.id = (m, n) := ⟨_, _, rfl⟩
    rw [stApply_drop hm k8 hd] at h
    simp only [Prod.mk.injEq] at h
    obtain ⟨_, rfl⟩ := h
    unfold seDrop at hd
    rw [if_pos hse] at hd
    split at hd
    · simp only [Prod.mk.injEq] at hd; omega
    · simp only [Prod.mk.injEq] at hd; omega

theorem fewSta_getZ {t : Sta} (h : fewSta t = true) : ShortE t.e ∧ t.e.length ≤ 80 ∧ ShortS t.s ∧ t.s.length ≤ 50 := by
  unfold fewSta at h
  rw [Bool.and_eq_true] at h
  refine ⟨fewR_short h.1, (fewR_get h.1).1, fun s hs => ?_, (few_get h.2).1⟩
  have := (few_get h.2).2 s hs
  omega

set_option maxHeartbeats 1600000 in
set_option maxRecDepth 100000 in
theorem scwa_1 {w : World} {x y : Value} {s : Sta} (h : StAt w x y s) (k1 : Int) (u1 o1 st1 : List UInt8) (id1 a1 vb1 c1 : Int) (hf : fewSta s = false) :
    Calls Tryz.prog 3 #[.agg #[x, y], .agg #[.int .i64 k1, .string ⟨u1.toArray⟩, .string ⟨o1.toArray⟩, .int .i64 id1, .int .i64 a1, .int .i64 vb1, .int .i64 c1, .string ⟨st1.toArray⟩]] w fun e w' => e = .returned (.bool true) ∧ Below w.heap.size w w' := by
  have HF := Lib.hid hf
  clear hf
  obtain ⟨ax, cx, rfl, -⟩ := h.1.open'
  obtain ⟨ay, cy, rfl, -⟩ := RdS.open' h.2
  have b0 := bl_newZ w (.cells #[.slice ax s.e.length cx, .slice ay s.s.length cy] 25)
  have b1 := bl_newZ (w.alloc (.cells #[.slice ax s.e.length cx, .slice ay s.s.length cy] 25)) (.cells #[.int .i64 k1, .string ⟨u1.toArray⟩, .string ⟨o1.toArray⟩, .int .i64 id1, .int .i64 a1, .int .i64 vb1, .int .i64 c1, .string ⟨st1.toArray⟩] 29)
  have HB := Lib.hid (below2Z b0 b1)
  have V := Lib.hid ((h.later b0).later b1)
  have S := newQ w (.cells #[.slice ax s.e.length cx, .slice ay s.s.length cy] 25)
  replace S := upQ S b1
  replace S := Lib.hid S
  have X := newQ (w.alloc (.cells #[.slice ax s.e.length cx, .slice ay s.s.length cy] 25)) (.cells #[.int .i64 k1, .string ⟨u1.toArray⟩, .string ⟨o1.toArray⟩, .int .i64 id1, .int .i64 a1, .int .i64 vb1, .int .i64 c1, .string ⟨st1.toArray⟩] 29)
  rw [World.size_alloc] at X
  replace X := Lib.hid X
  clear b0 b1
  clear h
  go_enter Tryz.func3, Tryz.ntmps3
  go_wp2_with fail
  refine (fewst_any V.out HF).mono ?_
  rintro e w3 ⟨rfl, b3⟩
  replace S := Lib.hid (upQ S.out b3)
  replace X := Lib.hid (upQ X.out b3)
  replace V := Lib.hid (StAt.later V.out b3)
  replace HB := Lib.hid (below2Z HB.out b3)
  clear b3
  go_wp2_with fail
  refine (live23 _).mono ?_
  rintro e w4 ⟨rfl, b4⟩
  replace S := Lib.hid (upQ S.out b4)
  replace X := Lib.hid (upQ X.out b4)
  replace V := Lib.hid (StAt.later V.out b4)
  replace HB := Lib.hid (below2Z HB.out b4)
  clear b4
  go_wp2_with fail
  go_ret
  exact ⟨rfl, HB.out⟩

set_option maxHeartbeats 1600000 in
set_option maxRecDepth 100000 in
theorem scwa_2 {w : World} {x y : Value} {s : Sta} (h : StAt w x y s) (k1 : Int) (u1 o1 st1 : List UInt8) (id1 a1 vb1 c1 : Int) (hf : fewSta s = true) (hm : stMay s = false) :
    Calls Tryz.prog 3 #[.agg #[x, y], .agg #[.int .i64 k1, .string ⟨u1.toArray⟩, .string ⟨o1.toArray⟩, .int .i64 id1, .int .i64 a1, .int .i64 vb1, .int .i64 c1, .string ⟨st1.toArray⟩]] w fun e w' => e = .returned (.bool true) ∧ Below w.heap.size w w' := by
  obtain ⟨f1, f2, f3, f4⟩ := fewSta_getZ hf
  have HF := Lib.hid hf
  have HE := Lib.hid f1
  have HS2 := Lib.hid f3
  have hl4 : s.e.length ≤ 4294967 := by omega
  have hl9 : s.e.length ≤ 900 := by omega
  clear hf f1 f3
  have HM := Lib.hid hm
  clear hm
  obtain ⟨ax, cx, rfl, -⟩ := h.1.open'
  obtain ⟨ay, cy, rfl, -⟩ := RdS.open' h.2
  have b0 := bl_newZ w (.cells #[.slice ax s.e.length cx, .slice ay s.s.length cy] 25)
  have b1 := bl_newZ (w.alloc (.cells #[.slice ax s.e.length cx, .slice ay s.s.length cy] 25)) (.cells #[.int .i64 k1, .string ⟨u1.toArray⟩, .string ⟨o1.toArray⟩, .int .i64 id1, .int .i64 a1, .int .i64 vb1, .int .i64 c1, .string ⟨st1.toArray⟩] 29)
  have HB := Lib.hid (below2Z b0 b1)
  have V := Lib.hid ((h.later b0).later b1)
  have S := newQ w (.cells #[.slice ax s.e.length cx, .slice ay s.s.length cy] 25)
  replace S := upQ S b1
  replace S := Lib.hid S
  have X := newQ (w.alloc (.cells #[.slice ax s.e.length cx, .slice ay s.s.length cy] 25)) (.cells #[.int .i64 k1, .string ⟨u1.toArray⟩, .string ⟨o1.toArray⟩, .int .i64 id1, .int .i64 a1, .int .i64 vb1, .int .i64 c1, .string ⟨st1.toArray⟩] 29)
  rw [World.size_alloc] at X
  replace X := Lib.hid X
  clear b0 b1
  clear h
  go_enter Tryz.func3, Tryz.ntmps3
  go_wp2_with fail
  refine (fewst_any V.out HF).mono ?_
  rintro e w3 ⟨rfl, b3⟩
  replace S := Lib.hid (upQ S.out b3)
  replace X := Lib.hid (upQ X.out b3)
  replace V := Lib.hid (StAt.later V.out b3)
  replace HB := Lib.hid (below2Z HB.out b3)
  clear b3
  obtain ⟨⟨Sc0, Sc1⟩, ⟨Sf0, Sf1⟩⟩ := blk2 S.out
  go_wp2_with fail
  clear Sc0 Sc1 Sf0 Sf1
  refine (rstmay_any V.out HE.out hl4 HS2.out HM).mono ?_
  rintro e w4 ⟨rfl, b4⟩
  replace S := Lib.hid (upQ S.out b4)
  replace X := Lib.hid (upQ X.out b4)
  replace V := Lib.hid (StAt.later V.out b4)
  replace HB := Lib.hid (below2Z HB.out b4)
  clear b4
  go_wp2_with fail
  refine (live23 _).mono ?_
  rintro e w5 ⟨rfl, b5⟩
  replace S := Lib.hid (upQ S.out b5)
  replace X := Lib.hid (upQ X.out b5)
  replace V := Lib.hid (StAt.later V.out b5)
  replace HB := Lib.hid (below2Z HB.out b5)
  clear b5
  go_wp2_with fail
  go_ret
  exact ⟨rfl, HB.out⟩

set_option maxHeartbeats 1600000 in
set_option maxRecDepth 100000 in
theorem scwa_3 {w : World} {x y : Value} {s : Sta} (h : StAt w x y s) (k1 : Int) (u1 o1 st1 : List UInt8) (id1 a1 vb1 c1 : Int) (hf : fewSta s = true) (hm : stMay s = true) (hsh : shortEv ⟨k1, u1, o1, id1, ⟨a1, vb1, c1, st1⟩⟩ = false) :
    Calls Tryz.prog 3 #[.agg #[x, y], .agg #[.int .i64 k1, .string ⟨u1.toArray⟩, .string ⟨o1.toArray⟩, .int .i64 id1, .int .i64 a1, .int .i64 vb1, .int .i64 c1, .string ⟨st1.toArray⟩]] w fun e w' => e = .returned (.bool true) ∧ Below w.heap.size w w' := by
  obtain ⟨f1, f2, f3, f4⟩ := fewSta_getZ hf
  have HF := Lib.hid hf
  have HE := Lib.hid f1
  have HS2 := Lib.hid f3
  have hl4 : s.e.length ≤ 4294967 := by omega
  have hl9 : s.e.length ≤ 900 := by omega
  clear hf f1 f3
  have HM := Lib.hid hm
  have HSH := Lib.hid hsh
  clear hm hsh
  obtain ⟨ax, cx, rfl, -⟩ := h.1.open'
  obtain ⟨ay, cy, rfl, -⟩ := RdS.open' h.2
  have b0 := bl_newZ w (.cells #[.slice ax s.e.length cx, .slice ay s.s.length cy] 25)
  have b1 := bl_newZ (w.alloc (.cells #[.slice ax s.e.length cx, .slice ay s.s.length cy] 25)) (.cells #[.int .i64 k1, .string ⟨u1.toArray⟩, .string ⟨o1.toArray⟩, .int .i64 id1, .int .i64 a1, .int .i64 vb1, .int .i64 c1, .string ⟨st1.toArray⟩] 29)
  have HB := Lib.hid (below2Z b0 b1)
  have V := Lib.hid ((h.later b0).later b1)
  have S := newQ w (.cells #[.slice ax s.e.length cx, .slice ay s.s.length cy] 25)
  replace S := upQ S b1
  replace S := Lib.hid S
  have X := newQ (w.alloc (.cells #[.slice ax s.e.length cx, .slice ay s.s.length cy] 25)) (.cells #[.int .i64 k1, .string ⟨u1.toArray⟩, .string ⟨o1.toArray⟩, .int .i64 id1, .int .i64 a1, .int .i64 vb1, .int .i64 c1, .string ⟨st1.toArray⟩] 29)
  rw [World.size_alloc] at X
  replace X := Lib.hid X
  clear b0 b1
  clear h
  go_enter Tryz.func3, Tryz.ntmps3
  go_wp2_with fail
  refine (fewst_any V.out HF).mono ?_
  rintro e w3 ⟨rfl, b3⟩
  replace S := Lib.hid (upQ S.out b3)
  replace X := Lib.hid (upQ X.out b3)
  replace V := Lib.hid (StAt.later V.out b3)
  replace HB := Lib.hid (below2Z HB.out b3)
  clear b3
  obtain ⟨⟨Sc0, Sc1⟩, ⟨Sf0, Sf1⟩⟩ := blk2 S.out
  go_wp2_with fail
  clear Sc0 Sc1 Sf0 Sf1
  refine (rstmay_any V.out HE.out hl4 HS2.out HM).mono ?_
  rintro e w4 ⟨rfl, b4⟩
  replace S := Lib.hid (upQ S.out b4)
  replace X := Lib.hid (upQ X.out b4)
  replace V := Lib.hid (StAt.later V.out b4)
  replace HB := Lib.hid (below2Z HB.out b4)
  clear b4
  obtain ⟨⟨Xc0, Xc1, Xc2, Xc3, Xc4, Xc5, Xc6, Xc7⟩, ⟨Xf0, Xf1, Xf2, Xf3, Xf4, Xf5, Xf6, Xf7⟩⟩ := blk8 X.out
  go_wp2_with fail
  clear Xc0 Xc1 Xc2 Xc3 Xc4 Xc5 Xc6 Xc7 Xf0 Xf1 Xf2 Xf3 Xf4 Xf5 Xf6 Xf7
  refine (short14_any k1 u1 o1 st1 id1 a1 vb1 c1 HSH _).mono ?_
  rintro e w5 ⟨rfl, b5⟩
  replace S := Lib.hid (upQ S.out b5)
  replace X := Lib.hid (upQ X.out b5)
  replace V := Lib.hid (StAt.later V.out b5)
  replace HB := Lib.hid (below2Z HB.out b5)
  clear b5
  go_wp2_with fail
  refine (live23 _).mono ?_
  rintro e w6 ⟨rfl, b6⟩
  replace S := Lib.hid (upQ S.out b6)
  replace X := Lib.hid (upQ X.out b6)
  replace V := Lib.hid (StAt.later V.out b6)
  replace HB := Lib.hid (below2Z HB.out b6)
  clear b6
  go_wp2_with fail
  go_ret
  exact ⟨rfl, HB.out⟩

set_option maxHeartbeats 1600000 in
set_option maxRecDepth 100000 in
theorem scwa_4 {w : World} {x y : Value} {s : Sta} (h : StAt w x y s) (k1 : Int) (u1 o1 st1 : List UInt8) (id1 a1 vb1 c1 : Int) (hf : fewSta s = true) (hm : stMay s = true) (hsh : shortEv ⟨k1, u1, o1, id1, ⟨a1, vb1, c1, st1⟩⟩ = true) (hes : evShort ⟨k1, u1, o1, id1, ⟨a1, vb1, c1, st1⟩⟩) (hfo : scFold ⟨k1, u1, o1, id1, ⟨a1, vb1, c1, st1⟩⟩ = (⟨0, [], [], 0, ⟨0, 0, 0, []⟩⟩, false)) :
    Calls Tryz.prog 3 #[.agg #[x, y], .agg #[.int .i64 k1, .string ⟨u1.toArray⟩, .string ⟨o1.toArray⟩, .int .i64 id1, .int .i64 a1, .int .i64 vb1, .int .i64 c1, .string ⟨st1.toArray⟩]] w fun e w' => e = .returned (.bool true) ∧ Below w.heap.size w w' := by
  obtain ⟨f1, f2, f3, f4⟩ := fewSta_getZ hf
  have HF := Lib.hid hf
  have HE := Lib.hid f1
  have HS2 := Lib.hid f3
  have hl4 : s.e.length ≤ 4294967 := by omega
  have hl9 : s.e.length ≤ 900 := by omega
  clear hf f1 f3
  have HM := Lib.hid hm
  have HSH := Lib.hid hsh
  have HFO := Lib.hid hfo
  have heq := fun w => (ev_eql 0 0 0 0 [] [] [] [] 0 0 0 0 0 0 [] [] w).trans (by rw [evEq_self])
  have HEQ := Lib.hid heq
  clear hm hsh heq hfo
  obtain ⟨ax, cx, rfl, -⟩ := h.1.open'
  obtain ⟨ay, cy, rfl, -⟩ := RdS.open' h.2
  have b0 := bl_newZ w (.cells #[.slice ax s.e.length cx, .slice ay s.s.length cy] 25)
  have b1 := bl_newZ (w.alloc (.cells #[.slice ax s.e.length cx, .slice ay s.s.length cy] 25)) (.cells #[.int .i64 k1, .string ⟨u1.toArray⟩, .string ⟨o1.toArray⟩, .int .i64 id1, .int .i64 a1, .int .i64 vb1, .int .i64 c1, .string ⟨st1.toArray⟩] 29)
  have HB := Lib.hid (below2Z b0 b1)
  have V := Lib.hid ((h.later b0).later b1)
  have S := newQ w (.cells #[.slice ax s.e.length cx, .slice ay s.s.length cy] 25)
  replace S := upQ S b1
  replace S := Lib.hid S
  have X := newQ (w.alloc (.cells #[.slice ax s.e.length cx, .slice ay s.s.length cy] 25)) (.cells #[.int .i64 k1, .string ⟨u1.toArray⟩, .string ⟨o1.toArray⟩, .int .i64 id1, .int .i64 a1, .int .i64 vb1, .int .i64 c1, .string ⟨st1.toArray⟩] 29)
  rw [World.size_alloc] at X
  replace X := Lib.hid X
  clear b0 b1
  clear h
  go_enter Tryz.func3, Tryz.ntmps3
  go_wp2_with fail
  refine (fewst_any V.out HF).mono ?_
  rintro e w3 ⟨rfl, b3⟩
  replace S := Lib.hid (upQ S.out b3)
  replace X := Lib.hid (upQ X.out b3)
  replace V := Lib.hid (StAt.later V.out b3)
  replace HB := Lib.hid (below2Z HB.out b3)
  clear b3
  obtain ⟨⟨Sc0, Sc1⟩, ⟨Sf0, Sf1⟩⟩ := blk2 S.out
  go_wp2_with fail
  clear Sc0 Sc1 Sf0 Sf1
  refine (rstmay_any V.out HE.out hl4 HS2.out HM).mono ?_
  rintro e w4 ⟨rfl, b4⟩
  replace S := Lib.hid (upQ S.out b4)
  replace X := Lib.hid (upQ X.out b4)
  replace V := Lib.hid (StAt.later V.out b4)
  replace HB := Lib.hid (below2Z HB.out b4)
  clear b4
  obtain ⟨⟨Xc0, Xc1, Xc2, Xc3, Xc4, Xc5, Xc6, Xc7⟩, ⟨Xf0, Xf1, Xf2, Xf3, Xf4, Xf5, Xf6, Xf7⟩⟩ := blk8 X.out
  go_wp2_with fail
  clear Xc0 Xc1 Xc2 Xc3 Xc4 Xc5 Xc6 Xc7 Xf0 Xf1 Xf2 Xf3 Xf4 Xf5 Xf6 Xf7
  refine (short14_any k1 u1 o1 st1 id1 a1 vb1 c1 HSH _).mono ?_
  rintro e w5 ⟨rfl, b5⟩
  replace S := Lib.hid (upQ S.out b5)
  replace X := Lib.hid (upQ X.out b5)
  replace V := Lib.hid (StAt.later V.out b5)
  replace HB := Lib.hid (below2Z HB.out b5)
  clear b5
  obtain ⟨⟨Xc0, Xc1, Xc2, Xc3, Xc4, Xc5, Xc6, Xc7⟩, ⟨Xf0, Xf1, Xf2, Xf3, Xf4, Xf5, Xf6, Xf7⟩⟩ := blk8 X.out
  go_wp2_with fail
  clear Xc0 Xc1 Xc2 Xc3 Xc4 Xc5 Xc6 Xc7 Xf0 Xf1 Xf2 Xf3 Xf4 Xf5 Xf6 Xf7
  refine (scfold_any k1 u1 o1 st1 id1 a1 vb1 c1 hes HFO _).mono ?_
  rintro e w6 ⟨rfl, b6⟩
  replace S := Lib.hid (upQ S.out b6)
  replace X := Lib.hid (upQ X.out b6)
  replace V := Lib.hid (StAt.later V.out b6)
  replace HB := Lib.hid (below2Z HB.out b6)
  clear b6
  have heq := HEQ.out
  go_wp2_with fail
  clear heq
  have b7 := bl_newZ w6 (.cells #[.int .i64 0, .string ⟨#[]⟩, .string ⟨#[]⟩, .int .i64 0, .int .i64 0, .int .i64 0, .int .i64 0, .string ⟨#[]⟩] 29)
  have G := newQ w6 (.cells #[.int .i64 0, .string ⟨#[]⟩, .string ⟨#[]⟩, .int .i64 0, .int .i64 0, .int .i64 0, .int .i64 0, .string ⟨#[]⟩] 29)
  have hG : w.heap.size ≤ w6.heap.size := HB.out.size
  replace S := Lib.hid (upQ S.out b7)
  replace X := Lib.hid (upQ X.out b7)
  replace V := Lib.hid (StAt.later V.out b7)
  replace HB := Lib.hid (below2Z HB.out b7)
  clear b7
  replace G := Lib.hid G
  generalize w6.alloc (.cells #[.int .i64 0, .string ⟨#[]⟩, .string ⟨#[]⟩, .int .i64 0, .int .i64 0, .int .i64 0, .int .i64 0, .string ⟨#[]⟩] 29) = w8 at S X G V HB ⊢
  clear G
  clear hG
  refine (live23 _).mono ?_
  rintro e w9 ⟨rfl, b9⟩
  replace S := Lib.hid (upQ S.out b9)
  replace X := Lib.hid (upQ X.out b9)
  replace V := Lib.hid (StAt.later V.out b9)
  replace HB := Lib.hid (below2Z HB.out b9)
  clear b9
  go_wp2_with fail
  go_ret
  exact ⟨rfl, HB.out⟩

set_option maxHeartbeats 3200000 in
set_option maxRecDepth 100000 in
theorem scwa_5 {w : World} {x y : Value} {s : Sta} (h : StAt w x y s) (k1 : Int) (u1 o1 st1 : List UInt8) (id1 a1 vb1 c1 : Int) (hf : fewSta s = true) (hm : stMay s = true) (hsh : shortEv ⟨k1, u1, o1, id1, ⟨a1, vb1, c1, st1⟩⟩ = true) (hes : evShort ⟨k1, u1, o1, id1, ⟨a1, vb1, c1, st1⟩⟩) {k2 id2 a2 vb2 c2 : Int} {u2 o2 st2 : List UInt8} (hfo : scFold ⟨k1, u1, o1, id1, ⟨a1, vb1, c1, st1⟩⟩ = (⟨k2, u2, o2, id2, ⟨a2, vb2, c2, st2⟩⟩, true)) (hes2 : evShort ⟨k2, u2, o2, id2, ⟨a2, vb2, c2, st2⟩⟩) {s2 : Sta} {n : Nat} (hap : stApply s ⟨k2, u2, o2, id2, ⟨a2, vb2, c2, st2⟩⟩ = (s2, n)) :
    Calls Tryz.prog 3 #[.agg #[x, y], .agg #[.int .i64 k1, .string ⟨u1.toArray⟩, .string ⟨o1.toArray⟩, .int .i64 id1, .int .i64 a1, .int .i64 vb1, .int .i64 c1, .string ⟨st1.toArray⟩]] w fun e w' => e = .returned (.bool true) ∧ Below w.heap.size w w' := by
  obtain ⟨f1, f2, f3, f4⟩ := fewSta_getZ hf
  have HF := Lib.hid hf
  have HE := Lib.hid f1
  have HS2 := Lib.hid f3
  have hl4 : s.e.length ≤ 4294967 := by omega
  have hl9 : s.e.length ≤ 900 := by omega
  clear hf f1 f3
  have HM := Lib.hid hm
  have HSH := Lib.hid hsh
  have HFO := Lib.hid hfo
  have hmay := scFold_is hfo
  have harg := stApply_arg hm hmay hap
  have HX := scEnc_yes hmay
  have HD := scDec_enc hmay
  have hcl := scBytes_short hmay
  generalize cseal (scBytes ⟨k2, u2, o2, id2, ⟨a2, vb2, c2, st2⟩⟩) = s1 at HX HD hcl
  replace HX := Lib.hid HX
  replace HD := Lib.hid HD
  have hs1l : s1.length ≤ 4294967296 := by omega
  have heq := fun w => (ev_eql k2 k2 id2 id2 u2 u2 o2 o2 a2 vb2 c2 a2 vb2 c2 st2 st2 w).trans (by rw [evEq_self])
  have HEQ := Lib.hid heq
  have HAP := Lib.hid hap
  have HARG := Lib.hid harg
  clear hm hsh heq hfo harg hap hmay hcl
  obtain ⟨ax, cx, rfl, -⟩ := h.1.open'
  obtain ⟨ay, cy, rfl, -⟩ := RdS.open' h.2
  have b0 := bl_newZ w (.cells #[.slice ax s.e.length cx, .slice ay s.s.length cy] 25)
  have b1 := bl_newZ (w.alloc (.cells #[.slice ax s.e.length cx, .slice ay s.s.length cy] 25)) (.cells #[.int .i64 k1, .string ⟨u1.toArray⟩, .string ⟨o1.toArray⟩, .int .i64 id1, .int .i64 a1, .int .i64 vb1, .int .i64 c1, .string ⟨st1.toArray⟩] 29)
  have HB := Lib.hid (below2Z b0 b1)
  have V := Lib.hid ((h.later b0).later b1)
  have S := newQ w (.cells #[.slice ax s.e.length cx, .slice ay s.s.length cy] 25)
  replace S := upQ S b1
  replace S := Lib.hid S
  have X := newQ (w.alloc (.cells #[.slice ax s.e.length cx, .slice ay s.s.length cy] 25)) (.cells #[.int .i64 k1, .string ⟨u1.toArray⟩, .string ⟨o1.toArray⟩, .int .i64 id1, .int .i64 a1, .int .i64 vb1, .int .i64 c1, .string ⟨st1.toArray⟩] 29)
  rw [World.size_alloc] at X
  replace X := Lib.hid X
  clear b0 b1
  clear h
  go_enter Tryz.func3, Tryz.ntmps3
  go_wp2_with fail
  refine (fewst_any V.out HF).mono ?_
  rintro e w3 ⟨rfl, b3⟩
  replace S := Lib.hid (upQ S.out b3)
  replace X := Lib.hid (upQ X.out b3)
  replace V := Lib.hid (StAt.later V.out b3)
  replace HB := Lib.hid (below2Z HB.out b3)
  clear b3
  obtain ⟨⟨Sc0, Sc1⟩, ⟨Sf0, Sf1⟩⟩ := blk2 S.out
  go_wp2_with fail
  clear Sc0 Sc1 Sf0 Sf1
  refine (rstmay_any V.out HE.out hl4 HS2.out HM).mono ?_
  rintro e w4 ⟨rfl, b4⟩
  replace S := Lib.hid (upQ S.out b4)
  replace X := Lib.hid (upQ X.out b4)
  replace V := Lib.hid (StAt.later V.out b4)
  replace HB := Lib.hid (below2Z HB.out b4)
  clear b4
  obtain ⟨⟨Xc0, Xc1, Xc2, Xc3, Xc4, Xc5, Xc6, Xc7⟩, ⟨Xf0, Xf1, Xf2, Xf3, Xf4, Xf5, Xf6, Xf7⟩⟩ := blk8 X.out
  go_wp2_with fail
  clear Xc0 Xc1 Xc2 Xc3 Xc4 Xc5 Xc6 Xc7 Xf0 Xf1 Xf2 Xf3 Xf4 Xf5 Xf6 Xf7
  refine (short14_any k1 u1 o1 st1 id1 a1 vb1 c1 HSH _).mono ?_
  rintro e w5 ⟨rfl, b5⟩
  replace S := Lib.hid (upQ S.out b5)
  replace X := Lib.hid (upQ X.out b5)
  replace V := Lib.hid (StAt.later V.out b5)
  replace HB := Lib.hid (below2Z HB.out b5)
  clear b5
  obtain ⟨⟨Xc0, Xc1, Xc2, Xc3, Xc4, Xc5, Xc6, Xc7⟩, ⟨Xf0, Xf1, Xf2, Xf3, Xf4, Xf5, Xf6, Xf7⟩⟩ := blk8 X.out
  go_wp2_with fail
  clear Xc0 Xc1 Xc2 Xc3 Xc4 Xc5 Xc6 Xc7 Xf0 Xf1 Xf2 Xf3 Xf4 Xf5 Xf6 Xf7
  refine (scfold_any k1 u1 o1 st1 id1 a1 vb1 c1 hes HFO _).mono ?_
  rintro e w6 ⟨rfl, b6⟩
  replace S := Lib.hid (upQ S.out b6)
  replace X := Lib.hid (upQ X.out b6)
  replace V := Lib.hid (StAt.later V.out b6)
  replace HB := Lib.hid (below2Z HB.out b6)
  clear b6
  go_wp2_with fail
  have b7 := bl_newZ w6 (.cells #[.int .i64 k2, .string ⟨u2.toArray⟩, .string ⟨o2.toArray⟩, .int .i64 id2, .int .i64 a2, .int .i64 vb2, .int .i64 c2, .string ⟨st2.toArray⟩] 29)
  have G := newQ w6 (.cells #[.int .i64 k2, .string ⟨u2.toArray⟩, .string ⟨o2.toArray⟩, .int .i64 id2, .int .i64 a2, .int .i64 vb2, .int .i64 c2, .string ⟨st2.toArray⟩] 29)
  have hG : w.heap.size ≤ w6.heap.size := HB.out.size
  replace S := Lib.hid (upQ S.out b7)
  replace X := Lib.hid (upQ X.out b7)
  replace V := Lib.hid (StAt.later V.out b7)
  replace HB := Lib.hid (below2Z HB.out b7)
  clear b7
  replace G := Lib.hid G
  generalize w6.alloc (.cells #[.int .i64 k2, .string ⟨u2.toArray⟩, .string ⟨o2.toArray⟩, .int .i64 id2, .int .i64 a2, .int .i64 vb2, .int .i64 c2, .string ⟨st2.toArray⟩] 29) = w8 at S X G V HB ⊢
  generalize w6.heap.size = BG at G hG ⊢
  refine (scenc_any k2 u2 o2 st2 id2 a2 vb2 c2 hes2 HX _).mono ?_
  rintro e w9 ⟨rfl, b9⟩
  replace S := Lib.hid (upQ S.out b9)
  replace X := Lib.hid (upQ X.out b9)
  replace G := Lib.hid (upQ G.out b9)
  replace V := Lib.hid (StAt.later V.out b9)
  replace HB := Lib.hid (below2Z HB.out b9)
  clear b9
  go_wp2_with fail
  refine (scdec_any s1 hs1l HD _).mono ?_
  rintro e w10 ⟨rfl, b10⟩
  replace S := Lib.hid (upQ S.out b10)
  replace X := Lib.hid (upQ X.out b10)
  replace G := Lib.hid (upQ G.out b10)
  replace V := Lib.hid (StAt.later V.out b10)
  replace HB := Lib.hid (below2Z HB.out b10)
  clear b10
  obtain ⟨⟨Sc0, Sc1⟩, ⟨Sf0, Sf1⟩⟩ := blk2 S.out
  obtain ⟨⟨Gc0, Gc1, Gc2, Gc3, Gc4, Gc5, Gc6, Gc7⟩, ⟨Gf0, Gf1, Gf2, Gf3, Gf4, Gf5, Gf6, Gf7⟩⟩ := blk8 G.out
  have hSl := (Array.getElem?_eq_some_iff.1 S.out).1
  have hGl := (Array.getElem?_eq_some_iff.1 G.out).1
  go_wp2_with fail
  clear Sc0 Sc1 Sf0 Sf1 Gc0 Gc1 Gc2 Gc3 Gc4 Gc5 Gc6 Gc7 Gf0 Gf1 Gf2 Gf3 Gf4 Gf5 Gf6 Gf7 hSl hGl
  have b11 := bl_newZ w10 (.cells #[.int .i64 k2, .string ⟨u2.toArray⟩, .string ⟨o2.toArray⟩, .int .i64 id2, .int .i64 a2, .int .i64 vb2, .int .i64 c2, .string ⟨st2.toArray⟩] 29)
  have H := newQ w10 (.cells #[.int .i64 k2, .string ⟨u2.toArray⟩, .string ⟨o2.toArray⟩, .int .i64 id2, .int .i64 a2, .int .i64 vb2, .int .i64 c2, .string ⟨st2.toArray⟩] 29)
  have hH : w.heap.size ≤ w10.heap.size := HB.out.size
  replace S := Lib.hid (upQ S.out b11)
  replace X := Lib.hid (upQ X.out b11)
  replace G := Lib.hid (upQ G.out b11)
  replace V := Lib.hid (StAt.later V.out b11)
  replace HB := Lib.hid (below2Z HB.out b11)
  clear b11
  replace H := Lib.hid H
  generalize w10.alloc (.cells #[.int .i64 k2, .string ⟨u2.toArray⟩, .string ⟨o2.toArray⟩, .int .i64 id2, .int .i64 a2, .int .i64 vb2, .int .i64 c2, .string ⟨st2.toArray⟩] 29) = w12 at S X G H V HB ⊢
  generalize w10.heap.size = BH at H hH ⊢
  refine (stdo_any V.out HE.out hl9 HS2.out ⟨k2, u2, o2, id2, ⟨a2, vb2, c2, st2⟩⟩ hes2.1 hes2.2.1 hes2.2.2 HAP.out).mono ?_
  rintro e w13 ⟨x1, y1, rfl, hst, b13⟩
  replace S := Lib.hid (upQ S.out b13)
  replace X := Lib.hid (upQ X.out b13)
  replace G := Lib.hid (upQ G.out b13)
  replace H := Lib.hid (upQ H.out b13)
  replace V := Lib.hid (StAt.later V.out b13)
  replace HB := Lib.hid (below2Z HB.out b13)
  clear b13
  obtain ⟨ax1, cx1, rfl, -⟩ := hst.1.open'
  obtain ⟨ay1, cy1, rfl, -⟩ := RdS.open' hst.2
  have V1 := Lib.hid hst
  clear hst
  obtain ⟨⟨Sc0, Sc1⟩, ⟨Sf0, Sf1⟩⟩ := blk2 S.out
  obtain ⟨⟨Hc0, Hc1, Hc2, Hc3, Hc4, Hc5, Hc6, Hc7⟩, ⟨Hf0, Hf1, Hf2, Hf3, Hf4, Hf5, Hf6, Hf7⟩⟩ := blk8 H.out
  have hSl := (Array.getElem?_eq_some_iff.1 S.out).1
  have hHl := (Array.getElem?_eq_some_iff.1 H.out).1
  go_wp2_with fail
  clear Sc0 Sc1 Sf0 Sf1 Hc0 Hc1 Hc2 Hc3 Hc4 Hc5 Hc6 Hc7 Hf0 Hf1 Hf2 Hf3 Hf4 Hf5 Hf6 Hf7 hSl hHl
  have b14 := bl_newZ w13 (.cells #[.slice ax1 s2.e.length cx1, .slice ay1 s2.s.length cy1] 25)
  have P := newQ w13 (.cells #[.slice ax1 s2.e.length cx1, .slice ay1 s2.s.length cy1] 25)
  have hP : w.heap.size ≤ w13.heap.size := HB.out.size
  replace S := Lib.hid (upQ S.out b14)
  replace X := Lib.hid (upQ X.out b14)
  replace G := Lib.hid (upQ G.out b14)
  replace H := Lib.hid (upQ H.out b14)
  replace V := Lib.hid (StAt.later V.out b14)
  replace V1 := Lib.hid (StAt.later V1.out b14)
  replace HB := Lib.hid (below2Z HB.out b14)
  clear b14
  replace P := Lib.hid P
  generalize w13.alloc (.cells #[.slice ax1 s2.e.length cx1, .slice ay1 s2.s.length cy1] 25) = w15 at S X G H P V V1 HB ⊢
  generalize w13.heap.size = BP at P hP ⊢
  refine (stdo_any V.out HE.out hl9 HS2.out ⟨k2, u2, o2, id2, ⟨a2, vb2, c2, st2⟩⟩ hes2.1 hes2.2.1 hes2.2.2 HAP.out).mono ?_
  rintro e w16 ⟨x2, y2, rfl, hst, b16⟩
  replace S := Lib.hid (upQ S.out b16)
  replace X := Lib.hid (upQ X.out b16)
  replace G := Lib.hid (upQ G.out b16)
  replace H := Lib.hid (upQ H.out b16)
  replace P := Lib.hid (upQ P.out b16)
  replace V := Lib.hid (StAt.later V.out b16)
  replace V1 := Lib.hid (StAt.later V1.out b16)
  replace HB := Lib.hid (below2Z HB.out b16)
  clear b16
  obtain ⟨ax2, cx2, rfl, -⟩ := hst.1.open'
  obtain ⟨ay2, cy2, rfl, -⟩ := RdS.open' hst.2
  have V2 := Lib.hid hst
  clear hst
  obtain ⟨⟨Pc0, Pc1⟩, ⟨Pf0, Pf1⟩⟩ := blk2 P.out
  obtain ⟨⟨Gc0, Gc1, Gc2, Gc3, Gc4, Gc5, Gc6, Gc7⟩, ⟨Gf0, Gf1, Gf2, Gf3, Gf4, Gf5, Gf6, Gf7⟩⟩ := blk8 G.out
  obtain ⟨⟨Hc0, Hc1, Hc2, Hc3, Hc4, Hc5, Hc6, Hc7⟩, ⟨Hf0, Hf1, Hf2, Hf3, Hf4, Hf5, Hf6, Hf7⟩⟩ := blk8 H.out
  have hPl := (Array.getElem?_eq_some_iff.1 P.out).1
  have hGl := (Array.getElem?_eq_some_iff.1 G.out).1
  have hHl := (Array.getElem?_eq_some_iff.1 H.out).1
  have heq := HEQ.out
  go_wp2_with fail
  clear Pc0 Pc1 Pf0 Pf1 Gc0 Gc1 Gc2 Gc3 Gc4 Gc5 Gc6 Gc7 Gf0 Gf1 Gf2 Gf3 Gf4 Gf5 Gf6 Gf7 Hc0 Hc1 Hc2 Hc3 Hc4 Hc5 Hc6 Hc7 Hf0 Hf1 Hf2 Hf3 Hf4 Hf5 Hf6 Hf7 hPl hGl hHl heq
  have b17 := bl_newZ w16 (.cells #[.slice ax2 s2.e.length cx2, .slice ay2 s2.s.length cy2] 25)
  have Q := newQ w16 (.cells #[.slice ax2 s2.e.length cx2, .slice ay2 s2.s.length cy2] 25)
  have hQ : w.heap.size ≤ w16.heap.size := HB.out.size
  replace S := Lib.hid (upQ S.out b17)
  replace X := Lib.hid (upQ X.out b17)
  replace G := Lib.hid (upQ G.out b17)
  replace H := Lib.hid (upQ H.out b17)
  replace P := Lib.hid (upQ P.out b17)
  replace V := Lib.hid (StAt.later V.out b17)
  replace V1 := Lib.hid (StAt.later V1.out b17)
  replace V2 := Lib.hid (StAt.later V2.out b17)
  replace HB := Lib.hid (below2Z HB.out b17)
  clear b17
  replace Q := Lib.hid Q
  generalize w16.alloc (.cells #[.slice ax2 s2.e.length cx2, .slice ay2 s2.s.length cy2] 25) = w18 at S X G H P Q V V1 V2 HB ⊢
  generalize w16.heap.size = BQ at Q hQ ⊢
  refine (stsame_any V1.out V2.out (Lib.hid (staSame_self _))).mono ?_
  rintro e w19 ⟨rfl, b19⟩
  replace S := Lib.hid (upQ S.out b19)
  replace X := Lib.hid (upQ X.out b19)
  replace G := Lib.hid (upQ G.out b19)
  replace H := Lib.hid (upQ H.out b19)
  replace P := Lib.hid (upQ P.out b19)
  replace Q := Lib.hid (upQ Q.out b19)
  replace V := Lib.hid (StAt.later V.out b19)
  replace V1 := Lib.hid (StAt.later V1.out b19)
  replace V2 := Lib.hid (StAt.later V2.out b19)
  replace HB := Lib.hid (below2Z HB.out b19)
  clear b19
  by_cases hn1 : n = 1
  · have huo : u2 = o2 := by rcases HARG.out with hx | hx; exact absurd hn1 hx; exact hx
    subst hn1
    obtain ⟨⟨Gc0, Gc1, Gc2, Gc3, Gc4, Gc5, Gc6, Gc7⟩, ⟨Gf0, Gf1, Gf2, Gf3, Gf4, Gf5, Gf6, Gf7⟩⟩ := blk8 G.out
    have hGl := (Array.getElem?_eq_some_iff.1 G.out).1
    subst huo
    go_wp2_with fail
    clear Gc0 Gc1 Gc2 Gc3 Gc4 Gc5 Gc6 Gc7 Gf0 Gf1 Gf2 Gf3 Gf4 Gf5 Gf6 Gf7 hGl
    refine (live23 _).mono ?_
    rintro e w301 ⟨rfl, b301⟩
    replace S := Lib.hid (upQ S.out b301)
    replace X := Lib.hid (upQ X.out b301)
    replace G := Lib.hid (upQ G.out b301)
    replace H := Lib.hid (upQ H.out b301)
    replace P := Lib.hid (upQ P.out b301)
    replace Q := Lib.hid (upQ Q.out b301)
    replace V := Lib.hid (StAt.later V.out b301)
    replace V1 := Lib.hid (StAt.later V1.out b301)
    replace V2 := Lib.hid (StAt.later V2.out b301)
    replace HB := Lib.hid (below2Z HB.out b301)
    clear b301
    go_wp2_with fail
    go_ret
    exact ⟨rfl, HB.out⟩
  · have t1 : ((n : Int) != 1) = true := by simp; omega
    clear hn1
    go_wp2_with fail
    refine (live23 _).mono ?_
    rintro e w401 ⟨rfl, b401⟩
    replace S := Lib.hid (upQ S.out b401)
    replace X := Lib.hid (upQ X.out b401)
    replace G := Lib.hid (upQ G.out b401)
    replace H := Lib.hid (upQ H.out b401)
    replace P := Lib.hid (upQ P.out b401)
    replace Q := Lib.hid (upQ Q.out b401)
    replace V := Lib.hid (StAt.later V.out b401)
    replace V1 := Lib.hid (StAt.later V1.out b401)
    replace V2 := Lib.hid (StAt.later V2.out b401)
    replace HB := Lib.hid (below2Z HB.out b401)
    clear b401
    go_wp2_with fail
    go_ret
    exact ⟨rfl, HB.out⟩

theorem walkScriptApplies {w : World} {x y : Value} {s : Sta} (h : StAt w x y s) (_ : ∀ r ∈ s.s, SesFit r) (e : Ev) (_ : evFit e) :
    Calls Tryz.prog 3 #[.agg #[x, y], .agg #[.int .i64 e.k, .string ⟨e.u.toArray⟩, .string ⟨e.o.toArray⟩, .int .i64 e.id, .int .i64 e.v.sh, .int .i64 e.v.pr, .int .i64 e.v.si, .string ⟨e.v.st.toArray⟩]] w fun z w' => z = .returned (.bool true) ∧ Below w.heap.size w w' := by
  obtain ⟨k, u, o, id, ⟨a, b, c, st⟩⟩ := e
  cases hf : fewSta s with
  | false => exact scwa_1 h k u o st id a b c hf
  | true =>
    cases hm : stMay s with
    | false => exact scwa_2 h k u o st id a b c hf hm
    | true =>
      cases hsh : shortEv ⟨k, u, o, id, ⟨a, b, c, st⟩⟩ with
      | false => exact scwa_3 h k u o st id a b c hf hm hsh
      | true =>
        have hes : evShort ⟨k, u, o, id, ⟨a, b, c, st⟩⟩ := by
          obtain ⟨h1, h2, h3⟩ := shortEv_get hsh
          exact ⟨Nat.le_trans h1 (by decide), Nat.le_trans h2 (by decide), Nat.le_trans h3 (by decide)⟩
        obtain ⟨⟨k2, u2, o2, id2, ⟨a2, vb2, c2, st2⟩⟩, r, hr⟩ : ∃ f r, scFold ⟨k, u, o, id, ⟨a, b, c, st⟩⟩ = (f, r) := ⟨_, _, rfl⟩
        cases r with
        | false =>
          rw [scFold_not hr] at hr
          exact scwa_4 h k u o st id a b c hf hm hsh hes hr
        | true =>
          have hsf := scFold_short hr
          obtain ⟨s2, n, hap⟩ : ∃ s2 n, stApply s ⟨k2, u2, o2, id2, ⟨a2, vb2, c2, st2⟩⟩ = (s2, n) := ⟨_, _, rfl⟩
          exact scwa_5 h k u o st id a b c hf hm hsh hes hr ⟨Nat.le_trans hsf.1 hes.1, Nat.le_trans hsf.2.1 hes.2.1, Nat.le_trans hsf.2.2 hes.2.2⟩ hap

end Go.Proofs.YthfkfonfiejbmaaGreat

end

section

/-
  THE FRAME OF THE PROOF OF ScriptApplies: for every input the law returns true, and each argument reads behind the call as it read before. No condition.
-/
namespace Go.Proofs.YthfkfonfiejbmaaGreat.scriptApplies
open Go.ChangeShapes Go.WideShapes Go.ChangeAt Go.RowKit
open Go.ChangeMaps (open_string shut_string)
set_option linter.unusedVariables false

theorem own : ownKnob Tryz.prog.godebug = none := by kernel_rfl
theorem laidOut : laidOutB Tryz.prog = true := by kernel_rfl

set_option maxRecDepth 100000 in
theorem lifted (os : Os) (started : os.Started) (H : Type) (enc : TypeId × Value → H) :
    ReturnsInHanded {} Tryz.checked os 3 .any (Rows.scriptAppliesSpec.pre6 enc Tryz.prog Tryz.f3 Rows.scriptAppliesRow.domain false) (Rows.scriptAppliesSpec.post enc Tryz.prog Tryz.f3 false true false false) := by
  refine returnsInHanded_of_change (C := Tryz.checked) own started (by kernel_rfl) Tryz.func3
    (ChangeSpec.witness6 (enc := enc) (C := Tryz.checked) false ⟨#[], #[.agg #[.slice none 0 0, .slice none 0 0], .agg #[.int .i64 0, .string ByteArray.empty, .string ByteArray.empty, .int .i64 0, .int .i64 0, .int .i64 0, .int .i64 0, .string ByteArray.empty]], []⟩ 8 (by kernel_rfl) (by kernel_rfl) (by kernel_rfl) (by kernel_rfl)) ?_
  intro W base args ds gs before hval0 hW hcnd _
  have hval : ∀ (j : Nat) t v, Tryz.f3.params[j]? = some t → args[j]? = some v → Value.okWide Tryz.prog W .any base t v := hval0
  have hW' := hW
  obtain ⟨p, q, hA0, hV, rfl, hfz, hnd⟩ := hW
  have hA : DataW.TrodAll enc Tryz.prog W 0 (fun _ => true) true Tryz.f3.params.toList args.toList ds p := hA0
  rw [Tryz.params3] at hA hval
  obtain ⟨v0, vs0, d0, ds0, p0, q0, hargs, rfl, rfl, h0, r0⟩ := trodAll_cons hA
  obtain ⟨v1, vs1, d1, ds1, p1, q1, rfl, rfl, rfl, h1, r1⟩ := trodAll_cons r0
  obtain ⟨rfl, rfl, rfl⟩ := trodAll_nil r1
  obtain rfl : args = #[v0, v1] := by cases args; simp_all
  obtain ⟨rfl, rfl⟩ := trodVars_none hV
  have k0 := h0
  have lt0 : ∀ x ∈ p0, x.block < W.heap.size := by obtain ⟨m, hm⟩ := k0; exact DataW.trod_lt m _ _ _ hm
  obtain ⟨x0, y0, l0, rfl, w0, f0⟩ := open_sta (hval 0 25 v0 rfl rfl) h0
  have k1 := h1
  have lt1 : ∀ x ∈ p1, x.block < W.heap.size := by obtain ⟨m, hm⟩ := k1; exact DataW.trod_lt m _ _ _ hm
  obtain ⟨a1, rfl, w1⟩ := open_ev (hval 1 29 v1 rfl rfl) h1
  clear hA0 hval0
  refine (walkScriptApplies (w := W) w0 f0 a1 w1).mono fun e W' ⟨he, bel⟩ => ?_
  subst he
  exact ⟨_, rfl, _, _, _, [], _, [], hW', trodAll_mk1 (shut_bool Tryz.underlying4 _), (trodAll_cons_mk (Below.trod laidOut (by kernel_rfl) (of_decide_eq_true (by kernel_rfl)) k0 bel lt0) (trodAll_cons_mk (Below.trod laidOut (by kernel_rfl) (of_decide_eq_true (by kernel_rfl)) k1 bel lt1) trodAll_mk0)), rfl, bel.frame _, fun h => by cases h⟩

theorem over : Rows.scriptAppliesRow.holds Tryz.pinned (OpenSpec.ofChange Rows.scriptAppliesSpec) :=
  OpenClaim.holds_of_wide 3 Tryz.f3 rfl rfl rfl rfl rfl rfl rfl ⟨rfl, rfl, rfl, rfl, rfl⟩ rfl rfl rfl rfl rfl (by kernel_rfl) Tryz.func3 (by kernel_rfl)
    (of_decide_eq_true (by kernel_rfl)) (by unfold Func.isWrapper; first | (rw [if_pos (by decide +kernel)]; kernel_rfl) | (rw [if_neg (by decide +kernel)]; exact ⟨rfl, rfl⟩))
    (fun os started H enc _ => lifted os started H enc)

/-- THE STATEMENT. -/
theorem proved : Rows.ScriptAppliesSaid := over
#print axioms proved
end Go.Proofs.YthfkfonfiejbmaaGreat.scriptApplies

end
