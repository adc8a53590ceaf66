/-
  THE WALK OF BestWorth.
-/
import Derived.Test.YtocljhbkjengpaaBesLive
namespace Go.Proofs.Ytocljhbkjengpaa
open Go.RowKit

theorem bworth_v (a b : Val) (ha : ValFit a) (hb : ValFit b) {r : Int} (hr : worth a b = r) (w : World) :
    Calls Try.prog 35 #[.agg #[.int .i64 a.sh, .int .i64 a.pr, .int .i64 a.si, .string ⟨a.st.toArray⟩], .agg #[.int .i64 b.sh, .int .i64 b.pr, .int .i64 b.si, .string ⟨b.st.toArray⟩]] w fun e w' => e = .returned (.int .i64 r) ∧ Below w.heap.size w w' :=
  bworth_eq a.sh a.pr a.si b.sh b.pr b.si a.st b.st ha.sh ha.pr hb.sh hb.pr hr w

theorem worth_cases (a b : Val) : (worth a b = -1 ∧ worth b a = 1) ∨ (worth a b = 0 ∧ worth b a = 0) ∨ (worth a b = 1 ∧ worth b a = -1) := by
  unfold worth
  rcases Int.lt_trichotomy a.sh b.sh with h | h | h
  · left; rw [if_pos h, if_neg (by omega), if_pos h]; exact ⟨rfl, rfl⟩
  · rcases Int.lt_trichotomy a.pr b.pr with g | g | g
    · left; rw [if_neg (by omega), if_neg (by omega), if_pos g, if_neg (by omega), if_neg (by omega), if_neg (by omega), if_pos g]; exact ⟨rfl, rfl⟩
    · right; left; rw [if_neg (by omega), if_neg (by omega), if_neg (by omega), if_neg (by omega), if_neg (by omega), if_neg (by omega), if_neg (by omega), if_neg (by omega)]; exact ⟨rfl, rfl⟩
    · right; right; rw [if_neg (by omega), if_neg (by omega), if_neg (by omega), if_pos g, if_neg (by omega), if_neg (by omega), if_pos g]; exact ⟨rfl, rfl⟩
  · right; right; rw [if_neg (by omega), if_pos h, if_pos h]; exact ⟨rfl, rfl⟩

theorem worth_self (a : Val) : worth a a = 0 := by
  rcases worth_cases a a with ⟨h, g⟩ | ⟨h, _⟩ | ⟨h, g⟩ <;> omega

theorem worth_spec (a b : Val) : (worth a b = -1 ↔ a.sh < b.sh ∨ (a.sh = b.sh ∧ a.pr < b.pr)) ∧ (worth a b = 1 ↔ b.sh < a.sh ∨ (a.sh = b.sh ∧ b.pr < a.pr)) ∧ (worth a b = 0 ↔ a.sh = b.sh ∧ a.pr = b.pr) := by
  unfold worth
  refine ⟨⟨fun h => ?_, fun h => ?_⟩, ⟨fun h => ?_, fun h => ?_⟩, ⟨fun h => ?_, fun h => ?_⟩⟩
  all_goals (repeat' split at h) <;> (repeat' split) <;> omega

set_option maxHeartbeats 1600000 in
set_option maxRecDepth 100000 in
theorem bw_0 (w : World) (a b c : Val) (ha : ValFit a) (hb : ValFit b) (hc : ValFit c) (sa : a.st.length ≤ 60) (sb : b.st.length ≤ 60) (sc : c.st.length ≤ 60) (h1 : worth a b = -1) (h2 : worth b c = -1) (h3 : worth b a = 1) :
    Calls Try.prog 7 #[.agg #[.int .i64 a.sh, .int .i64 a.pr, .int .i64 a.si, .string ⟨a.st.toArray⟩], .agg #[.int .i64 b.sh, .int .i64 b.pr, .int .i64 b.si, .string ⟨b.st.toArray⟩], .agg #[.int .i64 c.sh, .int .i64 c.pr, .int .i64 c.si, .string ⟨c.st.toArray⟩]] w fun e w' => e = .returned (.bool true) ∧ Below w.heap.size w w' := by
  have H1 := Lib.hid (bworth_v a b ha hb h1)
  have H2 := Lib.hid (bworth_v b c hb hc h2)
  have H3 := Lib.hid (bworth_v b a hb ha h3)
  have H5 := Lib.hid (bworth_v a a ha ha (worth_self a))
  have t1 : decide (60 < (a.st.length : Int)) = false := by simp; omega
  have t2 : decide (60 < (b.st.length : Int)) = false := by simp; omega
  have t3 : decide (60 < (c.st.length : Int)) = false := by simp; omega
  have HA := Lib.hid (((cellsAt_made (w := w) (cs := #[.int .i64 a.sh, .int .i64 a.pr, .int .i64 a.si, .string ⟨a.st.toArray⟩]) (vs := [.int .i64 a.sh, .int .i64 a.pr, .int .i64 a.si, .string ⟨a.st.toArray⟩]) rfl 50 rfl).later (bl_newZ _ (.cells #[.int .i64 b.sh, .int .i64 b.pr, .int .i64 b.si, .string ⟨b.st.toArray⟩] 50))).later (bl_newZ _ (.cells #[.int .i64 c.sh, .int .i64 c.pr, .int .i64 c.si, .string ⟨c.st.toArray⟩] 50)))
  have HB := Lib.hid ((cellsAt_made (w := w.alloc (.cells #[.int .i64 a.sh, .int .i64 a.pr, .int .i64 a.si, .string ⟨a.st.toArray⟩] 50)) (cs := #[.int .i64 b.sh, .int .i64 b.pr, .int .i64 b.si, .string ⟨b.st.toArray⟩]) (vs := [.int .i64 b.sh, .int .i64 b.pr, .int .i64 b.si, .string ⟨b.st.toArray⟩]) rfl 50 (B := w.heap.size + 1) (by simp)).later (bl_newZ _ (.cells #[.int .i64 c.sh, .int .i64 c.pr, .int .i64 c.si, .string ⟨c.st.toArray⟩] 50)))
  have HC := Lib.hid (cellsAt_made (w := (w.alloc (.cells #[.int .i64 a.sh, .int .i64 a.pr, .int .i64 a.si, .string ⟨a.st.toArray⟩] 50)).alloc (.cells #[.int .i64 b.sh, .int .i64 b.pr, .int .i64 b.si, .string ⟨b.st.toArray⟩] 50)) (cs := #[.int .i64 c.sh, .int .i64 c.pr, .int .i64 c.si, .string ⟨c.st.toArray⟩]) (vs := [.int .i64 c.sh, .int .i64 c.pr, .int .i64 c.si, .string ⟨c.st.toArray⟩]) rfl 50 (B := w.heap.size + 1 + 1) (by simp))
  have BB := Lib.hid (show Below w.heap.size w (((w.alloc (.cells #[.int .i64 a.sh, .int .i64 a.pr, .int .i64 a.si, .string ⟨a.st.toArray⟩] 50)).alloc (.cells #[.int .i64 b.sh, .int .i64 b.pr, .int .i64 b.si, .string ⟨b.st.toArray⟩] 50)).alloc (.cells #[.int .i64 c.sh, .int .i64 c.pr, .int .i64 c.si, .string ⟨c.st.toArray⟩] 50)) from (((Below.refl _ _).alloc (Nat.le_refl _) _).alloc (by simp) _).alloc (by simp; omega) _)
  clear h1 h2 h3 ha hb hc sa sb sc
  go_enter Try.func7, Try.ntmps7
  go_wp2_with fail
  generalize ((w.alloc (.cells #[.int .i64 a.sh, .int .i64 a.pr, .int .i64 a.si, .string ⟨a.st.toArray⟩] 50)).alloc (.cells #[.int .i64 b.sh, .int .i64 b.pr, .int .i64 b.si, .string ⟨b.st.toArray⟩] 50)).alloc (.cells #[.int .i64 c.sh, .int .i64 c.pr, .int .i64 c.si, .string ⟨c.st.toArray⟩] 50) = W0 at HA HB HC BB ⊢
  refine (H1.out _).mono ?_
  rintro e v0 ⟨rfl, b1⟩
  replace HA := Lib.hid (HA.out.later b1)
  replace HB := Lib.hid (HB.out.later b1)
  replace HC := Lib.hid (HC.out.later b1)
  replace BB := Lib.hid (below2Z BB.out b1)
  clear b1
  have ha0 := HA.out 0 _ rfl
  have ha1 := HA.out 1 _ rfl
  have ha2 := HA.out 2 _ rfl
  have ha3 := HA.out 3 _ rfl
  simp only [Nat.zero_add] at ha0 ha1 ha2 ha3
  have hb0 := HB.out 0 _ rfl
  have hb1 := HB.out 1 _ rfl
  have hb2 := HB.out 2 _ rfl
  have hb3 := HB.out 3 _ rfl
  simp only [Nat.zero_add] at hb0 hb1 hb2 hb3
  have hc0 := HC.out 0 _ rfl
  have hc1 := HC.out 1 _ rfl
  have hc2 := HC.out 2 _ rfl
  have hc3 := HC.out 3 _ rfl
  simp only [Nat.zero_add] at hc0 hc1 hc2 hc3
  go_wp2_with fail
  clear ha0 ha1 ha2 ha3 hb0 hb1 hb2 hb3 hc0 hc1 hc2 hc3
  refine (H2.out _).mono ?_
  rintro e v1 ⟨rfl, b1⟩
  replace HA := Lib.hid (HA.out.later b1)
  replace HB := Lib.hid (HB.out.later b1)
  replace HC := Lib.hid (HC.out.later b1)
  replace BB := Lib.hid (below2Z BB.out b1)
  clear b1
  have ha0 := HA.out 0 _ rfl
  have ha1 := HA.out 1 _ rfl
  have ha2 := HA.out 2 _ rfl
  have ha3 := HA.out 3 _ rfl
  simp only [Nat.zero_add] at ha0 ha1 ha2 ha3
  have hb0 := HB.out 0 _ rfl
  have hb1 := HB.out 1 _ rfl
  have hb2 := HB.out 2 _ rfl
  have hb3 := HB.out 3 _ rfl
  simp only [Nat.zero_add] at hb0 hb1 hb2 hb3
  have hc0 := HC.out 0 _ rfl
  have hc1 := HC.out 1 _ rfl
  have hc2 := HC.out 2 _ rfl
  have hc3 := HC.out 3 _ rfl
  simp only [Nat.zero_add] at hc0 hc1 hc2 hc3
  go_wp2_with fail
  clear ha0 ha1 ha2 ha3 hb0 hb1 hb2 hb3 hc0 hc1 hc2 hc3
  refine (H3.out _).mono ?_
  rintro e v2 ⟨rfl, b1⟩
  replace HA := Lib.hid (HA.out.later b1)
  replace HB := Lib.hid (HB.out.later b1)
  replace HC := Lib.hid (HC.out.later b1)
  replace BB := Lib.hid (below2Z BB.out b1)
  clear b1
  have ha0 := HA.out 0 _ rfl
  have ha1 := HA.out 1 _ rfl
  have ha2 := HA.out 2 _ rfl
  have ha3 := HA.out 3 _ rfl
  simp only [Nat.zero_add] at ha0 ha1 ha2 ha3
  have hb0 := HB.out 0 _ rfl
  have hb1 := HB.out 1 _ rfl
  have hb2 := HB.out 2 _ rfl
  have hb3 := HB.out 3 _ rfl
  simp only [Nat.zero_add] at hb0 hb1 hb2 hb3
  have hc0 := HC.out 0 _ rfl
  have hc1 := HC.out 1 _ rfl
  have hc2 := HC.out 2 _ rfl
  have hc3 := HC.out 3 _ rfl
  simp only [Nat.zero_add] at hc0 hc1 hc2 hc3
  go_wp2_with fail
  clear ha0 ha1 ha2 ha3 hb0 hb1 hb2 hb3 hc0 hc1 hc2 hc3
  refine (H5.out _).mono ?_
  rintro e v3 ⟨rfl, b1⟩
  replace HA := Lib.hid (HA.out.later b1)
  replace HB := Lib.hid (HB.out.later b1)
  replace HC := Lib.hid (HC.out.later b1)
  replace BB := Lib.hid (below2Z BB.out b1)
  clear b1
  have ha0 := HA.out 0 _ rfl
  have ha1 := HA.out 1 _ rfl
  have ha2 := HA.out 2 _ rfl
  have ha3 := HA.out 3 _ rfl
  simp only [Nat.zero_add] at ha0 ha1 ha2 ha3
  have hb0 := HB.out 0 _ rfl
  have hb1 := HB.out 1 _ rfl
  have hb2 := HB.out 2 _ rfl
  have hb3 := HB.out 3 _ rfl
  simp only [Nat.zero_add] at hb0 hb1 hb2 hb3
  have hc0 := HC.out 0 _ rfl
  have hc1 := HC.out 1 _ rfl
  have hc2 := HC.out 2 _ rfl
  have hc3 := HC.out 3 _ rfl
  simp only [Nat.zero_add] at hc0 hc1 hc2 hc3
  go_wp2_with fail
  clear ha0 ha1 ha2 ha3 hb0 hb1 hb2 hb3 hc0 hc1 hc2 hc3
  refine (live11 _).mono ?_
  rintro e v9 ⟨rfl, b1⟩
  replace BB := Lib.hid (below2Z BB.out b1)
  clear b1
  go_wp2_with fail
  go_ret
  exact ⟨rfl, BB.out⟩

set_option maxHeartbeats 1600000 in
set_option maxRecDepth 100000 in
theorem bw_1 (w : World) (a b c : Val) (ha : ValFit a) (hb : ValFit b) (hc : ValFit c) (sa : a.st.length ≤ 60) (sb : b.st.length ≤ 60) (sc : c.st.length ≤ 60) (h1 : worth a b = -1) (h2 : worth b c = 0) (h3 : worth b a = 1) :
    Calls Try.prog 7 #[.agg #[.int .i64 a.sh, .int .i64 a.pr, .int .i64 a.si, .string ⟨a.st.toArray⟩], .agg #[.int .i64 b.sh, .int .i64 b.pr, .int .i64 b.si, .string ⟨b.st.toArray⟩], .agg #[.int .i64 c.sh, .int .i64 c.pr, .int .i64 c.si, .string ⟨c.st.toArray⟩]] w fun e w' => e = .returned (.bool true) ∧ Below w.heap.size w w' := by
  have H1 := Lib.hid (bworth_v a b ha hb h1)
  have H2 := Lib.hid (bworth_v b c hb hc h2)
  have H3 := Lib.hid (bworth_v b a hb ha h3)
  have H5 := Lib.hid (bworth_v a a ha ha (worth_self a))
  have t1 : decide (60 < (a.st.length : Int)) = false := by simp; omega
  have t2 : decide (60 < (b.st.length : Int)) = false := by simp; omega
  have t3 : decide (60 < (c.st.length : Int)) = false := by simp; omega
  have HA := Lib.hid (((cellsAt_made (w := w) (cs := #[.int .i64 a.sh, .int .i64 a.pr, .int .i64 a.si, .string ⟨a.st.toArray⟩]) (vs := [.int .i64 a.sh, .int .i64 a.pr, .int .i64 a.si, .string ⟨a.st.toArray⟩]) rfl 50 rfl).later (bl_newZ _ (.cells #[.int .i64 b.sh, .int .i64 b.pr, .int .i64 b.si, .string ⟨b.st.toArray⟩] 50))).later (bl_newZ _ (.cells #[.int .i64 c.sh, .int .i64 c.pr, .int .i64 c.si, .string ⟨c.st.toArray⟩] 50)))
  have HB := Lib.hid ((cellsAt_made (w := w.alloc (.cells #[.int .i64 a.sh, .int .i64 a.pr, .int .i64 a.si, .string ⟨a.st.toArray⟩] 50)) (cs := #[.int .i64 b.sh, .int .i64 b.pr, .int .i64 b.si, .string ⟨b.st.toArray⟩]) (vs := [.int .i64 b.sh, .int .i64 b.pr, .int .i64 b.si, .string ⟨b.st.toArray⟩]) rfl 50 (B := w.heap.size + 1) (by simp)).later (bl_newZ _ (.cells #[.int .i64 c.sh, .int .i64 c.pr, .int .i64 c.si, .string ⟨c.st.toArray⟩] 50)))
  have HC := Lib.hid (cellsAt_made (w := (w.alloc (.cells #[.int .i64 a.sh, .int .i64 a.pr, .int .i64 a.si, .string ⟨a.st.toArray⟩] 50)).alloc (.cells #[.int .i64 b.sh, .int .i64 b.pr, .int .i64 b.si, .string ⟨b.st.toArray⟩] 50)) (cs := #[.int .i64 c.sh, .int .i64 c.pr, .int .i64 c.si, .string ⟨c.st.toArray⟩]) (vs := [.int .i64 c.sh, .int .i64 c.pr, .int .i64 c.si, .string ⟨c.st.toArray⟩]) rfl 50 (B := w.heap.size + 1 + 1) (by simp))
  have BB := Lib.hid (show Below w.heap.size w (((w.alloc (.cells #[.int .i64 a.sh, .int .i64 a.pr, .int .i64 a.si, .string ⟨a.st.toArray⟩] 50)).alloc (.cells #[.int .i64 b.sh, .int .i64 b.pr, .int .i64 b.si, .string ⟨b.st.toArray⟩] 50)).alloc (.cells #[.int .i64 c.sh, .int .i64 c.pr, .int .i64 c.si, .string ⟨c.st.toArray⟩] 50)) from (((Below.refl _ _).alloc (Nat.le_refl _) _).alloc (by simp) _).alloc (by simp; omega) _)
  clear h1 h2 h3 ha hb hc sa sb sc
  go_enter Try.func7, Try.ntmps7
  go_wp2_with fail
  generalize ((w.alloc (.cells #[.int .i64 a.sh, .int .i64 a.pr, .int .i64 a.si, .string ⟨a.st.toArray⟩] 50)).alloc (.cells #[.int .i64 b.sh, .int .i64 b.pr, .int .i64 b.si, .string ⟨b.st.toArray⟩] 50)).alloc (.cells #[.int .i64 c.sh, .int .i64 c.pr, .int .i64 c.si, .string ⟨c.st.toArray⟩] 50) = W0 at HA HB HC BB ⊢
  refine (H1.out _).mono ?_
  rintro e v0 ⟨rfl, b1⟩
  replace HA := Lib.hid (HA.out.later b1)
  replace HB := Lib.hid (HB.out.later b1)
  replace HC := Lib.hid (HC.out.later b1)
  replace BB := Lib.hid (below2Z BB.out b1)
  clear b1
  have ha0 := HA.out 0 _ rfl
  have ha1 := HA.out 1 _ rfl
  have ha2 := HA.out 2 _ rfl
  have ha3 := HA.out 3 _ rfl
  simp only [Nat.zero_add] at ha0 ha1 ha2 ha3
  have hb0 := HB.out 0 _ rfl
  have hb1 := HB.out 1 _ rfl
  have hb2 := HB.out 2 _ rfl
  have hb3 := HB.out 3 _ rfl
  simp only [Nat.zero_add] at hb0 hb1 hb2 hb3
  have hc0 := HC.out 0 _ rfl
  have hc1 := HC.out 1 _ rfl
  have hc2 := HC.out 2 _ rfl
  have hc3 := HC.out 3 _ rfl
  simp only [Nat.zero_add] at hc0 hc1 hc2 hc3
  go_wp2_with fail
  clear ha0 ha1 ha2 ha3 hb0 hb1 hb2 hb3 hc0 hc1 hc2 hc3
  refine (H2.out _).mono ?_
  rintro e v1 ⟨rfl, b1⟩
  replace HA := Lib.hid (HA.out.later b1)
  replace HB := Lib.hid (HB.out.later b1)
  replace HC := Lib.hid (HC.out.later b1)
  replace BB := Lib.hid (below2Z BB.out b1)
  clear b1
  have ha0 := HA.out 0 _ rfl
  have ha1 := HA.out 1 _ rfl
  have ha2 := HA.out 2 _ rfl
  have ha3 := HA.out 3 _ rfl
  simp only [Nat.zero_add] at ha0 ha1 ha2 ha3
  have hb0 := HB.out 0 _ rfl
  have hb1 := HB.out 1 _ rfl
  have hb2 := HB.out 2 _ rfl
  have hb3 := HB.out 3 _ rfl
  simp only [Nat.zero_add] at hb0 hb1 hb2 hb3
  have hc0 := HC.out 0 _ rfl
  have hc1 := HC.out 1 _ rfl
  have hc2 := HC.out 2 _ rfl
  have hc3 := HC.out 3 _ rfl
  simp only [Nat.zero_add] at hc0 hc1 hc2 hc3
  go_wp2_with fail
  clear ha0 ha1 ha2 ha3 hb0 hb1 hb2 hb3 hc0 hc1 hc2 hc3
  refine (H3.out _).mono ?_
  rintro e v2 ⟨rfl, b1⟩
  replace HA := Lib.hid (HA.out.later b1)
  replace HB := Lib.hid (HB.out.later b1)
  replace HC := Lib.hid (HC.out.later b1)
  replace BB := Lib.hid (below2Z BB.out b1)
  clear b1
  have ha0 := HA.out 0 _ rfl
  have ha1 := HA.out 1 _ rfl
  have ha2 := HA.out 2 _ rfl
  have ha3 := HA.out 3 _ rfl
  simp only [Nat.zero_add] at ha0 ha1 ha2 ha3
  have hb0 := HB.out 0 _ rfl
  have hb1 := HB.out 1 _ rfl
  have hb2 := HB.out 2 _ rfl
  have hb3 := HB.out 3 _ rfl
  simp only [Nat.zero_add] at hb0 hb1 hb2 hb3
  have hc0 := HC.out 0 _ rfl
  have hc1 := HC.out 1 _ rfl
  have hc2 := HC.out 2 _ rfl
  have hc3 := HC.out 3 _ rfl
  simp only [Nat.zero_add] at hc0 hc1 hc2 hc3
  go_wp2_with fail
  clear ha0 ha1 ha2 ha3 hb0 hb1 hb2 hb3 hc0 hc1 hc2 hc3
  refine (H5.out _).mono ?_
  rintro e v3 ⟨rfl, b1⟩
  replace HA := Lib.hid (HA.out.later b1)
  replace HB := Lib.hid (HB.out.later b1)
  replace HC := Lib.hid (HC.out.later b1)
  replace BB := Lib.hid (below2Z BB.out b1)
  clear b1
  have ha0 := HA.out 0 _ rfl
  have ha1 := HA.out 1 _ rfl
  have ha2 := HA.out 2 _ rfl
  have ha3 := HA.out 3 _ rfl
  simp only [Nat.zero_add] at ha0 ha1 ha2 ha3
  have hb0 := HB.out 0 _ rfl
  have hb1 := HB.out 1 _ rfl
  have hb2 := HB.out 2 _ rfl
  have hb3 := HB.out 3 _ rfl
  simp only [Nat.zero_add] at hb0 hb1 hb2 hb3
  have hc0 := HC.out 0 _ rfl
  have hc1 := HC.out 1 _ rfl
  have hc2 := HC.out 2 _ rfl
  have hc3 := HC.out 3 _ rfl
  simp only [Nat.zero_add] at hc0 hc1 hc2 hc3
  go_wp2_with fail
  clear ha0 ha1 ha2 ha3 hb0 hb1 hb2 hb3 hc0 hc1 hc2 hc3
  refine (live11 _).mono ?_
  rintro e v9 ⟨rfl, b1⟩
  replace BB := Lib.hid (below2Z BB.out b1)
  clear b1
  go_wp2_with fail
  go_ret
  exact ⟨rfl, BB.out⟩

set_option maxHeartbeats 1600000 in
set_option maxRecDepth 100000 in
theorem bw_2 (w : World) (a b c : Val) (ha : ValFit a) (hb : ValFit b) (hc : ValFit c) (sa : a.st.length ≤ 60) (sb : b.st.length ≤ 60) (sc : c.st.length ≤ 60) (h1 : worth a b = -1) (h2 : worth b c = 1) (h3 : worth b a = 1) :
    Calls Try.prog 7 #[.agg #[.int .i64 a.sh, .int .i64 a.pr, .int .i64 a.si, .string ⟨a.st.toArray⟩], .agg #[.int .i64 b.sh, .int .i64 b.pr, .int .i64 b.si, .string ⟨b.st.toArray⟩], .agg #[.int .i64 c.sh, .int .i64 c.pr, .int .i64 c.si, .string ⟨c.st.toArray⟩]] w fun e w' => e = .returned (.bool true) ∧ Below w.heap.size w w' := by
  have H1 := Lib.hid (bworth_v a b ha hb h1)
  have H2 := Lib.hid (bworth_v b c hb hc h2)
  have H3 := Lib.hid (bworth_v b a hb ha h3)
  have H5 := Lib.hid (bworth_v a a ha ha (worth_self a))
  have t1 : decide (60 < (a.st.length : Int)) = false := by simp; omega
  have t2 : decide (60 < (b.st.length : Int)) = false := by simp; omega
  have t3 : decide (60 < (c.st.length : Int)) = false := by simp; omega
  have HA := Lib.hid (((cellsAt_made (w := w) (cs := #[.int .i64 a.sh, .int .i64 a.pr, .int .i64 a.si, .string ⟨a.st.toArray⟩]) (vs := [.int .i64 a.sh, .int .i64 a.pr, .int .i64 a.si, .string ⟨a.st.toArray⟩]) rfl 50 rfl).later (bl_newZ _ (.cells #[.int .i64 b.sh, .int .i64 b.pr, .int .i64 b.si, .string ⟨b.st.toArray⟩] 50))).later (bl_newZ _ (.cells #[.int .i64 c.sh, .int .i64 c.pr, .int .i64 c.si, .string ⟨c.st.toArray⟩] 50)))
  have HB := Lib.hid ((cellsAt_made (w := w.alloc (.cells #[.int .i64 a.sh, .int .i64 a.pr, .int .i64 a.si, .string ⟨a.st.toArray⟩] 50)) (cs := #[.int .i64 b.sh, .int .i64 b.pr, .int .i64 b.si, .string ⟨b.st.toArray⟩]) (vs := [.int .i64 b.sh, .int .i64 b.pr, .int .i64 b.si, .string ⟨b.st.toArray⟩]) rfl 50 (B := w.heap.size + 1) (by simp)).later (bl_newZ _ (.cells #[.int .i64 c.sh, .int .i64 c.pr, .int .i64 c.si, .string ⟨c.st.toArray⟩] 50)))
  have HC := Lib.hid (cellsAt_made (w := (w.alloc (.cells #[.int .i64 a.sh, .int .i64 a.pr, .int .i64 a.si, .string ⟨a.st.toArray⟩] 50)).alloc (.cells #[.int .i64 b.sh, .int .i64 b.pr, .int .i64 b.si, .string ⟨b.st.toArray⟩] 50)) (cs := #[.int .i64 c.sh, .int .i64 c.pr, .int .i64 c.si, .string ⟨c.st.toArray⟩]) (vs := [.int .i64 c.sh, .int .i64 c.pr, .int .i64 c.si, .string ⟨c.st.toArray⟩]) rfl 50 (B := w.heap.size + 1 + 1) (by simp))
  have BB := Lib.hid (show Below w.heap.size w (((w.alloc (.cells #[.int .i64 a.sh, .int .i64 a.pr, .int .i64 a.si, .string ⟨a.st.toArray⟩] 50)).alloc (.cells #[.int .i64 b.sh, .int .i64 b.pr, .int .i64 b.si, .string ⟨b.st.toArray⟩] 50)).alloc (.cells #[.int .i64 c.sh, .int .i64 c.pr, .int .i64 c.si, .string ⟨c.st.toArray⟩] 50)) from (((Below.refl _ _).alloc (Nat.le_refl _) _).alloc (by simp) _).alloc (by simp; omega) _)
  clear h1 h2 h3 ha hb hc sa sb sc
  go_enter Try.func7, Try.ntmps7
  go_wp2_with fail
  generalize ((w.alloc (.cells #[.int .i64 a.sh, .int .i64 a.pr, .int .i64 a.si, .string ⟨a.st.toArray⟩] 50)).alloc (.cells #[.int .i64 b.sh, .int .i64 b.pr, .int .i64 b.si, .string ⟨b.st.toArray⟩] 50)).alloc (.cells #[.int .i64 c.sh, .int .i64 c.pr, .int .i64 c.si, .string ⟨c.st.toArray⟩] 50) = W0 at HA HB HC BB ⊢
  refine (H1.out _).mono ?_
  rintro e v0 ⟨rfl, b1⟩
  replace HA := Lib.hid (HA.out.later b1)
  replace HB := Lib.hid (HB.out.later b1)
  replace HC := Lib.hid (HC.out.later b1)
  replace BB := Lib.hid (below2Z BB.out b1)
  clear b1
  have ha0 := HA.out 0 _ rfl
  have ha1 := HA.out 1 _ rfl
  have ha2 := HA.out 2 _ rfl
  have ha3 := HA.out 3 _ rfl
  simp only [Nat.zero_add] at ha0 ha1 ha2 ha3
  have hb0 := HB.out 0 _ rfl
  have hb1 := HB.out 1 _ rfl
  have hb2 := HB.out 2 _ rfl
  have hb3 := HB.out 3 _ rfl
  simp only [Nat.zero_add] at hb0 hb1 hb2 hb3
  have hc0 := HC.out 0 _ rfl
  have hc1 := HC.out 1 _ rfl
  have hc2 := HC.out 2 _ rfl
  have hc3 := HC.out 3 _ rfl
  simp only [Nat.zero_add] at hc0 hc1 hc2 hc3
  go_wp2_with fail
  clear ha0 ha1 ha2 ha3 hb0 hb1 hb2 hb3 hc0 hc1 hc2 hc3
  refine (H2.out _).mono ?_
  rintro e v1 ⟨rfl, b1⟩
  replace HA := Lib.hid (HA.out.later b1)
  replace HB := Lib.hid (HB.out.later b1)
  replace HC := Lib.hid (HC.out.later b1)
  replace BB := Lib.hid (below2Z BB.out b1)
  clear b1
  have ha0 := HA.out 0 _ rfl
  have ha1 := HA.out 1 _ rfl
  have ha2 := HA.out 2 _ rfl
  have ha3 := HA.out 3 _ rfl
  simp only [Nat.zero_add] at ha0 ha1 ha2 ha3
  have hb0 := HB.out 0 _ rfl
  have hb1 := HB.out 1 _ rfl
  have hb2 := HB.out 2 _ rfl
  have hb3 := HB.out 3 _ rfl
  simp only [Nat.zero_add] at hb0 hb1 hb2 hb3
  have hc0 := HC.out 0 _ rfl
  have hc1 := HC.out 1 _ rfl
  have hc2 := HC.out 2 _ rfl
  have hc3 := HC.out 3 _ rfl
  simp only [Nat.zero_add] at hc0 hc1 hc2 hc3
  go_wp2_with fail
  clear ha0 ha1 ha2 ha3 hb0 hb1 hb2 hb3 hc0 hc1 hc2 hc3
  refine (H3.out _).mono ?_
  rintro e v2 ⟨rfl, b1⟩
  replace HA := Lib.hid (HA.out.later b1)
  replace HB := Lib.hid (HB.out.later b1)
  replace HC := Lib.hid (HC.out.later b1)
  replace BB := Lib.hid (below2Z BB.out b1)
  clear b1
  have ha0 := HA.out 0 _ rfl
  have ha1 := HA.out 1 _ rfl
  have ha2 := HA.out 2 _ rfl
  have ha3 := HA.out 3 _ rfl
  simp only [Nat.zero_add] at ha0 ha1 ha2 ha3
  have hb0 := HB.out 0 _ rfl
  have hb1 := HB.out 1 _ rfl
  have hb2 := HB.out 2 _ rfl
  have hb3 := HB.out 3 _ rfl
  simp only [Nat.zero_add] at hb0 hb1 hb2 hb3
  have hc0 := HC.out 0 _ rfl
  have hc1 := HC.out 1 _ rfl
  have hc2 := HC.out 2 _ rfl
  have hc3 := HC.out 3 _ rfl
  simp only [Nat.zero_add] at hc0 hc1 hc2 hc3
  go_wp2_with fail
  clear ha0 ha1 ha2 ha3 hb0 hb1 hb2 hb3 hc0 hc1 hc2 hc3
  refine (H5.out _).mono ?_
  rintro e v3 ⟨rfl, b1⟩
  replace HA := Lib.hid (HA.out.later b1)
  replace HB := Lib.hid (HB.out.later b1)
  replace HC := Lib.hid (HC.out.later b1)
  replace BB := Lib.hid (below2Z BB.out b1)
  clear b1
  have ha0 := HA.out 0 _ rfl
  have ha1 := HA.out 1 _ rfl
  have ha2 := HA.out 2 _ rfl
  have ha3 := HA.out 3 _ rfl
  simp only [Nat.zero_add] at ha0 ha1 ha2 ha3
  have hb0 := HB.out 0 _ rfl
  have hb1 := HB.out 1 _ rfl
  have hb2 := HB.out 2 _ rfl
  have hb3 := HB.out 3 _ rfl
  simp only [Nat.zero_add] at hb0 hb1 hb2 hb3
  have hc0 := HC.out 0 _ rfl
  have hc1 := HC.out 1 _ rfl
  have hc2 := HC.out 2 _ rfl
  have hc3 := HC.out 3 _ rfl
  simp only [Nat.zero_add] at hc0 hc1 hc2 hc3
  go_wp2_with fail
  clear ha0 ha1 ha2 ha3 hb0 hb1 hb2 hb3 hc0 hc1 hc2 hc3
  refine (live11 _).mono ?_
  rintro e v9 ⟨rfl, b1⟩
  replace BB := Lib.hid (below2Z BB.out b1)
  clear b1
  go_wp2_with fail
  go_ret
  exact ⟨rfl, BB.out⟩

set_option maxHeartbeats 1600000 in
set_option maxRecDepth 100000 in
theorem bw_3 (w : World) (a b c : Val) (ha : ValFit a) (hb : ValFit b) (hc : ValFit c) (sa : a.st.length ≤ 60) (sb : b.st.length ≤ 60) (sc : c.st.length ≤ 60) (h1 : worth a b = 0) (h2 : worth b c = -1) (h3 : worth b a = 0) :
    Calls Try.prog 7 #[.agg #[.int .i64 a.sh, .int .i64 a.pr, .int .i64 a.si, .string ⟨a.st.toArray⟩], .agg #[.int .i64 b.sh, .int .i64 b.pr, .int .i64 b.si, .string ⟨b.st.toArray⟩], .agg #[.int .i64 c.sh, .int .i64 c.pr, .int .i64 c.si, .string ⟨c.st.toArray⟩]] w fun e w' => e = .returned (.bool true) ∧ Below w.heap.size w w' := by
  have H1 := Lib.hid (bworth_v a b ha hb h1)
  have H2 := Lib.hid (bworth_v b c hb hc h2)
  have H3 := Lib.hid (bworth_v b a hb ha h3)
  have H5 := Lib.hid (bworth_v a a ha ha (worth_self a))
  have t1 : decide (60 < (a.st.length : Int)) = false := by simp; omega
  have t2 : decide (60 < (b.st.length : Int)) = false := by simp; omega
  have t3 : decide (60 < (c.st.length : Int)) = false := by simp; omega
  have HA := Lib.hid (((cellsAt_made (w := w) (cs := #[.int .i64 a.sh, .int .i64 a.pr, .int .i64 a.si, .string ⟨a.st.toArray⟩]) (vs := [.int .i64 a.sh, .int .i64 a.pr, .int .i64 a.si, .string ⟨a.st.toArray⟩]) rfl 50 rfl).later (bl_newZ _ (.cells #[.int .i64 b.sh, .int .i64 b.pr, .int .i64 b.si, .string ⟨b.st.toArray⟩] 50))).later (bl_newZ _ (.cells #[.int .i64 c.sh, .int .i64 c.pr, .int .i64 c.si, .string ⟨c.st.toArray⟩] 50)))
  have HB := Lib.hid ((cellsAt_made (w := w.alloc (.cells #[.int .i64 a.sh, .int .i64 a.pr, .int .i64 a.si, .string ⟨a.st.toArray⟩] 50)) (cs := #[.int .i64 b.sh, .int .i64 b.pr, .int .i64 b.si, .string ⟨b.st.toArray⟩]) (vs := [.int .i64 b.sh, .int .i64 b.pr, .int .i64 b.si, .string ⟨b.st.toArray⟩]) rfl 50 (B := w.heap.size + 1) (by simp)).later (bl_newZ _ (.cells #[.int .i64 c.sh, .int .i64 c.pr, .int .i64 c.si, .string ⟨c.st.toArray⟩] 50)))
  have HC := Lib.hid (cellsAt_made (w := (w.alloc (.cells #[.int .i64 a.sh, .int .i64 a.pr, .int .i64 a.si, .string ⟨a.st.toArray⟩] 50)).alloc (.cells #[.int .i64 b.sh, .int .i64 b.pr, .int .i64 b.si, .string ⟨b.st.toArray⟩] 50)) (cs := #[.int .i64 c.sh, .int .i64 c.pr, .int .i64 c.si, .string ⟨c.st.toArray⟩]) (vs := [.int .i64 c.sh, .int .i64 c.pr, .int .i64 c.si, .string ⟨c.st.toArray⟩]) rfl 50 (B := w.heap.size + 1 + 1) (by simp))
  have BB := Lib.hid (show Below w.heap.size w (((w.alloc (.cells #[.int .i64 a.sh, .int .i64 a.pr, .int .i64 a.si, .string ⟨a.st.toArray⟩] 50)).alloc (.cells #[.int .i64 b.sh, .int .i64 b.pr, .int .i64 b.si, .string ⟨b.st.toArray⟩] 50)).alloc (.cells #[.int .i64 c.sh, .int .i64 c.pr, .int .i64 c.si, .string ⟨c.st.toArray⟩] 50)) from (((Below.refl _ _).alloc (Nat.le_refl _) _).alloc (by simp) _).alloc (by simp; omega) _)
  clear h1 h2 h3 ha hb hc sa sb sc
  go_enter Try.func7, Try.ntmps7
  go_wp2_with fail
  generalize ((w.alloc (.cells #[.int .i64 a.sh, .int .i64 a.pr, .int .i64 a.si, .string ⟨a.st.toArray⟩] 50)).alloc (.cells #[.int .i64 b.sh, .int .i64 b.pr, .int .i64 b.si, .string ⟨b.st.toArray⟩] 50)).alloc (.cells #[.int .i64 c.sh, .int .i64 c.pr, .int .i64 c.si, .string ⟨c.st.toArray⟩] 50) = W0 at HA HB HC BB ⊢
  refine (H1.out _).mono ?_
  rintro e v0 ⟨rfl, b1⟩
  replace HA := Lib.hid (HA.out.later b1)
  replace HB := Lib.hid (HB.out.later b1)
  replace HC := Lib.hid (HC.out.later b1)
  replace BB := Lib.hid (below2Z BB.out b1)
  clear b1
  have ha0 := HA.out 0 _ rfl
  have ha1 := HA.out 1 _ rfl
  have ha2 := HA.out 2 _ rfl
  have ha3 := HA.out 3 _ rfl
  simp only [Nat.zero_add] at ha0 ha1 ha2 ha3
  have hb0 := HB.out 0 _ rfl
  have hb1 := HB.out 1 _ rfl
  have hb2 := HB.out 2 _ rfl
  have hb3 := HB.out 3 _ rfl
  simp only [Nat.zero_add] at hb0 hb1 hb2 hb3
  have hc0 := HC.out 0 _ rfl
  have hc1 := HC.out 1 _ rfl
  have hc2 := HC.out 2 _ rfl
  have hc3 := HC.out 3 _ rfl
  simp only [Nat.zero_add] at hc0 hc1 hc2 hc3
  go_wp2_with fail
  clear ha0 ha1 ha2 ha3 hb0 hb1 hb2 hb3 hc0 hc1 hc2 hc3
  refine (H2.out _).mono ?_
  rintro e v1 ⟨rfl, b1⟩
  replace HA := Lib.hid (HA.out.later b1)
  replace HB := Lib.hid (HB.out.later b1)
  replace HC := Lib.hid (HC.out.later b1)
  replace BB := Lib.hid (below2Z BB.out b1)
  clear b1
  have ha0 := HA.out 0 _ rfl
  have ha1 := HA.out 1 _ rfl
  have ha2 := HA.out 2 _ rfl
  have ha3 := HA.out 3 _ rfl
  simp only [Nat.zero_add] at ha0 ha1 ha2 ha3
  have hb0 := HB.out 0 _ rfl
  have hb1 := HB.out 1 _ rfl
  have hb2 := HB.out 2 _ rfl
  have hb3 := HB.out 3 _ rfl
  simp only [Nat.zero_add] at hb0 hb1 hb2 hb3
  have hc0 := HC.out 0 _ rfl
  have hc1 := HC.out 1 _ rfl
  have hc2 := HC.out 2 _ rfl
  have hc3 := HC.out 3 _ rfl
  simp only [Nat.zero_add] at hc0 hc1 hc2 hc3
  go_wp2_with fail
  clear ha0 ha1 ha2 ha3 hb0 hb1 hb2 hb3 hc0 hc1 hc2 hc3
  refine (H3.out _).mono ?_
  rintro e v2 ⟨rfl, b1⟩
  replace HA := Lib.hid (HA.out.later b1)
  replace HB := Lib.hid (HB.out.later b1)
  replace HC := Lib.hid (HC.out.later b1)
  replace BB := Lib.hid (below2Z BB.out b1)
  clear b1
  have ha0 := HA.out 0 _ rfl
  have ha1 := HA.out 1 _ rfl
  have ha2 := HA.out 2 _ rfl
  have ha3 := HA.out 3 _ rfl
  simp only [Nat.zero_add] at ha0 ha1 ha2 ha3
  have hb0 := HB.out 0 _ rfl
  have hb1 := HB.out 1 _ rfl
  have hb2 := HB.out 2 _ rfl
  have hb3 := HB.out 3 _ rfl
  simp only [Nat.zero_add] at hb0 hb1 hb2 hb3
  have hc0 := HC.out 0 _ rfl
  have hc1 := HC.out 1 _ rfl
  have hc2 := HC.out 2 _ rfl
  have hc3 := HC.out 3 _ rfl
  simp only [Nat.zero_add] at hc0 hc1 hc2 hc3
  go_wp2_with fail
  clear ha0 ha1 ha2 ha3 hb0 hb1 hb2 hb3 hc0 hc1 hc2 hc3
  refine (H5.out _).mono ?_
  rintro e v3 ⟨rfl, b1⟩
  replace HA := Lib.hid (HA.out.later b1)
  replace HB := Lib.hid (HB.out.later b1)
  replace HC := Lib.hid (HC.out.later b1)
  replace BB := Lib.hid (below2Z BB.out b1)
  clear b1
  have ha0 := HA.out 0 _ rfl
  have ha1 := HA.out 1 _ rfl
  have ha2 := HA.out 2 _ rfl
  have ha3 := HA.out 3 _ rfl
  simp only [Nat.zero_add] at ha0 ha1 ha2 ha3
  have hb0 := HB.out 0 _ rfl
  have hb1 := HB.out 1 _ rfl
  have hb2 := HB.out 2 _ rfl
  have hb3 := HB.out 3 _ rfl
  simp only [Nat.zero_add] at hb0 hb1 hb2 hb3
  have hc0 := HC.out 0 _ rfl
  have hc1 := HC.out 1 _ rfl
  have hc2 := HC.out 2 _ rfl
  have hc3 := HC.out 3 _ rfl
  simp only [Nat.zero_add] at hc0 hc1 hc2 hc3
  go_wp2_with fail
  clear ha0 ha1 ha2 ha3 hb0 hb1 hb2 hb3 hc0 hc1 hc2 hc3
  refine (live11 _).mono ?_
  rintro e v9 ⟨rfl, b1⟩
  replace BB := Lib.hid (below2Z BB.out b1)
  clear b1
  go_wp2_with fail
  go_ret
  exact ⟨rfl, BB.out⟩

set_option maxHeartbeats 1600000 in
set_option maxRecDepth 100000 in
theorem bw_4 (w : World) (a b c : Val) (ha : ValFit a) (hb : ValFit b) (hc : ValFit c) (sa : a.st.length ≤ 60) (sb : b.st.length ≤ 60) (sc : c.st.length ≤ 60) (h1 : worth a b = 0) (h2 : worth b c = 0) (h3 : worth b a = 0) (h4 : worth a c = 0) :
    Calls Try.prog 7 #[.agg #[.int .i64 a.sh, .int .i64 a.pr, .int .i64 a.si, .string ⟨a.st.toArray⟩], .agg #[.int .i64 b.sh, .int .i64 b.pr, .int .i64 b.si, .string ⟨b.st.toArray⟩], .agg #[.int .i64 c.sh, .int .i64 c.pr, .int .i64 c.si, .string ⟨c.st.toArray⟩]] w fun e w' => e = .returned (.bool true) ∧ Below w.heap.size w w' := by
  have H1 := Lib.hid (bworth_v a b ha hb h1)
  have H2 := Lib.hid (bworth_v b c hb hc h2)
  have H3 := Lib.hid (bworth_v b a hb ha h3)
  have H5 := Lib.hid (bworth_v a a ha ha (worth_self a))
  have H4 := Lib.hid (bworth_v a c ha hc h4)
  have t1 : decide (60 < (a.st.length : Int)) = false := by simp; omega
  have t2 : decide (60 < (b.st.length : Int)) = false := by simp; omega
  have t3 : decide (60 < (c.st.length : Int)) = false := by simp; omega
  have HA := Lib.hid (((cellsAt_made (w := w) (cs := #[.int .i64 a.sh, .int .i64 a.pr, .int .i64 a.si, .string ⟨a.st.toArray⟩]) (vs := [.int .i64 a.sh, .int .i64 a.pr, .int .i64 a.si, .string ⟨a.st.toArray⟩]) rfl 50 rfl).later (bl_newZ _ (.cells #[.int .i64 b.sh, .int .i64 b.pr, .int .i64 b.si, .string ⟨b.st.toArray⟩] 50))).later (bl_newZ _ (.cells #[.int .i64 c.sh, .int .i64 c.pr, .int .i64 c.si, .string ⟨c.st.toArray⟩] 50)))
  have HB := Lib.hid ((cellsAt_made (w := w.alloc (.cells #[.int .i64 a.sh, .int .i64 a.pr, .int .i64 a.si, .string ⟨a.st.toArray⟩] 50)) (cs := #[.int .i64 b.sh, .int .i64 b.pr, .int .i64 b.si, .string ⟨b.st.toArray⟩]) (vs := [.int .i64 b.sh, .int .i64 b.pr, .int .i64 b.si, .string ⟨b.st.toArray⟩]) rfl 50 (B := w.heap.size + 1) (by simp)).later (bl_newZ _ (.cells #[.int .i64 c.sh, .int .i64 c.pr, .int .i64 c.si, .string ⟨c.st.toArray⟩] 50)))
  have HC := Lib.hid (cellsAt_made (w := (w.alloc (.cells #[.int .i64 a.sh, .int .i64 a.pr, .int .i64 a.si, .string ⟨a.st.toArray⟩] 50)).alloc (.cells #[.int .i64 b.sh, .int .i64 b.pr, .int .i64 b.si, .string ⟨b.st.toArray⟩] 50)) (cs := #[.int .i64 c.sh, .int .i64 c.pr, .int .i64 c.si, .string ⟨c.st.toArray⟩]) (vs := [.int .i64 c.sh, .int .i64 c.pr, .int .i64 c.si, .string ⟨c.st.toArray⟩]) rfl 50 (B := w.heap.size + 1 + 1) (by simp))
  have BB := Lib.hid (show Below w.heap.size w (((w.alloc (.cells #[.int .i64 a.sh, .int .i64 a.pr, .int .i64 a.si, .string ⟨a.st.toArray⟩] 50)).alloc (.cells #[.int .i64 b.sh, .int .i64 b.pr, .int .i64 b.si, .string ⟨b.st.toArray⟩] 50)).alloc (.cells #[.int .i64 c.sh, .int .i64 c.pr, .int .i64 c.si, .string ⟨c.st.toArray⟩] 50)) from (((Below.refl _ _).alloc (Nat.le_refl _) _).alloc (by simp) _).alloc (by simp; omega) _)
  clear h1 h2 h3 ha hb hc sa sb sc h4
  go_enter Try.func7, Try.ntmps7
  go_wp2_with fail
  generalize ((w.alloc (.cells #[.int .i64 a.sh, .int .i64 a.pr, .int .i64 a.si, .string ⟨a.st.toArray⟩] 50)).alloc (.cells #[.int .i64 b.sh, .int .i64 b.pr, .int .i64 b.si, .string ⟨b.st.toArray⟩] 50)).alloc (.cells #[.int .i64 c.sh, .int .i64 c.pr, .int .i64 c.si, .string ⟨c.st.toArray⟩] 50) = W0 at HA HB HC BB ⊢
  refine (H1.out _).mono ?_
  rintro e v0 ⟨rfl, b1⟩
  replace HA := Lib.hid (HA.out.later b1)
  replace HB := Lib.hid (HB.out.later b1)
  replace HC := Lib.hid (HC.out.later b1)
  replace BB := Lib.hid (below2Z BB.out b1)
  clear b1
  have ha0 := HA.out 0 _ rfl
  have ha1 := HA.out 1 _ rfl
  have ha2 := HA.out 2 _ rfl
  have ha3 := HA.out 3 _ rfl
  simp only [Nat.zero_add] at ha0 ha1 ha2 ha3
  have hb0 := HB.out 0 _ rfl
  have hb1 := HB.out 1 _ rfl
  have hb2 := HB.out 2 _ rfl
  have hb3 := HB.out 3 _ rfl
  simp only [Nat.zero_add] at hb0 hb1 hb2 hb3
  have hc0 := HC.out 0 _ rfl
  have hc1 := HC.out 1 _ rfl
  have hc2 := HC.out 2 _ rfl
  have hc3 := HC.out 3 _ rfl
  simp only [Nat.zero_add] at hc0 hc1 hc2 hc3
  go_wp2_with fail
  clear ha0 ha1 ha2 ha3 hb0 hb1 hb2 hb3 hc0 hc1 hc2 hc3
  refine (H2.out _).mono ?_
  rintro e v1 ⟨rfl, b1⟩
  replace HA := Lib.hid (HA.out.later b1)
  replace HB := Lib.hid (HB.out.later b1)
  replace HC := Lib.hid (HC.out.later b1)
  replace BB := Lib.hid (below2Z BB.out b1)
  clear b1
  have ha0 := HA.out 0 _ rfl
  have ha1 := HA.out 1 _ rfl
  have ha2 := HA.out 2 _ rfl
  have ha3 := HA.out 3 _ rfl
  simp only [Nat.zero_add] at ha0 ha1 ha2 ha3
  have hb0 := HB.out 0 _ rfl
  have hb1 := HB.out 1 _ rfl
  have hb2 := HB.out 2 _ rfl
  have hb3 := HB.out 3 _ rfl
  simp only [Nat.zero_add] at hb0 hb1 hb2 hb3
  have hc0 := HC.out 0 _ rfl
  have hc1 := HC.out 1 _ rfl
  have hc2 := HC.out 2 _ rfl
  have hc3 := HC.out 3 _ rfl
  simp only [Nat.zero_add] at hc0 hc1 hc2 hc3
  go_wp2_with fail
  clear ha0 ha1 ha2 ha3 hb0 hb1 hb2 hb3 hc0 hc1 hc2 hc3
  refine (H3.out _).mono ?_
  rintro e v2 ⟨rfl, b1⟩
  replace HA := Lib.hid (HA.out.later b1)
  replace HB := Lib.hid (HB.out.later b1)
  replace HC := Lib.hid (HC.out.later b1)
  replace BB := Lib.hid (below2Z BB.out b1)
  clear b1
  have ha0 := HA.out 0 _ rfl
  have ha1 := HA.out 1 _ rfl
  have ha2 := HA.out 2 _ rfl
  have ha3 := HA.out 3 _ rfl
  simp only [Nat.zero_add] at ha0 ha1 ha2 ha3
  have hb0 := HB.out 0 _ rfl
  have hb1 := HB.out 1 _ rfl
  have hb2 := HB.out 2 _ rfl
  have hb3 := HB.out 3 _ rfl
  simp only [Nat.zero_add] at hb0 hb1 hb2 hb3
  have hc0 := HC.out 0 _ rfl
  have hc1 := HC.out 1 _ rfl
  have hc2 := HC.out 2 _ rfl
  have hc3 := HC.out 3 _ rfl
  simp only [Nat.zero_add] at hc0 hc1 hc2 hc3
  go_wp2_with fail
  clear ha0 ha1 ha2 ha3 hb0 hb1 hb2 hb3 hc0 hc1 hc2 hc3
  refine (H5.out _).mono ?_
  rintro e v3 ⟨rfl, b1⟩
  replace HA := Lib.hid (HA.out.later b1)
  replace HB := Lib.hid (HB.out.later b1)
  replace HC := Lib.hid (HC.out.later b1)
  replace BB := Lib.hid (below2Z BB.out b1)
  clear b1
  have ha0 := HA.out 0 _ rfl
  have ha1 := HA.out 1 _ rfl
  have ha2 := HA.out 2 _ rfl
  have ha3 := HA.out 3 _ rfl
  simp only [Nat.zero_add] at ha0 ha1 ha2 ha3
  have hb0 := HB.out 0 _ rfl
  have hb1 := HB.out 1 _ rfl
  have hb2 := HB.out 2 _ rfl
  have hb3 := HB.out 3 _ rfl
  simp only [Nat.zero_add] at hb0 hb1 hb2 hb3
  have hc0 := HC.out 0 _ rfl
  have hc1 := HC.out 1 _ rfl
  have hc2 := HC.out 2 _ rfl
  have hc3 := HC.out 3 _ rfl
  simp only [Nat.zero_add] at hc0 hc1 hc2 hc3
  go_wp2_with fail
  clear ha0 ha1 ha2 ha3 hb0 hb1 hb2 hb3 hc0 hc1 hc2 hc3
  refine (H4.out _).mono ?_
  rintro e v4 ⟨rfl, b1⟩
  replace HA := Lib.hid (HA.out.later b1)
  replace HB := Lib.hid (HB.out.later b1)
  replace HC := Lib.hid (HC.out.later b1)
  replace BB := Lib.hid (below2Z BB.out b1)
  clear b1
  have ha0 := HA.out 0 _ rfl
  have ha1 := HA.out 1 _ rfl
  have ha2 := HA.out 2 _ rfl
  have ha3 := HA.out 3 _ rfl
  simp only [Nat.zero_add] at ha0 ha1 ha2 ha3
  have hb0 := HB.out 0 _ rfl
  have hb1 := HB.out 1 _ rfl
  have hb2 := HB.out 2 _ rfl
  have hb3 := HB.out 3 _ rfl
  simp only [Nat.zero_add] at hb0 hb1 hb2 hb3
  have hc0 := HC.out 0 _ rfl
  have hc1 := HC.out 1 _ rfl
  have hc2 := HC.out 2 _ rfl
  have hc3 := HC.out 3 _ rfl
  simp only [Nat.zero_add] at hc0 hc1 hc2 hc3
  go_wp2_with fail
  clear ha0 ha1 ha2 ha3 hb0 hb1 hb2 hb3 hc0 hc1 hc2 hc3
  refine (live11 _).mono ?_
  rintro e v9 ⟨rfl, b1⟩
  replace BB := Lib.hid (below2Z BB.out b1)
  clear b1
  go_wp2_with fail
  go_ret
  exact ⟨rfl, BB.out⟩

set_option maxHeartbeats 1600000 in
set_option maxRecDepth 100000 in
theorem bw_5 (w : World) (a b c : Val) (ha : ValFit a) (hb : ValFit b) (hc : ValFit c) (sa : a.st.length ≤ 60) (sb : b.st.length ≤ 60) (sc : c.st.length ≤ 60) (h1 : worth a b = 0) (h2 : worth b c = 1) (h3 : worth b a = 0) (h4 : worth a c = 1) :
    Calls Try.prog 7 #[.agg #[.int .i64 a.sh, .int .i64 a.pr, .int .i64 a.si, .string ⟨a.st.toArray⟩], .agg #[.int .i64 b.sh, .int .i64 b.pr, .int .i64 b.si, .string ⟨b.st.toArray⟩], .agg #[.int .i64 c.sh, .int .i64 c.pr, .int .i64 c.si, .string ⟨c.st.toArray⟩]] w fun e w' => e = .returned (.bool true) ∧ Below w.heap.size w w' := by
  have H1 := Lib.hid (bworth_v a b ha hb h1)
  have H2 := Lib.hid (bworth_v b c hb hc h2)
  have H3 := Lib.hid (bworth_v b a hb ha h3)
  have H5 := Lib.hid (bworth_v a a ha ha (worth_self a))
  have H4 := Lib.hid (bworth_v a c ha hc h4)
  have t1 : decide (60 < (a.st.length : Int)) = false := by simp; omega
  have t2 : decide (60 < (b.st.length : Int)) = false := by simp; omega
  have t3 : decide (60 < (c.st.length : Int)) = false := by simp; omega
  have HA := Lib.hid (((cellsAt_made (w := w) (cs := #[.int .i64 a.sh, .int .i64 a.pr, .int .i64 a.si, .string ⟨a.st.toArray⟩]) (vs := [.int .i64 a.sh, .int .i64 a.pr, .int .i64 a.si, .string ⟨a.st.toArray⟩]) rfl 50 rfl).later (bl_newZ _ (.cells #[.int .i64 b.sh, .int .i64 b.pr, .int .i64 b.si, .string ⟨b.st.toArray⟩] 50))).later (bl_newZ _ (.cells #[.int .i64 c.sh, .int .i64 c.pr, .int .i64 c.si, .string ⟨c.st.toArray⟩] 50)))
  have HB := Lib.hid ((cellsAt_made (w := w.alloc (.cells #[.int .i64 a.sh, .int .i64 a.pr, .int .i64 a.si, .string ⟨a.st.toArray⟩] 50)) (cs := #[.int .i64 b.sh, .int .i64 b.pr, .int .i64 b.si, .string ⟨b.st.toArray⟩]) (vs := [.int .i64 b.sh, .int .i64 b.pr, .int .i64 b.si, .string ⟨b.st.toArray⟩]) rfl 50 (B := w.heap.size + 1) (by simp)).later (bl_newZ _ (.cells #[.int .i64 c.sh, .int .i64 c.pr, .int .i64 c.si, .string ⟨c.st.toArray⟩] 50)))
  have HC := Lib.hid (cellsAt_made (w := (w.alloc (.cells #[.int .i64 a.sh, .int .i64 a.pr, .int .i64 a.si, .string ⟨a.st.toArray⟩] 50)).alloc (.cells #[.int .i64 b.sh, .int .i64 b.pr, .int .i64 b.si, .string ⟨b.st.toArray⟩] 50)) (cs := #[.int .i64 c.sh, .int .i64 c.pr, .int .i64 c.si, .string ⟨c.st.toArray⟩]) (vs := [.int .i64 c.sh, .int .i64 c.pr, .int .i64 c.si, .string ⟨c.st.toArray⟩]) rfl 50 (B := w.heap.size + 1 + 1) (by simp))
  have BB := Lib.hid (show Below w.heap.size w (((w.alloc (.cells #[.int .i64 a.sh, .int .i64 a.pr, .int .i64 a.si, .string ⟨a.st.toArray⟩] 50)).alloc (.cells #[.int .i64 b.sh, .int .i64 b.pr, .int .i64 b.si, .string ⟨b.st.toArray⟩] 50)).alloc (.cells #[.int .i64 c.sh, .int .i64 c.pr, .int .i64 c.si, .string ⟨c.st.toArray⟩] 50)) from (((Below.refl _ _).alloc (Nat.le_refl _) _).alloc (by simp) _).alloc (by simp; omega) _)
  clear h1 h2 h3 ha hb hc sa sb sc h4
  go_enter Try.func7, Try.ntmps7
  go_wp2_with fail
  generalize ((w.alloc (.cells #[.int .i64 a.sh, .int .i64 a.pr, .int .i64 a.si, .string ⟨a.st.toArray⟩] 50)).alloc (.cells #[.int .i64 b.sh, .int .i64 b.pr, .int .i64 b.si, .string ⟨b.st.toArray⟩] 50)).alloc (.cells #[.int .i64 c.sh, .int .i64 c.pr, .int .i64 c.si, .string ⟨c.st.toArray⟩] 50) = W0 at HA HB HC BB ⊢
  refine (H1.out _).mono ?_
  rintro e v0 ⟨rfl, b1⟩
  replace HA := Lib.hid (HA.out.later b1)
  replace HB := Lib.hid (HB.out.later b1)
  replace HC := Lib.hid (HC.out.later b1)
  replace BB := Lib.hid (below2Z BB.out b1)
  clear b1
  have ha0 := HA.out 0 _ rfl
  have ha1 := HA.out 1 _ rfl
  have ha2 := HA.out 2 _ rfl
  have ha3 := HA.out 3 _ rfl
  simp only [Nat.zero_add] at ha0 ha1 ha2 ha3
  have hb0 := HB.out 0 _ rfl
  have hb1 := HB.out 1 _ rfl
  have hb2 := HB.out 2 _ rfl
  have hb3 := HB.out 3 _ rfl
  simp only [Nat.zero_add] at hb0 hb1 hb2 hb3
  have hc0 := HC.out 0 _ rfl
  have hc1 := HC.out 1 _ rfl
  have hc2 := HC.out 2 _ rfl
  have hc3 := HC.out 3 _ rfl
  simp only [Nat.zero_add] at hc0 hc1 hc2 hc3
  go_wp2_with fail
  clear ha0 ha1 ha2 ha3 hb0 hb1 hb2 hb3 hc0 hc1 hc2 hc3
  refine (H2.out _).mono ?_
  rintro e v1 ⟨rfl, b1⟩
  replace HA := Lib.hid (HA.out.later b1)
  replace HB := Lib.hid (HB.out.later b1)
  replace HC := Lib.hid (HC.out.later b1)
  replace BB := Lib.hid (below2Z BB.out b1)
  clear b1
  have ha0 := HA.out 0 _ rfl
  have ha1 := HA.out 1 _ rfl
  have ha2 := HA.out 2 _ rfl
  have ha3 := HA.out 3 _ rfl
  simp only [Nat.zero_add] at ha0 ha1 ha2 ha3
  have hb0 := HB.out 0 _ rfl
  have hb1 := HB.out 1 _ rfl
  have hb2 := HB.out 2 _ rfl
  have hb3 := HB.out 3 _ rfl
  simp only [Nat.zero_add] at hb0 hb1 hb2 hb3
  have hc0 := HC.out 0 _ rfl
  have hc1 := HC.out 1 _ rfl
  have hc2 := HC.out 2 _ rfl
  have hc3 := HC.out 3 _ rfl
  simp only [Nat.zero_add] at hc0 hc1 hc2 hc3
  go_wp2_with fail
  clear ha0 ha1 ha2 ha3 hb0 hb1 hb2 hb3 hc0 hc1 hc2 hc3
  refine (H3.out _).mono ?_
  rintro e v2 ⟨rfl, b1⟩
  replace HA := Lib.hid (HA.out.later b1)
  replace HB := Lib.hid (HB.out.later b1)
  replace HC := Lib.hid (HC.out.later b1)
  replace BB := Lib.hid (below2Z BB.out b1)
  clear b1
  have ha0 := HA.out 0 _ rfl
  have ha1 := HA.out 1 _ rfl
  have ha2 := HA.out 2 _ rfl
  have ha3 := HA.out 3 _ rfl
  simp only [Nat.zero_add] at ha0 ha1 ha2 ha3
  have hb0 := HB.out 0 _ rfl
  have hb1 := HB.out 1 _ rfl
  have hb2 := HB.out 2 _ rfl
  have hb3 := HB.out 3 _ rfl
  simp only [Nat.zero_add] at hb0 hb1 hb2 hb3
  have hc0 := HC.out 0 _ rfl
  have hc1 := HC.out 1 _ rfl
  have hc2 := HC.out 2 _ rfl
  have hc3 := HC.out 3 _ rfl
  simp only [Nat.zero_add] at hc0 hc1 hc2 hc3
  go_wp2_with fail
  clear ha0 ha1 ha2 ha3 hb0 hb1 hb2 hb3 hc0 hc1 hc2 hc3
  refine (H5.out _).mono ?_
  rintro e v3 ⟨rfl, b1⟩
  replace HA := Lib.hid (HA.out.later b1)
  replace HB := Lib.hid (HB.out.later b1)
  replace HC := Lib.hid (HC.out.later b1)
  replace BB := Lib.hid (below2Z BB.out b1)
  clear b1
  have ha0 := HA.out 0 _ rfl
  have ha1 := HA.out 1 _ rfl
  have ha2 := HA.out 2 _ rfl
  have ha3 := HA.out 3 _ rfl
  simp only [Nat.zero_add] at ha0 ha1 ha2 ha3
  have hb0 := HB.out 0 _ rfl
  have hb1 := HB.out 1 _ rfl
  have hb2 := HB.out 2 _ rfl
  have hb3 := HB.out 3 _ rfl
  simp only [Nat.zero_add] at hb0 hb1 hb2 hb3
  have hc0 := HC.out 0 _ rfl
  have hc1 := HC.out 1 _ rfl
  have hc2 := HC.out 2 _ rfl
  have hc3 := HC.out 3 _ rfl
  simp only [Nat.zero_add] at hc0 hc1 hc2 hc3
  go_wp2_with fail
  clear ha0 ha1 ha2 ha3 hb0 hb1 hb2 hb3 hc0 hc1 hc2 hc3
  refine (H4.out _).mono ?_
  rintro e v4 ⟨rfl, b1⟩
  replace HA := Lib.hid (HA.out.later b1)
  replace HB := Lib.hid (HB.out.later b1)
  replace HC := Lib.hid (HC.out.later b1)
  replace BB := Lib.hid (below2Z BB.out b1)
  clear b1
  have ha0 := HA.out 0 _ rfl
  have ha1 := HA.out 1 _ rfl
  have ha2 := HA.out 2 _ rfl
  have ha3 := HA.out 3 _ rfl
  simp only [Nat.zero_add] at ha0 ha1 ha2 ha3
  have hb0 := HB.out 0 _ rfl
  have hb1 := HB.out 1 _ rfl
  have hb2 := HB.out 2 _ rfl
  have hb3 := HB.out 3 _ rfl
  simp only [Nat.zero_add] at hb0 hb1 hb2 hb3
  have hc0 := HC.out 0 _ rfl
  have hc1 := HC.out 1 _ rfl
  have hc2 := HC.out 2 _ rfl
  have hc3 := HC.out 3 _ rfl
  simp only [Nat.zero_add] at hc0 hc1 hc2 hc3
  go_wp2_with fail
  clear ha0 ha1 ha2 ha3 hb0 hb1 hb2 hb3 hc0 hc1 hc2 hc3
  refine (live11 _).mono ?_
  rintro e v9 ⟨rfl, b1⟩
  replace BB := Lib.hid (below2Z BB.out b1)
  clear b1
  go_wp2_with fail
  go_ret
  exact ⟨rfl, BB.out⟩

set_option maxHeartbeats 1600000 in
set_option maxRecDepth 100000 in
theorem bw_6 (w : World) (a b c : Val) (ha : ValFit a) (hb : ValFit b) (hc : ValFit c) (sa : a.st.length ≤ 60) (sb : b.st.length ≤ 60) (sc : c.st.length ≤ 60) (h1 : worth a b = 1) (h2 : worth b c = -1) (h3 : worth b a = -1) :
    Calls Try.prog 7 #[.agg #[.int .i64 a.sh, .int .i64 a.pr, .int .i64 a.si, .string ⟨a.st.toArray⟩], .agg #[.int .i64 b.sh, .int .i64 b.pr, .int .i64 b.si, .string ⟨b.st.toArray⟩], .agg #[.int .i64 c.sh, .int .i64 c.pr, .int .i64 c.si, .string ⟨c.st.toArray⟩]] w fun e w' => e = .returned (.bool true) ∧ Below w.heap.size w w' := by
  have H1 := Lib.hid (bworth_v a b ha hb h1)
  have H2 := Lib.hid (bworth_v b c hb hc h2)
  have H3 := Lib.hid (bworth_v b a hb ha h3)
  have H5 := Lib.hid (bworth_v a a ha ha (worth_self a))
  have t1 : decide (60 < (a.st.length : Int)) = false := by simp; omega
  have t2 : decide (60 < (b.st.length : Int)) = false := by simp; omega
  have t3 : decide (60 < (c.st.length : Int)) = false := by simp; omega
  have HA := Lib.hid (((cellsAt_made (w := w) (cs := #[.int .i64 a.sh, .int .i64 a.pr, .int .i64 a.si, .string ⟨a.st.toArray⟩]) (vs := [.int .i64 a.sh, .int .i64 a.pr, .int .i64 a.si, .string ⟨a.st.toArray⟩]) rfl 50 rfl).later (bl_newZ _ (.cells #[.int .i64 b.sh, .int .i64 b.pr, .int .i64 b.si, .string ⟨b.st.toArray⟩] 50))).later (bl_newZ _ (.cells #[.int .i64 c.sh, .int .i64 c.pr, .int .i64 c.si, .string ⟨c.st.toArray⟩] 50)))
  have HB := Lib.hid ((cellsAt_made (w := w.alloc (.cells #[.int .i64 a.sh, .int .i64 a.pr, .int .i64 a.si, .string ⟨a.st.toArray⟩] 50)) (cs := #[.int .i64 b.sh, .int .i64 b.pr, .int .i64 b.si, .string ⟨b.st.toArray⟩]) (vs := [.int .i64 b.sh, .int .i64 b.pr, .int .i64 b.si, .string ⟨b.st.toArray⟩]) rfl 50 (B := w.heap.size + 1) (by simp)).later (bl_newZ _ (.cells #[.int .i64 c.sh, .int .i64 c.pr, .int .i64 c.si, .string ⟨c.st.toArray⟩] 50)))
  have HC := Lib.hid (cellsAt_made (w := (w.alloc (.cells #[.int .i64 a.sh, .int .i64 a.pr, .int .i64 a.si, .string ⟨a.st.toArray⟩] 50)).alloc (.cells #[.int .i64 b.sh, .int .i64 b.pr, .int .i64 b.si, .string ⟨b.st.toArray⟩] 50)) (cs := #[.int .i64 c.sh, .int .i64 c.pr, .int .i64 c.si, .string ⟨c.st.toArray⟩]) (vs := [.int .i64 c.sh, .int .i64 c.pr, .int .i64 c.si, .string ⟨c.st.toArray⟩]) rfl 50 (B := w.heap.size + 1 + 1) (by simp))
  have BB := Lib.hid (show Below w.heap.size w (((w.alloc (.cells #[.int .i64 a.sh, .int .i64 a.pr, .int .i64 a.si, .string ⟨a.st.toArray⟩] 50)).alloc (.cells #[.int .i64 b.sh, .int .i64 b.pr, .int .i64 b.si, .string ⟨b.st.toArray⟩] 50)).alloc (.cells #[.int .i64 c.sh, .int .i64 c.pr, .int .i64 c.si, .string ⟨c.st.toArray⟩] 50)) from (((Below.refl _ _).alloc (Nat.le_refl _) _).alloc (by simp) _).alloc (by simp; omega) _)
  clear h1 h2 h3 ha hb hc sa sb sc
  go_enter Try.func7, Try.ntmps7
  go_wp2_with fail
  generalize ((w.alloc (.cells #[.int .i64 a.sh, .int .i64 a.pr, .int .i64 a.si, .string ⟨a.st.toArray⟩] 50)).alloc (.cells #[.int .i64 b.sh, .int .i64 b.pr, .int .i64 b.si, .string ⟨b.st.toArray⟩] 50)).alloc (.cells #[.int .i64 c.sh, .int .i64 c.pr, .int .i64 c.si, .string ⟨c.st.toArray⟩] 50) = W0 at HA HB HC BB ⊢
  refine (H1.out _).mono ?_
  rintro e v0 ⟨rfl, b1⟩
  replace HA := Lib.hid (HA.out.later b1)
  replace HB := Lib.hid (HB.out.later b1)
  replace HC := Lib.hid (HC.out.later b1)
  replace BB := Lib.hid (below2Z BB.out b1)
  clear b1
  have ha0 := HA.out 0 _ rfl
  have ha1 := HA.out 1 _ rfl
  have ha2 := HA.out 2 _ rfl
  have ha3 := HA.out 3 _ rfl
  simp only [Nat.zero_add] at ha0 ha1 ha2 ha3
  have hb0 := HB.out 0 _ rfl
  have hb1 := HB.out 1 _ rfl
  have hb2 := HB.out 2 _ rfl
  have hb3 := HB.out 3 _ rfl
  simp only [Nat.zero_add] at hb0 hb1 hb2 hb3
  have hc0 := HC.out 0 _ rfl
  have hc1 := HC.out 1 _ rfl
  have hc2 := HC.out 2 _ rfl
  have hc3 := HC.out 3 _ rfl
  simp only [Nat.zero_add] at hc0 hc1 hc2 hc3
  go_wp2_with fail
  clear ha0 ha1 ha2 ha3 hb0 hb1 hb2 hb3 hc0 hc1 hc2 hc3
  refine (H2.out _).mono ?_
  rintro e v1 ⟨rfl, b1⟩
  replace HA := Lib.hid (HA.out.later b1)
  replace HB := Lib.hid (HB.out.later b1)
  replace HC := Lib.hid (HC.out.later b1)
  replace BB := Lib.hid (below2Z BB.out b1)
  clear b1
  have ha0 := HA.out 0 _ rfl
  have ha1 := HA.out 1 _ rfl
  have ha2 := HA.out 2 _ rfl
  have ha3 := HA.out 3 _ rfl
  simp only [Nat.zero_add] at ha0 ha1 ha2 ha3
  have hb0 := HB.out 0 _ rfl
  have hb1 := HB.out 1 _ rfl
  have hb2 := HB.out 2 _ rfl
  have hb3 := HB.out 3 _ rfl
  simp only [Nat.zero_add] at hb0 hb1 hb2 hb3
  have hc0 := HC.out 0 _ rfl
  have hc1 := HC.out 1 _ rfl
  have hc2 := HC.out 2 _ rfl
  have hc3 := HC.out 3 _ rfl
  simp only [Nat.zero_add] at hc0 hc1 hc2 hc3
  go_wp2_with fail
  clear ha0 ha1 ha2 ha3 hb0 hb1 hb2 hb3 hc0 hc1 hc2 hc3
  refine (H3.out _).mono ?_
  rintro e v2 ⟨rfl, b1⟩
  replace HA := Lib.hid (HA.out.later b1)
  replace HB := Lib.hid (HB.out.later b1)
  replace HC := Lib.hid (HC.out.later b1)
  replace BB := Lib.hid (below2Z BB.out b1)
  clear b1
  have ha0 := HA.out 0 _ rfl
  have ha1 := HA.out 1 _ rfl
  have ha2 := HA.out 2 _ rfl
  have ha3 := HA.out 3 _ rfl
  simp only [Nat.zero_add] at ha0 ha1 ha2 ha3
  have hb0 := HB.out 0 _ rfl
  have hb1 := HB.out 1 _ rfl
  have hb2 := HB.out 2 _ rfl
  have hb3 := HB.out 3 _ rfl
  simp only [Nat.zero_add] at hb0 hb1 hb2 hb3
  have hc0 := HC.out 0 _ rfl
  have hc1 := HC.out 1 _ rfl
  have hc2 := HC.out 2 _ rfl
  have hc3 := HC.out 3 _ rfl
  simp only [Nat.zero_add] at hc0 hc1 hc2 hc3
  go_wp2_with fail
  clear ha0 ha1 ha2 ha3 hb0 hb1 hb2 hb3 hc0 hc1 hc2 hc3
  refine (H5.out _).mono ?_
  rintro e v3 ⟨rfl, b1⟩
  replace HA := Lib.hid (HA.out.later b1)
  replace HB := Lib.hid (HB.out.later b1)
  replace HC := Lib.hid (HC.out.later b1)
  replace BB := Lib.hid (below2Z BB.out b1)
  clear b1
  have ha0 := HA.out 0 _ rfl
  have ha1 := HA.out 1 _ rfl
  have ha2 := HA.out 2 _ rfl
  have ha3 := HA.out 3 _ rfl
  simp only [Nat.zero_add] at ha0 ha1 ha2 ha3
  have hb0 := HB.out 0 _ rfl
  have hb1 := HB.out 1 _ rfl
  have hb2 := HB.out 2 _ rfl
  have hb3 := HB.out 3 _ rfl
  simp only [Nat.zero_add] at hb0 hb1 hb2 hb3
  have hc0 := HC.out 0 _ rfl
  have hc1 := HC.out 1 _ rfl
  have hc2 := HC.out 2 _ rfl
  have hc3 := HC.out 3 _ rfl
  simp only [Nat.zero_add] at hc0 hc1 hc2 hc3
  go_wp2_with fail
  clear ha0 ha1 ha2 ha3 hb0 hb1 hb2 hb3 hc0 hc1 hc2 hc3
  refine (live11 _).mono ?_
  rintro e v9 ⟨rfl, b1⟩
  replace BB := Lib.hid (below2Z BB.out b1)
  clear b1
  go_wp2_with fail
  go_ret
  exact ⟨rfl, BB.out⟩

set_option maxHeartbeats 1600000 in
set_option maxRecDepth 100000 in
theorem bw_7 (w : World) (a b c : Val) (ha : ValFit a) (hb : ValFit b) (hc : ValFit c) (sa : a.st.length ≤ 60) (sb : b.st.length ≤ 60) (sc : c.st.length ≤ 60) (h1 : worth a b = 1) (h2 : worth b c = 0) (h3 : worth b a = -1) (h4 : worth a c = 1) :
    Calls Try.prog 7 #[.agg #[.int .i64 a.sh, .int .i64 a.pr, .int .i64 a.si, .string ⟨a.st.toArray⟩], .agg #[.int .i64 b.sh, .int .i64 b.pr, .int .i64 b.si, .string ⟨b.st.toArray⟩], .agg #[.int .i64 c.sh, .int .i64 c.pr, .int .i64 c.si, .string ⟨c.st.toArray⟩]] w fun e w' => e = .returned (.bool true) ∧ Below w.heap.size w w' := by
  have H1 := Lib.hid (bworth_v a b ha hb h1)
  have H2 := Lib.hid (bworth_v b c hb hc h2)
  have H3 := Lib.hid (bworth_v b a hb ha h3)
  have H5 := Lib.hid (bworth_v a a ha ha (worth_self a))
  have H4 := Lib.hid (bworth_v a c ha hc h4)
  have t1 : decide (60 < (a.st.length : Int)) = false := by simp; omega
  have t2 : decide (60 < (b.st.length : Int)) = false := by simp; omega
  have t3 : decide (60 < (c.st.length : Int)) = false := by simp; omega
  have HA := Lib.hid (((cellsAt_made (w := w) (cs := #[.int .i64 a.sh, .int .i64 a.pr, .int .i64 a.si, .string ⟨a.st.toArray⟩]) (vs := [.int .i64 a.sh, .int .i64 a.pr, .int .i64 a.si, .string ⟨a.st.toArray⟩]) rfl 50 rfl).later (bl_newZ _ (.cells #[.int .i64 b.sh, .int .i64 b.pr, .int .i64 b.si, .string ⟨b.st.toArray⟩] 50))).later (bl_newZ _ (.cells #[.int .i64 c.sh, .int .i64 c.pr, .int .i64 c.si, .string ⟨c.st.toArray⟩] 50)))
  have HB := Lib.hid ((cellsAt_made (w := w.alloc (.cells #[.int .i64 a.sh, .int .i64 a.pr, .int .i64 a.si, .string ⟨a.st.toArray⟩] 50)) (cs := #[.int .i64 b.sh, .int .i64 b.pr, .int .i64 b.si, .string ⟨b.st.toArray⟩]) (vs := [.int .i64 b.sh, .int .i64 b.pr, .int .i64 b.si, .string ⟨b.st.toArray⟩]) rfl 50 (B := w.heap.size + 1) (by simp)).later (bl_newZ _ (.cells #[.int .i64 c.sh, .int .i64 c.pr, .int .i64 c.si, .string ⟨c.st.toArray⟩] 50)))
  have HC := Lib.hid (cellsAt_made (w := (w.alloc (.cells #[.int .i64 a.sh, .int .i64 a.pr, .int .i64 a.si, .string ⟨a.st.toArray⟩] 50)).alloc (.cells #[.int .i64 b.sh, .int .i64 b.pr, .int .i64 b.si, .string ⟨b.st.toArray⟩] 50)) (cs := #[.int .i64 c.sh, .int .i64 c.pr, .int .i64 c.si, .string ⟨c.st.toArray⟩]) (vs := [.int .i64 c.sh, .int .i64 c.pr, .int .i64 c.si, .string ⟨c.st.toArray⟩]) rfl 50 (B := w.heap.size + 1 + 1) (by simp))
  have BB := Lib.hid (show Below w.heap.size w (((w.alloc (.cells #[.int .i64 a.sh, .int .i64 a.pr, .int .i64 a.si, .string ⟨a.st.toArray⟩] 50)).alloc (.cells #[.int .i64 b.sh, .int .i64 b.pr, .int .i64 b.si, .string ⟨b.st.toArray⟩] 50)).alloc (.cells #[.int .i64 c.sh, .int .i64 c.pr, .int .i64 c.si, .string ⟨c.st.toArray⟩] 50)) from (((Below.refl _ _).alloc (Nat.le_refl _) _).alloc (by simp) _).alloc (by simp; omega) _)
  clear h1 h2 h3 ha hb hc sa sb sc h4
  go_enter Try.func7, Try.ntmps7
  go_wp2_with fail
  generalize ((w.alloc (.cells #[.int .i64 a.sh, .int .i64 a.pr, .int .i64 a.si, .string ⟨a.st.toArray⟩] 50)).alloc (.cells #[.int .i64 b.sh, .int .i64 b.pr, .int .i64 b.si, .string ⟨b.st.toArray⟩] 50)).alloc (.cells #[.int .i64 c.sh, .int .i64 c.pr, .int .i64 c.si, .string ⟨c.st.toArray⟩] 50) = W0 at HA HB HC BB ⊢
  refine (H1.out _).mono ?_
  rintro e v0 ⟨rfl, b1⟩
  replace HA := Lib.hid (HA.out.later b1)
  replace HB := Lib.hid (HB.out.later b1)
  replace HC := Lib.hid (HC.out.later b1)
  replace BB := Lib.hid (below2Z BB.out b1)
  clear b1
  have ha0 := HA.out 0 _ rfl
  have ha1 := HA.out 1 _ rfl
  have ha2 := HA.out 2 _ rfl
  have ha3 := HA.out 3 _ rfl
  simp only [Nat.zero_add] at ha0 ha1 ha2 ha3
  have hb0 := HB.out 0 _ rfl
  have hb1 := HB.out 1 _ rfl
  have hb2 := HB.out 2 _ rfl
  have hb3 := HB.out 3 _ rfl
  simp only [Nat.zero_add] at hb0 hb1 hb2 hb3
  have hc0 := HC.out 0 _ rfl
  have hc1 := HC.out 1 _ rfl
  have hc2 := HC.out 2 _ rfl
  have hc3 := HC.out 3 _ rfl
  simp only [Nat.zero_add] at hc0 hc1 hc2 hc3
  go_wp2_with fail
  clear ha0 ha1 ha2 ha3 hb0 hb1 hb2 hb3 hc0 hc1 hc2 hc3
  refine (H2.out _).mono ?_
  rintro e v1 ⟨rfl, b1⟩
  replace HA := Lib.hid (HA.out.later b1)
  replace HB := Lib.hid (HB.out.later b1)
  replace HC := Lib.hid (HC.out.later b1)
  replace BB := Lib.hid (below2Z BB.out b1)
  clear b1
  have ha0 := HA.out 0 _ rfl
  have ha1 := HA.out 1 _ rfl
  have ha2 := HA.out 2 _ rfl
  have ha3 := HA.out 3 _ rfl
  simp only [Nat.zero_add] at ha0 ha1 ha2 ha3
  have hb0 := HB.out 0 _ rfl
  have hb1 := HB.out 1 _ rfl
  have hb2 := HB.out 2 _ rfl
  have hb3 := HB.out 3 _ rfl
  simp only [Nat.zero_add] at hb0 hb1 hb2 hb3
  have hc0 := HC.out 0 _ rfl
  have hc1 := HC.out 1 _ rfl
  have hc2 := HC.out 2 _ rfl
  have hc3 := HC.out 3 _ rfl
  simp only [Nat.zero_add] at hc0 hc1 hc2 hc3
  go_wp2_with fail
  clear ha0 ha1 ha2 ha3 hb0 hb1 hb2 hb3 hc0 hc1 hc2 hc3
  refine (H3.out _).mono ?_
  rintro e v2 ⟨rfl, b1⟩
  replace HA := Lib.hid (HA.out.later b1)
  replace HB := Lib.hid (HB.out.later b1)
  replace HC := Lib.hid (HC.out.later b1)
  replace BB := Lib.hid (below2Z BB.out b1)
  clear b1
  have ha0 := HA.out 0 _ rfl
  have ha1 := HA.out 1 _ rfl
  have ha2 := HA.out 2 _ rfl
  have ha3 := HA.out 3 _ rfl
  simp only [Nat.zero_add] at ha0 ha1 ha2 ha3
  have hb0 := HB.out 0 _ rfl
  have hb1 := HB.out 1 _ rfl
  have hb2 := HB.out 2 _ rfl
  have hb3 := HB.out 3 _ rfl
  simp only [Nat.zero_add] at hb0 hb1 hb2 hb3
  have hc0 := HC.out 0 _ rfl
  have hc1 := HC.out 1 _ rfl
  have hc2 := HC.out 2 _ rfl
  have hc3 := HC.out 3 _ rfl
  simp only [Nat.zero_add] at hc0 hc1 hc2 hc3
  go_wp2_with fail
  clear ha0 ha1 ha2 ha3 hb0 hb1 hb2 hb3 hc0 hc1 hc2 hc3
  refine (H5.out _).mono ?_
  rintro e v3 ⟨rfl, b1⟩
  replace HA := Lib.hid (HA.out.later b1)
  replace HB := Lib.hid (HB.out.later b1)
  replace HC := Lib.hid (HC.out.later b1)
  replace BB := Lib.hid (below2Z BB.out b1)
  clear b1
  have ha0 := HA.out 0 _ rfl
  have ha1 := HA.out 1 _ rfl
  have ha2 := HA.out 2 _ rfl
  have ha3 := HA.out 3 _ rfl
  simp only [Nat.zero_add] at ha0 ha1 ha2 ha3
  have hb0 := HB.out 0 _ rfl
  have hb1 := HB.out 1 _ rfl
  have hb2 := HB.out 2 _ rfl
  have hb3 := HB.out 3 _ rfl
  simp only [Nat.zero_add] at hb0 hb1 hb2 hb3
  have hc0 := HC.out 0 _ rfl
  have hc1 := HC.out 1 _ rfl
  have hc2 := HC.out 2 _ rfl
  have hc3 := HC.out 3 _ rfl
  simp only [Nat.zero_add] at hc0 hc1 hc2 hc3
  go_wp2_with fail
  clear ha0 ha1 ha2 ha3 hb0 hb1 hb2 hb3 hc0 hc1 hc2 hc3
  refine (H4.out _).mono ?_
  rintro e v4 ⟨rfl, b1⟩
  replace HA := Lib.hid (HA.out.later b1)
  replace HB := Lib.hid (HB.out.later b1)
  replace HC := Lib.hid (HC.out.later b1)
  replace BB := Lib.hid (below2Z BB.out b1)
  clear b1
  have ha0 := HA.out 0 _ rfl
  have ha1 := HA.out 1 _ rfl
  have ha2 := HA.out 2 _ rfl
  have ha3 := HA.out 3 _ rfl
  simp only [Nat.zero_add] at ha0 ha1 ha2 ha3
  have hb0 := HB.out 0 _ rfl
  have hb1 := HB.out 1 _ rfl
  have hb2 := HB.out 2 _ rfl
  have hb3 := HB.out 3 _ rfl
  simp only [Nat.zero_add] at hb0 hb1 hb2 hb3
  have hc0 := HC.out 0 _ rfl
  have hc1 := HC.out 1 _ rfl
  have hc2 := HC.out 2 _ rfl
  have hc3 := HC.out 3 _ rfl
  simp only [Nat.zero_add] at hc0 hc1 hc2 hc3
  go_wp2_with fail
  clear ha0 ha1 ha2 ha3 hb0 hb1 hb2 hb3 hc0 hc1 hc2 hc3
  refine (live11 _).mono ?_
  rintro e v9 ⟨rfl, b1⟩
  replace BB := Lib.hid (below2Z BB.out b1)
  clear b1
  go_wp2_with fail
  go_ret
  exact ⟨rfl, BB.out⟩

set_option maxHeartbeats 1600000 in
set_option maxRecDepth 100000 in
theorem bw_8 (w : World) (a b c : Val) (ha : ValFit a) (hb : ValFit b) (hc : ValFit c) (sa : a.st.length ≤ 60) (sb : b.st.length ≤ 60) (sc : c.st.length ≤ 60) (h1 : worth a b = 1) (h2 : worth b c = 1) (h3 : worth b a = -1) (h4 : worth a c = 1) :
    Calls Try.prog 7 #[.agg #[.int .i64 a.sh, .int .i64 a.pr, .int .i64 a.si, .string ⟨a.st.toArray⟩], .agg #[.int .i64 b.sh, .int .i64 b.pr, .int .i64 b.si, .string ⟨b.st.toArray⟩], .agg #[.int .i64 c.sh, .int .i64 c.pr, .int .i64 c.si, .string ⟨c.st.toArray⟩]] w fun e w' => e = .returned (.bool true) ∧ Below w.heap.size w w' := by
  have H1 := Lib.hid (bworth_v a b ha hb h1)
  have H2 := Lib.hid (bworth_v b c hb hc h2)
  have H3 := Lib.hid (bworth_v b a hb ha h3)
  have H5 := Lib.hid (bworth_v a a ha ha (worth_self a))
  have H4 := Lib.hid (bworth_v a c ha hc h4)
  have t1 : decide (60 < (a.st.length : Int)) = false := by simp; omega
  have t2 : decide (60 < (b.st.length : Int)) = false := by simp; omega
  have t3 : decide (60 < (c.st.length : Int)) = false := by simp; omega
  have HA := Lib.hid (((cellsAt_made (w := w) (cs := #[.int .i64 a.sh, .int .i64 a.pr, .int .i64 a.si, .string ⟨a.st.toArray⟩]) (vs := [.int .i64 a.sh, .int .i64 a.pr, .int .i64 a.si, .string ⟨a.st.toArray⟩]) rfl 50 rfl).later (bl_newZ _ (.cells #[.int .i64 b.sh, .int .i64 b.pr, .int .i64 b.si, .string ⟨b.st.toArray⟩] 50))).later (bl_newZ _ (.cells #[.int .i64 c.sh, .int .i64 c.pr, .int .i64 c.si, .string ⟨c.st.toArray⟩] 50)))
  have HB := Lib.hid ((cellsAt_made (w := w.alloc (.cells #[.int .i64 a.sh, .int .i64 a.pr, .int .i64 a.si, .string ⟨a.st.toArray⟩] 50)) (cs := #[.int .i64 b.sh, .int .i64 b.pr, .int .i64 b.si, .string ⟨b.st.toArray⟩]) (vs := [.int .i64 b.sh, .int .i64 b.pr, .int .i64 b.si, .string ⟨b.st.toArray⟩]) rfl 50 (B := w.heap.size + 1) (by simp)).later (bl_newZ _ (.cells #[.int .i64 c.sh, .int .i64 c.pr, .int .i64 c.si, .string ⟨c.st.toArray⟩] 50)))
  have HC := Lib.hid (cellsAt_made (w := (w.alloc (.cells #[.int .i64 a.sh, .int .i64 a.pr, .int .i64 a.si, .string ⟨a.st.toArray⟩] 50)).alloc (.cells #[.int .i64 b.sh, .int .i64 b.pr, .int .i64 b.si, .string ⟨b.st.toArray⟩] 50)) (cs := #[.int .i64 c.sh, .int .i64 c.pr, .int .i64 c.si, .string ⟨c.st.toArray⟩]) (vs := [.int .i64 c.sh, .int .i64 c.pr, .int .i64 c.si, .string ⟨c.st.toArray⟩]) rfl 50 (B := w.heap.size + 1 + 1) (by simp))
  have BB := Lib.hid (show Below w.heap.size w (((w.alloc (.cells #[.int .i64 a.sh, .int .i64 a.pr, .int .i64 a.si, .string ⟨a.st.toArray⟩] 50)).alloc (.cells #[.int .i64 b.sh, .int .i64 b.pr, .int .i64 b.si, .string ⟨b.st.toArray⟩] 50)).alloc (.cells #[.int .i64 c.sh, .int .i64 c.pr, .int .i64 c.si, .string ⟨c.st.toArray⟩] 50)) from (((Below.refl _ _).alloc (Nat.le_refl _) _).alloc (by simp) _).alloc (by simp; omega) _)
  clear h1 h2 h3 ha hb hc sa sb sc h4
  go_enter Try.func7, Try.ntmps7
  go_wp2_with fail
  generalize ((w.alloc (.cells #[.int .i64 a.sh, .int .i64 a.pr, .int .i64 a.si, .string ⟨a.st.toArray⟩] 50)).alloc (.cells #[.int .i64 b.sh, .int .i64 b.pr, .int .i64 b.si, .string ⟨b.st.toArray⟩] 50)).alloc (.cells #[.int .i64 c.sh, .int .i64 c.pr, .int .i64 c.si, .string ⟨c.st.toArray⟩] 50) = W0 at HA HB HC BB ⊢
  refine (H1.out _).mono ?_
  rintro e v0 ⟨rfl, b1⟩
  replace HA := Lib.hid (HA.out.later b1)
  replace HB := Lib.hid (HB.out.later b1)
  replace HC := Lib.hid (HC.out.later b1)
  replace BB := Lib.hid (below2Z BB.out b1)
  clear b1
  have ha0 := HA.out 0 _ rfl
  have ha1 := HA.out 1 _ rfl
  have ha2 := HA.out 2 _ rfl
  have ha3 := HA.out 3 _ rfl
  simp only [Nat.zero_add] at ha0 ha1 ha2 ha3
  have hb0 := HB.out 0 _ rfl
  have hb1 := HB.out 1 _ rfl
  have hb2 := HB.out 2 _ rfl
  have hb3 := HB.out 3 _ rfl
  simp only [Nat.zero_add] at hb0 hb1 hb2 hb3
  have hc0 := HC.out 0 _ rfl
  have hc1 := HC.out 1 _ rfl
  have hc2 := HC.out 2 _ rfl
  have hc3 := HC.out 3 _ rfl
  simp only [Nat.zero_add] at hc0 hc1 hc2 hc3
  go_wp2_with fail
  clear ha0 ha1 ha2 ha3 hb0 hb1 hb2 hb3 hc0 hc1 hc2 hc3
  refine (H2.out _).mono ?_
  rintro e v1 ⟨rfl, b1⟩
  replace HA := Lib.hid (HA.out.later b1)
  replace HB := Lib.hid (HB.out.later b1)
  replace HC := Lib.hid (HC.out.later b1)
  replace BB := Lib.hid (below2Z BB.out b1)
  clear b1
  have ha0 := HA.out 0 _ rfl
  have ha1 := HA.out 1 _ rfl
  have ha2 := HA.out 2 _ rfl
  have ha3 := HA.out 3 _ rfl
  simp only [Nat.zero_add] at ha0 ha1 ha2 ha3
  have hb0 := HB.out 0 _ rfl
  have hb1 := HB.out 1 _ rfl
  have hb2 := HB.out 2 _ rfl
  have hb3 := HB.out 3 _ rfl
  simp only [Nat.zero_add] at hb0 hb1 hb2 hb3
  have hc0 := HC.out 0 _ rfl
  have hc1 := HC.out 1 _ rfl
  have hc2 := HC.out 2 _ rfl
  have hc3 := HC.out 3 _ rfl
  simp only [Nat.zero_add] at hc0 hc1 hc2 hc3
  go_wp2_with fail
  clear ha0 ha1 ha2 ha3 hb0 hb1 hb2 hb3 hc0 hc1 hc2 hc3
  refine (H3.out _).mono ?_
  rintro e v2 ⟨rfl, b1⟩
  replace HA := Lib.hid (HA.out.later b1)
  replace HB := Lib.hid (HB.out.later b1)
  replace HC := Lib.hid (HC.out.later b1)
  replace BB := Lib.hid (below2Z BB.out b1)
  clear b1
  have ha0 := HA.out 0 _ rfl
  have ha1 := HA.out 1 _ rfl
  have ha2 := HA.out 2 _ rfl
  have ha3 := HA.out 3 _ rfl
  simp only [Nat.zero_add] at ha0 ha1 ha2 ha3
  have hb0 := HB.out 0 _ rfl
  have hb1 := HB.out 1 _ rfl
  have hb2 := HB.out 2 _ rfl
  have hb3 := HB.out 3 _ rfl
  simp only [Nat.zero_add] at hb0 hb1 hb2 hb3
  have hc0 := HC.out 0 _ rfl
  have hc1 := HC.out 1 _ rfl
  have hc2 := HC.out 2 _ rfl
  have hc3 := HC.out 3 _ rfl
  simp only [Nat.zero_add] at hc0 hc1 hc2 hc3
  go_wp2_with fail
  clear ha0 ha1 ha2 ha3 hb0 hb1 hb2 hb3 hc0 hc1 hc2 hc3
  refine (H5.out _).mono ?_
  rintro e v3 ⟨rfl, b1⟩
  replace HA := Lib.hid (HA.out.later b1)
  replace HB := Lib.hid (HB.out.later b1)
  replace HC := Lib.hid (HC.out.later b1)
  replace BB := Lib.hid (below2Z BB.out b1)
  clear b1
  have ha0 := HA.out 0 _ rfl
  have ha1 := HA.out 1 _ rfl
  have ha2 := HA.out 2 _ rfl
  have ha3 := HA.out 3 _ rfl
  simp only [Nat.zero_add] at ha0 ha1 ha2 ha3
  have hb0 := HB.out 0 _ rfl
  have hb1 := HB.out 1 _ rfl
  have hb2 := HB.out 2 _ rfl
  have hb3 := HB.out 3 _ rfl
  simp only [Nat.zero_add] at hb0 hb1 hb2 hb3
  have hc0 := HC.out 0 _ rfl
  have hc1 := HC.out 1 _ rfl
  have hc2 := HC.out 2 _ rfl
  have hc3 := HC.out 3 _ rfl
  simp only [Nat.zero_add] at hc0 hc1 hc2 hc3
  go_wp2_with fail
  clear ha0 ha1 ha2 ha3 hb0 hb1 hb2 hb3 hc0 hc1 hc2 hc3
  refine (H4.out _).mono ?_
  rintro e v4 ⟨rfl, b1⟩
  replace HA := Lib.hid (HA.out.later b1)
  replace HB := Lib.hid (HB.out.later b1)
  replace HC := Lib.hid (HC.out.later b1)
  replace BB := Lib.hid (below2Z BB.out b1)
  clear b1
  have ha0 := HA.out 0 _ rfl
  have ha1 := HA.out 1 _ rfl
  have ha2 := HA.out 2 _ rfl
  have ha3 := HA.out 3 _ rfl
  simp only [Nat.zero_add] at ha0 ha1 ha2 ha3
  have hb0 := HB.out 0 _ rfl
  have hb1 := HB.out 1 _ rfl
  have hb2 := HB.out 2 _ rfl
  have hb3 := HB.out 3 _ rfl
  simp only [Nat.zero_add] at hb0 hb1 hb2 hb3
  have hc0 := HC.out 0 _ rfl
  have hc1 := HC.out 1 _ rfl
  have hc2 := HC.out 2 _ rfl
  have hc3 := HC.out 3 _ rfl
  simp only [Nat.zero_add] at hc0 hc1 hc2 hc3
  go_wp2_with fail
  clear ha0 ha1 ha2 ha3 hb0 hb1 hb2 hb3 hc0 hc1 hc2 hc3
  refine (live11 _).mono ?_
  rintro e v9 ⟨rfl, b1⟩
  replace BB := Lib.hid (below2Z BB.out b1)
  clear b1
  go_wp2_with fail
  go_ret
  exact ⟨rfl, BB.out⟩

set_option maxHeartbeats 800000 in
set_option maxRecDepth 100000 in
theorem bw_long (w : World) (a b c : Val) (h : ¬ (a.st.length ≤ 60 ∧ b.st.length ≤ 60 ∧ c.st.length ≤ 60)) :
    Calls Try.prog 7 #[.agg #[.int .i64 a.sh, .int .i64 a.pr, .int .i64 a.si, .string ⟨a.st.toArray⟩], .agg #[.int .i64 b.sh, .int .i64 b.pr, .int .i64 b.si, .string ⟨b.st.toArray⟩], .agg #[.int .i64 c.sh, .int .i64 c.pr, .int .i64 c.si, .string ⟨c.st.toArray⟩]] w fun e w' => e = .returned (.bool true) ∧ Below w.heap.size w w' := by
  have BB := Lib.hid (show Below w.heap.size w (((w.alloc (.cells #[.int .i64 a.sh, .int .i64 a.pr, .int .i64 a.si, .string ⟨a.st.toArray⟩] 50)).alloc (.cells #[.int .i64 b.sh, .int .i64 b.pr, .int .i64 b.si, .string ⟨b.st.toArray⟩] 50)).alloc (.cells #[.int .i64 c.sh, .int .i64 c.pr, .int .i64 c.si, .string ⟨c.st.toArray⟩] 50)) from (((Below.refl _ _).alloc (Nat.le_refl _) _).alloc (by simp) _).alloc (by simp; omega) _)
  by_cases h1 : a.st.length ≤ 60
  · have t1 : decide (60 < (a.st.length : Int)) = false := by simp; omega
    by_cases h2 : b.st.length ≤ 60
    · have t2 : decide (60 < (b.st.length : Int)) = false := by simp; omega
      have t3 : decide (60 < (c.st.length : Int)) = true := by simp; omega
      clear h h1 h2
      go_enter Try.func7, Try.ntmps7
      go_wp2_with fail
      refine (live11 _).mono ?_
      rintro e v9 ⟨rfl, b1⟩
      replace BB := Lib.hid (below2Z BB.out b1)
      clear b1
      go_wp2_with fail
      go_ret
      exact ⟨rfl, BB.out⟩
    · have t2 : decide (60 < (b.st.length : Int)) = true := by simp; omega
      clear h h1 h2
      go_enter Try.func7, Try.ntmps7
      go_wp2_with fail
      refine (live11 _).mono ?_
      rintro e v9 ⟨rfl, b1⟩
      replace BB := Lib.hid (below2Z BB.out b1)
      clear b1
      go_wp2_with fail
      go_ret
      exact ⟨rfl, BB.out⟩
  · have t1 : decide (60 < (a.st.length : Int)) = true := by simp; omega
    clear h h1
    go_enter Try.func7, Try.ntmps7
    go_wp2_with fail
    refine (live11 _).mono ?_
    rintro e v9 ⟨rfl, b1⟩
    replace BB := Lib.hid (below2Z BB.out b1)
    clear b1
    go_wp2_with fail
    go_ret
    exact ⟨rfl, BB.out⟩

theorem walkBestWorth {w : World} (a : Val) (ha : ValFit a) (b : Val) (hb : ValFit b) (c : Val) (hc : ValFit c) :
    Calls Try.prog 7 #[.agg #[.int .i64 a.sh, .int .i64 a.pr, .int .i64 a.si, .string ⟨a.st.toArray⟩], .agg #[.int .i64 b.sh, .int .i64 b.pr, .int .i64 b.si, .string ⟨b.st.toArray⟩], .agg #[.int .i64 c.sh, .int .i64 c.pr, .int .i64 c.si, .string ⟨c.st.toArray⟩]] w fun e w' => e = .returned (.bool true) ∧ Below w.heap.size w w' := by
  by_cases h : a.st.length ≤ 60 ∧ b.st.length ≤ 60 ∧ c.st.length ≤ 60
  · obtain ⟨sa, sb, sc⟩ := h
    obtain ⟨p1, p2, p3⟩ := worth_spec a b
    obtain ⟨q1, q2, q3⟩ := worth_spec b c
    obtain ⟨m1, m2, m3⟩ := worth_spec a c
    rcases worth_cases a b with ⟨h1, h3⟩ | ⟨h1, h3⟩ | ⟨h1, h3⟩ <;> rcases worth_cases b c with ⟨h2, _⟩ | ⟨h2, _⟩ | ⟨h2, _⟩
    · exact bw_0 w a b c ha hb hc sa sb sc h1 h2 h3
    · exact bw_1 w a b c ha hb hc sa sb sc h1 h2 h3
    · exact bw_2 w a b c ha hb hc sa sb sc h1 h2 h3
    · exact bw_3 w a b c ha hb hc sa sb sc h1 h2 h3
    · exact bw_4 w a b c ha hb hc sa sb sc h1 h2 h3 (m3.2 (by have := p3.1 h1; have := q3.1 h2; omega))
    · exact bw_5 w a b c ha hb hc sa sb sc h1 h2 h3 (m2.2 (by have := p3.1 h1; have := q2.1 h2; omega))
    · exact bw_6 w a b c ha hb hc sa sb sc h1 h2 h3
    · exact bw_7 w a b c ha hb hc sa sb sc h1 h2 h3 (m2.2 (by have := p2.1 h1; have := q3.1 h2; omega))
    · exact bw_8 w a b c ha hb hc sa sb sc h1 h2 h3 (m2.2 (by have := p2.1 h1; have := q2.1 h2; omega))
  · exact bw_long w a b c h

end Go.Proofs.Ytocljhbkjengpaa
