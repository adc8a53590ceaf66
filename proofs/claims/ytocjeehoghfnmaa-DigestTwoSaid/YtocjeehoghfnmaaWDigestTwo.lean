/-
  THE WALK OF DigestTwo, out of the contracts.
-/
import Derived.Test.YtocjeehoghfnmaaDigLive
import Derived.Test.YtocjeehoghfnmaaDigRmay
import Derived.Test.YtocjeehoghfnmaaDigBox
import Derived.Test.YtocjeehoghfnmaaDigFrame
namespace Go.Proofs.Ytocjeehoghfnmaa
open Go.RowKit

theorem keep12 {w w' : World} {a0 a1 a2 a3 a4 a5 a6 a7 a8 a9 a10 a11 : Addr} {v0 v1 v2 v3 v4 v5 v6 v7 v8 v9 v10 v11 : Value} (hb : Below w.heap.size w w') (h : w.cell? a0 = some v0 ∧ w.cell? a1 = some v1 ∧ w.cell? a2 = some v2 ∧ w.cell? a3 = some v3 ∧ w.cell? a4 = some v4 ∧ w.cell? a5 = some v5 ∧ w.cell? a6 = some v6 ∧ w.cell? a7 = some v7 ∧ w.cell? a8 = some v8 ∧ w.cell? a9 = some v9 ∧ w.cell? a10 = some v10 ∧ w.cell? a11 = some v11) : w'.cell? a0 = some v0 ∧ w'.cell? a1 = some v1 ∧ w'.cell? a2 = some v2 ∧ w'.cell? a3 = some v3 ∧ w'.cell? a4 = some v4 ∧ w'.cell? a5 = some v5 ∧ w'.cell? a6 = some v6 ∧ w'.cell? a7 = some v7 ∧ w'.cell? a8 = some v8 ∧ w'.cell? a9 = some v9 ∧ w'.cell? a10 = some v10 ∧ w'.cell? a11 = some v11 :=
  (And.imp (fun h => cell_later h hb) (And.imp (fun h => cell_later h hb) (And.imp (fun h => cell_later h hb) (And.imp (fun h => cell_later h hb) (And.imp (fun h => cell_later h hb) (And.imp (fun h => cell_later h hb) (And.imp (fun h => cell_later h hb) (And.imp (fun h => cell_later h hb) (And.imp (fun h => cell_later h hb) (And.imp (fun h => cell_later h hb) (And.imp (fun h => cell_later h hb) (fun h => cell_later h hb)))))))))))) h

set_option maxHeartbeats 3200000 in
set_option maxRecDepth 1000000 in
theorem digestTwo_out {w : World} {v : Value} {a : List Row} (ha : Tab w v a) (c1 c2 : Chg) (l1 : c1.c.length ≤ maxLen) (l2 : c2.c.length ≤ maxLen) (l3 : c1.v.st.length ≤ maxLen) (l4 : c2.v.st.length ≤ maxLen)
    (h : fewT a = false ∨ (fewT a = true ∧ diMay a = false) ∨ (fewT a = true ∧ diMay a = true ∧ 60 < c1.c.length) ∨ (fewT a = true ∧ diMay a = true ∧ c1.c.length ≤ 60 ∧ 60 < c2.c.length) ∨ (fewT a = true ∧ diMay a = true ∧ c1.c.length ≤ 60 ∧ c2.c.length ≤ 60 ∧ 100 < c1.v.st.length) ∨ (fewT a = true ∧ diMay a = true ∧ c1.c.length ≤ 60 ∧ c2.c.length ≤ 60 ∧ c1.v.st.length ≤ 100 ∧ 100 < c2.v.st.length)) :
    Calls Try.prog 9 #[v, chgAgg c1, chgAgg c2] w fun e w' => e = .returned (.bool true) ∧ Below w.heap.size w w' := by
  unfold maxLen at l1 l2 l3 l4
  obtain ⟨c1, o1, s1, p1, z1, t1⟩ := c1
  obtain ⟨c2, o2, s2, p2, z2, t2⟩ := c2
  simp only at h l1 l2 l3 l4
  have hb0 := bl_alloc ((Below.refl w.heap.size w).alloc (Nat.le_refl _) (.cells #[.string ⟨c1.toArray⟩, .bool o1, .int .i64 s1, .int .i64 p1, .int .i64 z1, .string ⟨t1.toArray⟩] 37)) (.cells #[.string ⟨c2.toArray⟩, .bool o2, .int .i64 s2, .int .i64 p2, .int .i64 z2, .string ⟨t2.toArray⟩] 37)
  have HA := Lib.hid (ha.later hb0)
  have B0 := Lib.hid hb0
  have K := Lib.hid ((box6 w ⟨c1, o1, s1, p1, z1, t1⟩ 37).later ((Below.refl _ _).alloc (Nat.le_refl _) (.cells #[.string ⟨c2.toArray⟩, .bool o2, .int .i64 s2, .int .i64 p2, .int .i64 z2, .string ⟨t2.toArray⟩] 37)))
  have M : Hid (Box6 ((w.alloc (.cells #[.string ⟨c1.toArray⟩, .bool o1, .int .i64 s1, .int .i64 p1, .int .i64 z1, .string ⟨t1.toArray⟩] 37)).alloc (.cells #[.string ⟨c2.toArray⟩, .bool o2, .int .i64 s2, .int .i64 p2, .int .i64 z2, .string ⟨t2.toArray⟩] 37)) (w.heap.size + 1) ⟨c2, o2, s2, p2, z2, t2⟩) := Lib.hid (by have := box6 (w.alloc (.cells #[.string ⟨c1.toArray⟩, .bool o1, .int .i64 s1, .int .i64 p1, .int .i64 z1, .string ⟨t1.toArray⟩] 37)) ⟨c2, o2, s2, p2, z2, t2⟩ 37; rwa [show (w.alloc (.cells #[.string ⟨c1.toArray⟩, .bool o1, .int .i64 s1, .int .i64 p1, .int .i64 z1, .string ⟨t1.toArray⟩] 37)).heap.size = w.heap.size + 1 by simp] at this)
  unfold chgAgg
  clear ha hb0
  rcases h with h | ⟨h1, h⟩ | ⟨h1, h2, h⟩ | ⟨h1, h2, h3, h⟩ | ⟨h1, h2, h3, h4, h⟩ | ⟨h1, h2, h3, h4, h5, h⟩
  · have H1 := Lib.hid h
    clear h
    go_enter Try.func9, Try.ntmps9
    go_wp2_with fail
    refine (fewt_eq HA.out H1).mono ?_
    rintro e w1 ⟨rfl, rfl⟩
    go_wp2_with fail
    refine (live5 _).mono ?_
    rintro e w1 ⟨rfl, b⟩
    go_wp2_with fail
    go_ret
    exact ⟨rfl, below2' B0.out b⟩
  all_goals
    have H1 := Lib.hid h1
    have HS := Lib.hid (fewT_short h1)
    clear h1
  · have H2 := Lib.hid h
    clear h
    go_enter Try.func9, Try.ntmps9
    go_wp2_with fail
    refine (fewt_eq HA.out H1).mono ?_
    rintro e w1 ⟨rfl, rfl⟩
    go_wp2_with fail
    refine (rdimay_eq HA.out HS.out H2).mono ?_
    rintro e w1 ⟨rfl, b⟩
    have B1 := Lib.hid (below2' B0.out b)
    clear b
    go_wp2_with fail
    refine (live5 _).mono ?_
    rintro e w2 ⟨rfl, b⟩
    go_wp2_with fail
    go_ret
    exact ⟨rfl, below2' B1.out b⟩
  all_goals
    have H2 := Lib.hid h2
    clear h2
    go_enter Try.func9, Try.ntmps9
    go_wp2_with fail
    refine (fewt_eq HA.out H1).mono ?_
    rintro e w1 ⟨rfl, rfl⟩
    go_wp2_with fail
    refine (rdimay_eq HA.out HS.out H2).mono ?_
    rintro e w1 ⟨rfl, b⟩
    have B1 := Lib.hid (below2' B0.out b)
    replace K := Lib.hid (K.out.later b)
    replace M := Lib.hid (M.out.later b)
    clear b
    obtain ⟨k0, k1, k2, k3, k4, k5⟩ := K.out
    obtain ⟨m0, m1, m2, m3, m4, m5⟩ := M.out
    simp only at k0 k1 k2 k3 k4 k5 m0 m1 m2 m3 m4 m5
    go_wp2_with fail
    refine (live5 _).mono ?_
    rintro e w2 ⟨rfl, b⟩
    have B2 := Lib.hid (below2' B1.out b)
    clear b k0 k1 k2 k3 k4 k5 m0 m1 m2 m3 m4 m5
    go_wp2_with fail
    go_ret
    exact ⟨rfl, B2.out⟩

set_option maxHeartbeats 6400000 in
set_option maxRecDepth 1000000 in
theorem digestTwo_in {w : World} {v : Value} {a : List Row} (ha : Tab w v a) (c1 c2 : Chg) (h1 : fewT a = true) (h2 : diMay a = true) (l1 : c1.c.length ≤ 60) (l2 : c2.c.length ≤ 60) (l3 : c1.v.st.length ≤ 100) (l4 : c2.v.st.length ≤ 100) :
    Calls Try.prog 9 #[v, chgAgg c1, chgAgg c2] w fun e w' => e = .returned (.bool true) ∧ Below w.heap.size w w' := by
  have la := (fewT_yes h1).1
  have lA := set_len a c1
  have lB := set_len a c2
  have hr := (diMay_iff.1 h2).2.2
  have HS1 : Hid (∀ {w' : World} {v' : Value}, Tab w' v' (a) → Calls Try.prog 28 #[v', chgAgg c1] w' fun e w'' => ∃ u, e = .returned u ∧ OwnR w'' w'.heap.size u (diSet a c1) ∧ Below w'.heap.size w' w'') := Lib.hid fun h => set_any h (by omega) c1
  have HS2 : Hid (∀ {w' : World} {v' : Value}, Tab w' v' (a) → Calls Try.prog 28 #[v', chgAgg c2] w' fun e w'' => ∃ u, e = .returned u ∧ OwnR w'' w'.heap.size u (diSet a c2) ∧ Below w'.heap.size w' w'') := Lib.hid fun h => set_any h (by omega) c2
  have HS12 : Hid (∀ {w' : World} {v' : Value}, Tab w' v' (diSet a c1) → Calls Try.prog 28 #[v', chgAgg c2] w' fun e w'' => ∃ u, e = .returned u ∧ OwnR w'' w'.heap.size u (diSet (diSet a c1) c2) ∧ Below w'.heap.size w' w'') := Lib.hid fun h => set_any h (by omega) c2
  have HS21 : Hid (∀ {w' : World} {v' : Value}, Tab w' v' (diSet a c2) → Calls Try.prog 28 #[v', chgAgg c1] w' fun e w'' => ∃ u, e = .returned u ∧ OwnR w'' w'.heap.size u (diSet (diSet a c2) c1) ∧ Below w'.heap.size w' w'') := Lib.hid fun h => set_any h (by omega) c1
  have HS11 : Hid (∀ {w' : World} {v' : Value}, Tab w' v' (diSet a c1) → Calls Try.prog 28 #[v', chgAgg c1] w' fun e w'' => ∃ u, e = .returned u ∧ OwnR w'' w'.heap.size u (diSet a c1) ∧ Below w'.heap.size w' w'') := Lib.hid fun h => by have := set_any h (by omega) c1; rwa [set_last hr c1 c1 rfl] at this
  have HSm : Hid (∀ t : List Row, tSame t t = true) := Lib.hid fun t => tSame_iff.2 rfl
  have hcc : (c1.c = c2.c ∧ diSet (diSet a c1) c2 = diSet a c2 ∧ diSet (diSet a c2) c1 = diSet a c1) ∨ ((c1.c == c2.c) = false ∧ diSet (diSet a c1) c2 = diSet (diSet a c2) c1) := by
    by_cases h : c1.c = c2.c
    · exact .inl ⟨h, set_last hr c1 c2 h, set_last hr c2 c1 h.symm⟩
    · exact .inr ⟨by simpa using h, set_set hr c1 c2 h⟩
  obtain ⟨A, hA⟩ : ∃ A, diSet a c1 = A := ⟨_, rfl⟩
  obtain ⟨B, hB⟩ : ∃ B, diSet a c2 = B := ⟨_, rfl⟩
  rw [hA] at HS1 HS12 HS11 hcc
  rw [hB] at HS2 HS21 hcc
  obtain ⟨AB, hAB⟩ : ∃ AB, diSet A c2 = AB := ⟨_, rfl⟩
  obtain ⟨BA, hBA⟩ : ∃ BA, diSet B c1 = BA := ⟨_, rfl⟩
  rw [hAB] at HS12 hcc
  rw [hBA] at HS21 hcc
  clear hA hB hAB hBA lA lB hr
  obtain ⟨c1, o1, s1, p1, z1, t1⟩ := c1
  obtain ⟨c2, o2, s2, p2, z2, t2⟩ := c2
  simp only at hcc l1 l2 l3 l4
  have hb0 := bl_alloc ((Below.refl w.heap.size w).alloc (Nat.le_refl _) (.cells #[.string ⟨c1.toArray⟩, .bool o1, .int .i64 s1, .int .i64 p1, .int .i64 z1, .string ⟨t1.toArray⟩] 37)) (.cells #[.string ⟨c2.toArray⟩, .bool o2, .int .i64 s2, .int .i64 p2, .int .i64 z2, .string ⟨t2.toArray⟩] 37)
  have HA := Lib.hid (ha.later hb0)
  have B0 := Lib.hid hb0
  have K := Lib.hid ((box6 w ⟨c1, o1, s1, p1, z1, t1⟩ 37).later ((Below.refl _ _).alloc (Nat.le_refl _) (.cells #[.string ⟨c2.toArray⟩, .bool o2, .int .i64 s2, .int .i64 p2, .int .i64 z2, .string ⟨t2.toArray⟩] 37)))
  have M : Hid (Box6 ((w.alloc (.cells #[.string ⟨c1.toArray⟩, .bool o1, .int .i64 s1, .int .i64 p1, .int .i64 z1, .string ⟨t1.toArray⟩] 37)).alloc (.cells #[.string ⟨c2.toArray⟩, .bool o2, .int .i64 s2, .int .i64 p2, .int .i64 z2, .string ⟨t2.toArray⟩] 37)) (w.heap.size + 1) ⟨c2, o2, s2, p2, z2, t2⟩) := Lib.hid (by have := box6 (w.alloc (.cells #[.string ⟨c1.toArray⟩, .bool o1, .int .i64 s1, .int .i64 p1, .int .i64 z1, .string ⟨t1.toArray⟩] 37)) ⟨c2, o2, s2, p2, z2, t2⟩ 37; rwa [show (w.alloc (.cells #[.string ⟨c1.toArray⟩, .bool o1, .int .i64 s1, .int .i64 p1, .int .i64 z1, .string ⟨t1.toArray⟩] 37)).heap.size = w.heap.size + 1 by simp] at this)
  unfold chgAgg
  have H1 := Lib.hid h1
  have H2 := Lib.hid h2
  have HS := Lib.hid (fewT_short h1)
  clear ha hb0 h1 h2
  go_enter Try.func9, Try.ntmps9
  go_wp2_with fail
  refine (fewt_eq HA.out H1).mono ?_
  rintro e w1 ⟨rfl, rfl⟩
  go_wp2_with fail
  refine (rdimay_eq HA.out HS.out H2).mono ?_
  rintro e w1 ⟨rfl, b⟩
  have B1 := Lib.hid (below2' B0.out b)
  replace K := Lib.hid (K.out.later b)
  replace M := Lib.hid (M.out.later b)
  have V := Lib.hid (HA.out.later b)
  clear b B0 HA
  obtain ⟨k0, k1, k2, k3, k4, k5⟩ := K.out
  obtain ⟨m0, m1, m2, m3, m4, m5⟩ := M.out
  simp only at k0 k1 k2 k3 k4 k5 m0 m1 m2 m3 m4 m5
  go_wp2_with fail
  have D : Hid (Below w1.heap.size w1 w1.drew) := (Below.refl _ _).drew
  go_region_held3 (fun W => W.cell? ⟨w.heap.size, 0, none⟩ = some (.string ⟨c1.toArray⟩) ∧ W.cell? ⟨w.heap.size, 1, none⟩ = some (.bool o1) ∧ W.cell? ⟨w.heap.size, 2, none⟩ = some (.int .i64 s1) ∧ W.cell? ⟨w.heap.size, 3, none⟩ = some (.int .i64 p1) ∧ W.cell? ⟨w.heap.size, 4, none⟩ = some (.int .i64 z1) ∧ W.cell? ⟨w.heap.size, 5, none⟩ = some (.string ⟨t1.toArray⟩) ∧ W.cell? ⟨w.heap.size + 1, 0, none⟩ = some (.string ⟨c2.toArray⟩) ∧ W.cell? ⟨w.heap.size + 1, 1, none⟩ = some (.bool o2) ∧ W.cell? ⟨w.heap.size + 1, 2, none⟩ = some (.int .i64 s2) ∧ W.cell? ⟨w.heap.size + 1, 3, none⟩ = some (.int .i64 p2) ∧ W.cell? ⟨w.heap.size + 1, 4, none⟩ = some (.int .i64 z2) ∧ W.cell? ⟨w.heap.size + 1, 5, none⟩ = some (.string ⟨t2.toArray⟩))
    (first | (with_reducible exact keep12 (by assumption) (by assumption)) | go_keep)
    ((first
      | (go_at_call 28; (first
        | (refine (HS12.out T1.out).mono ?_; rintro e x2 ⟨u7, rfl, ho2, hb2⟩; (have D := Lib.hid (below2' D.out hb2)); (have T7 := Lib.hid ho2.tab); clear ho2)
        | (refine (HS1.out (V.out.later D.out)).mono ?_; rintro e x1 ⟨u1, rfl, ho1, hb1⟩; (have D := Lib.hid (below2' D.out hb1)); (have T1 := Lib.hid ho1.tab); clear ho1)))))
  replace K := Lib.hid (K.out.later D.out)
  replace M := Lib.hid (M.out.later D.out)
  replace V := Lib.hid (V.out.later D.out)
  have B2 := Lib.hid (below2' B1.out D.out)
  clear hb1 hb2 T1 B1 D k0 k1 k2 k3 k4 k5 m0 m1 m2 m3 m4 m5
  obtain ⟨k0, k1, k2, k3, k4, k5⟩ := K.out
  obtain ⟨m0, m1, m2, m3, m4, m5⟩ := M.out
  simp only at k0 k1 k2 k3 k4 k5 m0 m1 m2 m3 m4 m5
  go_wp2_with fail
  have D : Hid (Below x2.heap.size x2 x2.drew) := (Below.refl _ _).drew
  go_region_held3 (fun W => W.cell? ⟨w.heap.size, 0, none⟩ = some (.string ⟨c1.toArray⟩) ∧ W.cell? ⟨w.heap.size, 1, none⟩ = some (.bool o1) ∧ W.cell? ⟨w.heap.size, 2, none⟩ = some (.int .i64 s1) ∧ W.cell? ⟨w.heap.size, 3, none⟩ = some (.int .i64 p1) ∧ W.cell? ⟨w.heap.size, 4, none⟩ = some (.int .i64 z1) ∧ W.cell? ⟨w.heap.size, 5, none⟩ = some (.string ⟨t1.toArray⟩) ∧ W.cell? ⟨w.heap.size + 1, 0, none⟩ = some (.string ⟨c2.toArray⟩) ∧ W.cell? ⟨w.heap.size + 1, 1, none⟩ = some (.bool o2) ∧ W.cell? ⟨w.heap.size + 1, 2, none⟩ = some (.int .i64 s2) ∧ W.cell? ⟨w.heap.size + 1, 3, none⟩ = some (.int .i64 p2) ∧ W.cell? ⟨w.heap.size + 1, 4, none⟩ = some (.int .i64 z2) ∧ W.cell? ⟨w.heap.size + 1, 5, none⟩ = some (.string ⟨t2.toArray⟩))
    (first | (with_reducible exact keep12 (by assumption) (by assumption)) | go_keep)
    ((first
      | (go_at_call 28; (first
        | (refine (HS21.out T2.out).mono ?_; rintro e x4 ⟨u8, rfl, ho4, hb4⟩; (have D := Lib.hid (below2' D.out hb4)); (have T8 := Lib.hid ho4.tab); clear ho4)
        | (refine (HS2.out (V.out.later D.out)).mono ?_; rintro e x3 ⟨u2, rfl, ho3, hb3⟩; (have D := Lib.hid (below2' D.out hb3)); (have T2 := Lib.hid ho3.tab); clear ho3)))))
  replace K := Lib.hid (K.out.later D.out)
  replace M := Lib.hid (M.out.later D.out)
  replace V := Lib.hid (V.out.later D.out)
  replace T7 := Lib.hid (T7.out.later D.out)
  have B3 := Lib.hid (below2' B2.out D.out)
  clear hb3 hb4 T2 B2 D k0 k1 k2 k3 k4 k5 m0 m1 m2 m3 m4 m5
  obtain ⟨k0, k1, k2, k3, k4, k5⟩ := K.out
  obtain ⟨m0, m1, m2, m3, m4, m5⟩ := M.out
  simp only at k0 k1 k2 k3 k4 k5 m0 m1 m2 m3 m4 m5
  go_wp2_with fail
  have D : Hid (Below x4.heap.size x4 x4.drew) := (Below.refl _ _).drew
  go_region_held3 (fun W => W.cell? ⟨w.heap.size, 0, none⟩ = some (.string ⟨c1.toArray⟩) ∧ W.cell? ⟨w.heap.size, 1, none⟩ = some (.bool o1) ∧ W.cell? ⟨w.heap.size, 2, none⟩ = some (.int .i64 s1) ∧ W.cell? ⟨w.heap.size, 3, none⟩ = some (.int .i64 p1) ∧ W.cell? ⟨w.heap.size, 4, none⟩ = some (.int .i64 z1) ∧ W.cell? ⟨w.heap.size, 5, none⟩ = some (.string ⟨t1.toArray⟩) ∧ W.cell? ⟨w.heap.size + 1, 0, none⟩ = some (.string ⟨c2.toArray⟩) ∧ W.cell? ⟨w.heap.size + 1, 1, none⟩ = some (.bool o2) ∧ W.cell? ⟨w.heap.size + 1, 2, none⟩ = some (.int .i64 s2) ∧ W.cell? ⟨w.heap.size + 1, 3, none⟩ = some (.int .i64 p2) ∧ W.cell? ⟨w.heap.size + 1, 4, none⟩ = some (.int .i64 z2) ∧ W.cell? ⟨w.heap.size + 1, 5, none⟩ = some (.string ⟨t2.toArray⟩))
    (first | (with_reducible exact keep12 (by assumption) (by assumption)) | go_keep)
    ((first
      | (go_at_call 28; (first
        | (refine (HS11.out T1.out).mono ?_; rintro e x6 ⟨y2, rfl, ho6, hb6⟩; (have D := Lib.hid (below2' D.out hb6)); (have T6 := Lib.hid ho6.tab); clear ho6 T1 hb5)
        | (refine (HS1.out (V.out.later D.out)).mono ?_; rintro e x5 ⟨y1, rfl, ho5, hb5⟩; (have D := Lib.hid (below2' D.out hb5)); (have T1 := Lib.hid ho5.tab); (try (have T6 := Lib.hid (T6.out.later hb5))); clear ho5)))
      | (go_at_call 25; go_loud (refine (tsame_eq T6.out T1.out (HSm.out _)).mono ?_; rintro e x7 ⟨rfl, hb7⟩; (have D := Lib.hid (below2' D.out hb7))))))
  replace K := Lib.hid (K.out.later D.out)
  replace M := Lib.hid (M.out.later D.out)
  replace V := Lib.hid (V.out.later D.out)
  replace T7 := Lib.hid (T7.out.later D.out)
  replace T8 := Lib.hid (T8.out.later D.out)
  have B4 := Lib.hid (below2' B3.out D.out)
  clear hb7 T1 T6 B3 D k0 k1 k2 k3 k4 k5 m0 m1 m2 m3 m4 m5
  obtain ⟨k0, k1, k2, k3, k4, k5⟩ := K.out
  obtain ⟨m0, m1, m2, m3, m4, m5⟩ := M.out
  simp only at k0 k1 k2 k3 k4 k5 m0 m1 m2 m3 m4 m5
  rcases hcc with ⟨hcc, e1, e2⟩ | ⟨hcc, e1⟩
  · subst hcc
    subst e1
    subst e2
    go_wp2_with fail
    refine (HS2.out V.out).mono ?_
    rintro e x8 ⟨y8, rfl, ho, b⟩
    have B5 := Lib.hid (below2' B4.out b)
    replace K := Lib.hid (K.out.later b)
    replace V := Lib.hid (V.out.later b)
    replace T7 := Lib.hid (T7.out.later b)
    replace T8 := Lib.hid (T8.out.later b)
    have T9 := Lib.hid ho.tab
    clear b ho B4 M k0 k1 k2 k3 k4 k5 m0 m1 m2 m3 m4 m5
    go_wp2_with fail
    refine (tsame_eq T7.out T9.out (HSm.out _)).mono ?_
    rintro e x9 ⟨rfl, b⟩
    have B6 := Lib.hid (below2' B5.out b)
    replace K := Lib.hid (K.out.later b)
    replace V := Lib.hid (V.out.later b)
    replace T8 := Lib.hid (T8.out.later b)
    clear b B5 T7 T9
    obtain ⟨k0, k1, k2, k3, k4, k5⟩ := K.out
    simp only at k0 k1 k2 k3 k4 k5
    go_wp2_with fail
    refine (HS1.out V.out).mono ?_
    rintro e x10 ⟨y10, rfl, ho, b⟩
    have B7 := Lib.hid (below2' B6.out b)
    replace T8 := Lib.hid (T8.out.later b)
    have T9 := Lib.hid ho.tab
    clear b ho B6 k0 k1 k2 k3 k4 k5
    go_wp2_with fail
    refine (tsame_eq T8.out T9.out (HSm.out _)).mono ?_
    rintro e x11 ⟨rfl, b⟩
    have B8 := Lib.hid (below2' B7.out b)
    clear b B7
    go_wp2_with fail
    refine (live5 _).mono ?_
    rintro e x12 ⟨rfl, b⟩
    have B9 := Lib.hid (below2' B8.out b)
    clear b B8
    go_wp2_with fail
    go_ret
    exact ⟨rfl, B9.out⟩
  · subst e1
    go_wp2_with fail
    refine (tsame_eq T7.out T8.out (HSm.out _)).mono ?_
    rintro e x8 ⟨rfl, b⟩
    have B5 := Lib.hid (below2' B4.out b)
    clear b B4 k0 k1 k2 k3 k4 k5 m0 m1 m2 m3 m4 m5
    go_wp2_with fail
    refine (live5 _).mono ?_
    rintro e x9 ⟨rfl, b⟩
    have B6 := Lib.hid (below2' B5.out b)
    clear b B5
    go_wp2_with fail
    go_ret
    exact ⟨rfl, B6.out⟩

theorem walkDigestTwo {w : World} (v : Value) (a : List Row) (ha : Tab w v a) (_ : ∀ r ∈ a, r.c.length ≤ maxLen ∧ r.v.st.length ≤ maxLen) (c1 : Chg) (l1 : c1.c.length ≤ maxLen) (l3 : c1.v.st.length ≤ maxLen) (c2 : Chg) (l2 : c2.c.length ≤ maxLen) (l4 : c2.v.st.length ≤ maxLen) :
    Calls Try.prog 9 #[v, chgAgg c1, chgAgg c2] w fun e w' => e = .returned (.bool true) ∧ Below w.heap.size w w' := by
  cases h1 : fewT a with
  | false => exact digestTwo_out ha c1 c2 l1 l2 l3 l4 (.inl h1)
  | true =>
    cases h2 : diMay a with
    | false => exact digestTwo_out ha c1 c2 l1 l2 l3 l4 (.inr (.inl ⟨h1, h2⟩))
    | true =>
      by_cases h3 : 60 < c1.c.length
      · exact digestTwo_out ha c1 c2 l1 l2 l3 l4 (.inr (.inr (.inl ⟨h1, h2, h3⟩)))
      · by_cases h4 : 60 < c2.c.length
        · exact digestTwo_out ha c1 c2 l1 l2 l3 l4 (.inr (.inr (.inr (.inl ⟨h1, h2, by omega, h4⟩))))
        · by_cases h5 : 100 < c1.v.st.length
          · exact digestTwo_out ha c1 c2 l1 l2 l3 l4 (.inr (.inr (.inr (.inr (.inl ⟨h1, h2, by omega, by omega, h5⟩)))))
          · by_cases h6 : 100 < c2.v.st.length
            · exact digestTwo_out ha c1 c2 l1 l2 l3 l4 (.inr (.inr (.inr (.inr (.inr ⟨h1, h2, by omega, by omega, by omega, h6⟩)))))
            · exact digestTwo_in ha c1 c2 h1 h2 (by omega) (by omega) (by omega) (by omega)

end Go.Proofs.Ytocjeehoghfnmaa
