/-
  THE WALK OF DigestSets, out of the contracts.
-/
import Derived.Test.YtocjeehoghfnmaaDigLive
import Derived.Test.YtocjeehoghfnmaaDigBox
import Derived.Test.YtocjeehoghfnmaaDigRchange
import Derived.Test.YtocjeehoghfnmaaDigFrame
namespace Go.Proofs.Ytocjeehoghfnmaa
open Go.RowKit

theorem keep14 {w w' : World} {a0 a1 a2 a3 a4 a5 a6 a7 a8 a9 a10 a11 a12 a13 : Addr} {v0 v1 v2 v3 v4 v5 v6 v7 v8 v9 v10 v11 v12 v13 : Value} (hb : Below w.heap.size w w') (h : w.cell? a0 = some v0 ∧ w.cell? a1 = some v1 ∧ w.cell? a2 = some v2 ∧ w.cell? a3 = some v3 ∧ w.cell? a4 = some v4 ∧ w.cell? a5 = some v5 ∧ w.cell? a6 = some v6 ∧ w.cell? a7 = some v7 ∧ w.cell? a8 = some v8 ∧ w.cell? a9 = some v9 ∧ w.cell? a10 = some v10 ∧ w.cell? a11 = some v11 ∧ w.cell? a12 = some v12 ∧ w.cell? a13 = some v13) : w'.cell? a0 = some v0 ∧ w'.cell? a1 = some v1 ∧ w'.cell? a2 = some v2 ∧ w'.cell? a3 = some v3 ∧ w'.cell? a4 = some v4 ∧ w'.cell? a5 = some v5 ∧ w'.cell? a6 = some v6 ∧ w'.cell? a7 = some v7 ∧ w'.cell? a8 = some v8 ∧ w'.cell? a9 = some v9 ∧ w'.cell? a10 = some v10 ∧ w'.cell? a11 = some v11 ∧ w'.cell? a12 = some v12 ∧ w'.cell? a13 = some v13 :=
  (And.imp (fun h => cell_later h hb) (And.imp (fun h => cell_later h hb) (And.imp (fun h => cell_later h hb) (And.imp (fun h => cell_later h hb) (And.imp (fun h => cell_later h hb) (And.imp (fun h => cell_later h hb) (And.imp (fun h => cell_later h hb) (And.imp (fun h => cell_later h hb) (And.imp (fun h => cell_later h hb) (And.imp (fun h => cell_later h hb) (And.imp (fun h => cell_later h hb) (And.imp (fun h => cell_later h hb) (And.imp (fun h => cell_later h hb) (fun h => cell_later h hb)))))))))))))) h

set_option maxHeartbeats 3200000 in
set_option maxRecDepth 1000000 in
theorem digestSets_out {w : World} {va vb : Value} {a b : List Row} (ha : Tab w va a) (hb : Tab w vb b) (c : Chg) (hcl : c.c.length ≤ maxLen) (hvl : c.v.st.length ≤ maxLen)
    (h : fewT a = false ∨ (fewT a = true ∧ fewT b = false) ∨ (fewT a = true ∧ fewT b = true ∧ 60 < c.c.length) ∨ (fewT a = true ∧ fewT b = true ∧ c.c.length ≤ 60 ∧ 100 < c.v.st.length)) :
    Calls Try.prog 5 #[va, vb, chgAgg c] w fun e w' => e = .returned (.bool true) ∧ Below w.heap.size w w' := by
  unfold maxLen at hcl hvl
  obtain ⟨cc, on, sh, pr, si, st⟩ := c
  simp only at h hcl hvl
  have HA := Lib.hid (ha.later ((Below.refl _ _).alloc (Nat.le_refl _) (.cells #[.string ⟨cc.toArray⟩, .bool on, .int .i64 sh, .int .i64 pr, .int .i64 si, .string ⟨st.toArray⟩] 37)))
  have HB := Lib.hid (hb.later ((Below.refl _ _).alloc (Nat.le_refl _) (.cells #[.string ⟨cc.toArray⟩, .bool on, .int .i64 sh, .int .i64 pr, .int .i64 si, .string ⟨st.toArray⟩] 37)))
  have B0 : Hid (Below w.heap.size w _) := bl_alloc (Below.refl w.heap.size w) (.cells #[.string ⟨cc.toArray⟩, .bool on, .int .i64 sh, .int .i64 pr, .int .i64 si, .string ⟨st.toArray⟩] 37)
  obtain ⟨k0, k1, k2, k3, k4, k5⟩ := box6 w ⟨cc, on, sh, pr, si, st⟩ 37
  simp only at k0 k1 k2 k3 k4 k5
  unfold chgAgg
  clear ha hb
  rcases h with h | ⟨h1, h⟩ | ⟨h1, h2, h⟩ | ⟨h1, h2, h3, h⟩
  · have H1 := Lib.hid h
    clear h
    go_enter Try.func5, Try.ntmps5
    go_wp2_with fail
    refine (fewt_eq HA.out H1).mono ?_
    rintro e w1 ⟨rfl, rfl⟩
    go_wp2_with fail
    refine (live5 _).mono ?_
    rintro e w1 ⟨rfl, b⟩
    go_wp2_with fail
    go_ret
    exact ⟨rfl, below2' B0.out b⟩
  all_goals
    have H1 := Lib.hid h1
    clear h1
  · have H2 := Lib.hid h
    clear h
    go_enter Try.func5, Try.ntmps5
    go_wp2_with fail
    refine (fewt_eq HA.out H1).mono ?_
    rintro e w1 ⟨rfl, rfl⟩
    go_wp2_with fail
    refine (fewt_eq HB.out H2).mono ?_
    rintro e w1 ⟨rfl, rfl⟩
    go_wp2_with fail
    refine (live5 _).mono ?_
    rintro e w1 ⟨rfl, b⟩
    go_wp2_with fail
    go_ret
    exact ⟨rfl, below2' B0.out b⟩
  all_goals
    have H2 := Lib.hid h2
    clear h2
    go_enter Try.func5, Try.ntmps5
    go_wp2_with fail
    refine (fewt_eq HA.out H1).mono ?_
    rintro e w1 ⟨rfl, rfl⟩
    go_wp2_with fail
    refine (fewt_eq HB.out H2).mono ?_
    rintro e w1 ⟨rfl, rfl⟩
    go_wp2_with fail
    refine (live5 _).mono ?_
    rintro e w1 ⟨rfl, b⟩
    have B1 := Lib.hid (below2' B0.out b)
    clear b k0 k1 k2 k3 k4 k5
    go_wp2_with fail
    go_ret
    exact ⟨rfl, B1.out⟩

set_option maxHeartbeats 6400000 in
set_option maxRecDepth 1000000 in
theorem digestSets_in {w : World} {va vb : Value} {a b : List Row} (ha : Tab w va a) (hb : Tab w vb b) (c : Chg) (h1 : fewT a = true) (h2 : fewT b = true) (h3 : c.c.length ≤ 60) (h4 : c.v.st.length ≤ 100) :
    Calls Try.prog 5 #[va, vb, chgAgg c] w fun e w' => e = .returned (.bool true) ∧ Below w.heap.size w w' := by
  have la := (fewT_yes h1).1
  have lb := (fewT_yes h2).1
  have HSET : Hid (∀ {w' : World} {v' : Value}, Tab w' v' a → Calls Try.prog 28 #[v', chgAgg c] w' fun e w'' => ∃ u, e = .returned u ∧ OwnR w'' w'.heap.size u (diSet a c) ∧ Below w'.heap.size w' w'') := Lib.hid fun h => set_any h (by omega) c
  have HRSET : Hid (∀ {w' : World} {v' : Value}, Tab w' v' a → Calls Try.prog 29 #[v', chgAgg c] w' fun e w'' => ∃ u, e = .returned u ∧ OwnR w'' w'.heap.size u (diSet a c) ∧ Below w'.heap.size w' w'') := Lib.hid fun h => rset_any h (by omega) c
  have HCH : Hid (∀ {w' : World} {va vb : Value}, Tab w' va a → Tab w' vb b → Calls Try.prog 31 #[va, vb] w' fun e w'' => ∃ v, e = .returned v ∧ Chgs w'' v (diChanges a b) ∧ Below w'.heap.size w' w'') := Lib.hid fun ha hb => changes_any ha hb (fewT_short h1) (fewT_short h2) (by omega) (by omega)
  have HRCH : Hid (∀ {w' : World} {va vb : Value}, Tab w' va a → Tab w' vb b → Calls Try.prog 32 #[va, vb] w' fun e w'' => ∃ v, e = .returned v ∧ Chgs w'' v (diChanges a b) ∧ Below w'.heap.size w' w'') := Lib.hid fun ha hb => rchanges_any ha hb (fewT_short h1) (fewT_short h2) (by omega) (by omega)
  have HSC : Hid (∀ {w' : World} {x y : Value}, Chgs w' x (diChanges a b) → Chgs w' y (diChanges a b) → Calls Try.prog 30 #[x, y] w' fun e w'' => e = .returned (.bool true) ∧ Below w'.heap.size w' w'') := Lib.hid fun hx hy => by have := csame_any hx hy; rwa [csSame_self] at this
  have HSm : Hid (tSame (diSet a c) (diSet a c) = true) := Lib.hid (tSame_iff.2 rfl)
  obtain ⟨S, hS⟩ : ∃ S, diSet a c = S := ⟨_, rfl⟩
  rw [hS] at HSET HRSET HSm
  clear hS
  obtain ⟨cc, on, sh, pr, si, st⟩ := c
  simp only at h3 h4
  obtain ⟨⟨⟨g0, g1, g2, g3⟩, o⟩, hg⟩ : ∃ r, diGet a cc = r := ⟨_, rfl⟩
  have HG := Lib.hid hg
  have hve : ∀ w : World, (binOp .eql 35 (.agg #[.int .i64 g0, .int .i64 g1, .int .i64 g2, .string ⟨g3.toArray⟩]) (.agg #[.int .i64 g0, .int .i64 g1, .int .i64 g2, .string ⟨g3.toArray⟩])).run Try.prog w = .ok (.bool true) w := fun w => by
    have h := val_eql5 g0 g1 g2 g0 g1 g2 g3 g3 w
    rw [show vSame ⟨g0, g1, g2, g3⟩ ⟨g0, g1, g2, g3⟩ = true from vSame_iff.2 rfl] at h
    exact h
  have hgd : Try.prog.eqGuardType Try.prog.depth 35 = false := by kernel_rfl
  have HA := Lib.hid (ha.later ((Below.refl _ _).alloc (Nat.le_refl _) (.cells #[.string ⟨cc.toArray⟩, .bool on, .int .i64 sh, .int .i64 pr, .int .i64 si, .string ⟨st.toArray⟩] 37)))
  have HB := Lib.hid (hb.later ((Below.refl _ _).alloc (Nat.le_refl _) (.cells #[.string ⟨cc.toArray⟩, .bool on, .int .i64 sh, .int .i64 pr, .int .i64 si, .string ⟨st.toArray⟩] 37)))
  have B0 : Hid (Below w.heap.size w _) := bl_alloc (Below.refl w.heap.size w) (.cells #[.string ⟨cc.toArray⟩, .bool on, .int .i64 sh, .int .i64 pr, .int .i64 si, .string ⟨st.toArray⟩] 37)
  have K := Lib.hid (box6 w ⟨cc, on, sh, pr, si, st⟩ 37)
  obtain ⟨k0, k1, k2, k3, k4, k5⟩ := K.out
  simp only at k0 k1 k2 k3 k4 k5
  unfold chgAgg
  have H1 := Lib.hid h1
  have H2 := Lib.hid h2
  clear ha hb h1 h2 hg
  go_enter Try.func5, Try.ntmps5
  go_wp2_with fail
  refine (fewt_eq HA.out H1).mono ?_
  rintro e w1 ⟨rfl, rfl⟩
  go_wp2_with fail
  refine (fewt_eq HB.out H2).mono ?_
  rintro e w1 ⟨rfl, rfl⟩
  go_wp2_with fail
  refine (diget_eq HA.out cc HG).mono ?_
  rintro e w3 ⟨rfl, b⟩
  have b' := bl_alloc b (.cells #[.int .i64 g0, .int .i64 g1, .int .i64 g2, .string ⟨g3.toArray⟩] 35)
  have B3 := Lib.hid (below2' B0.out b')
  have K3 := Lib.hid (K.out.later b')
  have A3 := Lib.hid (HA.out.later b')
  have V3 := Lib.hid (HB.out.later b')
  have G3 := Lib.hid (four_cells w3 (.int .i64 g0) (.int .i64 g1) (.int .i64 g2) (.string ⟨g3.toArray⟩) 35)
  clear b b' B0 K HA HB k0 k1 k2 k3 k4 k5
  obtain ⟨k0, k1, k2, k3, k4, k5⟩ := K3.out
  have hz := World.block_lt_of_cell? _ _ k0
  simp at hz
  simp only at k0 k1 k2 k3 k4 k5
  go_wp2_with fail
  refine (rdiget_eq A3.out cc HG).mono ?_
  rintro e w4 ⟨rfl, b⟩
  have b' := bl_alloc b (.cells #[.int .i64 g0, .int .i64 g1, .int .i64 g2, .string ⟨g3.toArray⟩] 35)
  have B4 := Lib.hid (below2' B3.out b')
  obtain ⟨p0, p1, p2, p3⟩ := keep4 b' G3.out
  obtain ⟨q0, q1, q2, q3⟩ := four_cells w4 (.int .i64 g0) (.int .i64 g1) (.int .i64 g2) (.string ⟨g3.toArray⟩) 35
  have A4 := Lib.hid (A3.out.later b')
  have V4 := Lib.hid (V3.out.later b')
  have K4 := Lib.hid (K3.out.later b')
  clear b b' B3 A3 V3 G3 K3 k0 k1 k2 k3 k4 k5 hz
  obtain ⟨k0, k1, k2, k3, k4, k5⟩ := K4.out
  simp only at k0 k1 k2 k3 k4 k5
  go_wp2_with fail
  obtain ⟨W, hW⟩ : ∃ W, W = w4.alloc (.cells #[.int .i64 g0, .int .i64 g1, .int .i64 g2, .string ⟨g3.toArray⟩] 35) := ⟨_, rfl⟩
  rw [← hW] at B4 p0 p1 p2 p3 q0 q1 q2 q3 A4 V4 K4 k0 k1 k2 k3 k4 k5 ⊢
  clear hW K4
  go_region_held3 (fun W => W.cell? ⟨w.heap.size, 0, none⟩ = some (.string ⟨cc.toArray⟩) ∧ W.cell? ⟨w.heap.size, 1, none⟩ = some (.bool on) ∧ W.cell? ⟨w.heap.size, 2, none⟩ = some (.int .i64 sh) ∧ W.cell? ⟨w.heap.size, 3, none⟩ = some (.int .i64 pr) ∧ W.cell? ⟨w.heap.size, 4, none⟩ = some (.int .i64 si) ∧ W.cell? ⟨w.heap.size, 5, none⟩ = some (.string ⟨st.toArray⟩) ∧ W.cell? ⟨w3.heap.size, 0, none⟩ = some (.int .i64 g0) ∧ W.cell? ⟨w3.heap.size, 1, none⟩ = some (.int .i64 g1) ∧ W.cell? ⟨w3.heap.size, 2, none⟩ = some (.int .i64 g2) ∧ W.cell? ⟨w3.heap.size, 3, none⟩ = some (.string ⟨g3.toArray⟩) ∧ W.cell? ⟨w4.heap.size, 0, none⟩ = some (.int .i64 g0) ∧ W.cell? ⟨w4.heap.size, 1, none⟩ = some (.int .i64 g1) ∧ W.cell? ⟨w4.heap.size, 2, none⟩ = some (.int .i64 g2) ∧ W.cell? ⟨w4.heap.size, 3, none⟩ = some (.string ⟨g3.toArray⟩))
    (first | (with_reducible exact keep14 (by assumption) (by assumption)) | go_keep)
    ((first
      | (go_at_call 28; go_loud (refine (HSET.out (A4.out.later (by first | exact D2.out | exact (Below.refl _ _).drew))).mono ?_; rintro e x1 ⟨u1, rfl, ho1, hb1⟩; (have D1 : Hid (Below W.heap.size W x1) := Lib.hid (by first | exact below2' D2.out hb1 | exact below2' (Below.refl _ _).drew hb1)); (have T1 := Lib.hid ho1.tab); (try (have T2 := Lib.hid (T2.out.later hb1))); clear ho1))
      | (go_at_call 29; go_loud (refine (HRSET.out (A4.out.later (by first | exact D1.out | exact (Below.refl _ _).drew))).mono ?_; rintro e x2 ⟨u2, rfl, ho2, hb2⟩; (have D2 : Hid (Below W.heap.size W x2) := Lib.hid (by first | exact below2' D1.out hb2 | exact below2' (Below.refl _ _).drew hb2)); (have T2 := Lib.hid ho2.tab); (try (have T1 := Lib.hid (T1.out.later hb2))); clear ho2))
      | (go_at_call 25; go_loud (refine (tsame_eq T1.out T2.out HSm).mono ?_; rintro e x3 ⟨rfl, hb3⟩; (have D3 : Hid (Below W.heap.size W x3) := Lib.hid (by first | exact below2' D2.out hb3 | exact below2' D1.out hb3)); (try clear hb1); (try clear hb2)))
      | (go_at_call 31; go_loud (refine (HCH.out (A4.out.later (by first | exact D5.out | exact D3.out)) (V4.out.later (by first | exact D5.out | exact D3.out))).mono ?_; rintro e x4 ⟨u4, rfl, hc4, hb4⟩; (have D4 : Hid (Below W.heap.size W x4) := Lib.hid (by first | exact below2' D5.out hb4 | exact below2' D3.out hb4)); (have L4 := Lib.hid hc4); (try (have L5 := Lib.hid (L5.out.later hb4))); (try clear hb3); clear hc4))
      | (go_at_call 32; go_loud (refine (HRCH.out (A4.out.later (by first | exact D4.out | exact D3.out)) (V4.out.later (by first | exact D4.out | exact D3.out))).mono ?_; rintro e x5 ⟨u5, rfl, hc5, hb5⟩; (have D5 : Hid (Below W.heap.size W x5) := Lib.hid (by first | exact below2' D4.out hb5 | exact below2' D3.out hb5)); (have L5 := Lib.hid hc5); (try (have L4 := Lib.hid (L4.out.later hb5))); (try clear hb3); clear hc5))
      | (go_at_call 30; go_loud (refine (HSC.out L4.out L5.out).mono ?_; rintro e x6 ⟨rfl, hb6⟩; (have D6 : Hid (Below W.heap.size W x6) := Lib.hid (by first | exact below2' D5.out hb6 | exact below2' D4.out hb6)); (try clear hb4); (try clear hb5)))
      | (go_at_call 16; go_loud (refine (live5 _).mono ?_; rintro e x7 ⟨rfl, hb7⟩; (have D7 : Hid (Below W.heap.size W x7) := Lib.hid (below2' D6.out hb7)); clear hb6))))
  all_goals
    go_wp2_with fail
    go_ret
    exact ⟨rfl, below2' B4.out D7.out⟩

theorem walkDigestSets {w : World} (va : Value) (a : List Row) (ha : Tab w va a) (_ : ∀ r ∈ a, r.c.length ≤ maxLen ∧ r.v.st.length ≤ maxLen) (vb : Value) (b : List Row) (hb : Tab w vb b) (_ : ∀ r ∈ b, r.c.length ≤ maxLen ∧ r.v.st.length ≤ maxLen) (c : Chg) (hc : c.c.length ≤ maxLen) (hs : c.v.st.length ≤ maxLen) :
    Calls Try.prog 5 #[va, vb, chgAgg c] w fun e w' => e = .returned (.bool true) ∧ Below w.heap.size w w' := by
  cases h1 : fewT a with
  | false => exact digestSets_out ha hb c hc hs (.inl h1)
  | true =>
    cases h2 : fewT b with
    | false => exact digestSets_out ha hb c hc hs (.inr (.inl ⟨h1, h2⟩))
    | true =>
      by_cases h3 : 60 < c.c.length
      · exact digestSets_out ha hb c hc hs (.inr (.inr (.inl ⟨h1, h2, h3⟩)))
      · by_cases h4 : 100 < c.v.st.length
        · exact digestSets_out ha hb c hc hs (.inr (.inr (.inr ⟨h1, h2, by omega, h4⟩)))
        · exact digestSets_in ha hb c h1 h2 (by omega) (by omega)

end Go.Proofs.Ytocjeehoghfnmaa
