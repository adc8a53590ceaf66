/-
  THE WALK OF DigestGets, out of the contracts.
-/
import Derived.Test.YtocjeehoghfnmaaDigLive
import Derived.Test.YtocjeehoghfnmaaDigRmay
import Derived.Test.YtocjeehoghfnmaaDigBox
import Derived.Test.YtocjeehoghfnmaaDigFrame
namespace Go.Proofs.Ytocjeehoghfnmaa
open Go.RowKit

set_option maxHeartbeats 3200000 in
set_option maxRecDepth 1000000 in
theorem digestGets_out {w : World} {v : Value} {t : List Row} (hv : Tab w v t) (c : Chg) (x : List UInt8) (hcl : c.c.length ≤ maxLen) (hvl : c.v.st.length ≤ maxLen) (hxl : x.length ≤ maxLen)
    (h : fewT t = false ∨ (fewT t = true ∧ diMay t = false) ∨ (fewT t = true ∧ diMay t = true ∧ 60 < c.c.length) ∨ (fewT t = true ∧ diMay t = true ∧ c.c.length ≤ 60 ∧ 100 < c.v.st.length) ∨ (fewT t = true ∧ diMay t = true ∧ c.c.length ≤ 60 ∧ c.v.st.length ≤ 100 ∧ 60 < x.length)) :
    Calls Try.prog 8 #[v, chgAgg c, .string ⟨x.toArray⟩] w fun e w' => e = .returned (.bool true) ∧ Below w.heap.size w w' := by
  unfold maxLen at hcl hvl hxl
  obtain ⟨cc, on, sh, pr, si, st⟩ := c
  simp only at h hcl hvl
  have HV := Lib.hid (hv.later ((Below.refl _ _).alloc (Nat.le_refl _) (.cells #[.string ⟨cc.toArray⟩, .bool on, .int .i64 sh, .int .i64 pr, .int .i64 si, .string ⟨st.toArray⟩] 37)))
  have B0 : Hid (Below w.heap.size w _) := bl_alloc (Below.refl w.heap.size w) (.cells #[.string ⟨cc.toArray⟩, .bool on, .int .i64 sh, .int .i64 pr, .int .i64 si, .string ⟨st.toArray⟩] 37)
  have K := Lib.hid (box6 w ⟨cc, on, sh, pr, si, st⟩ 37)
  unfold chgAgg
  clear hv
  rcases h with h | ⟨h1, h⟩ | ⟨h1, h2, h⟩ | ⟨h1, h2, h3, h⟩ | ⟨h1, h2, h3, h4, h⟩
  · have H1 := Lib.hid h
    clear h
    go_enter Try.func8, Try.ntmps8
    go_wp2_with fail
    refine (fewt_eq HV.out H1).mono ?_
    rintro e w1 ⟨rfl, rfl⟩
    go_wp2_with fail
    refine (live5 _).mono ?_
    rintro e w1 ⟨rfl, b⟩
    go_wp2_with fail
    go_ret
    exact ⟨rfl, below2' B0.out b⟩
  all_goals
    have H1 := Lib.hid h1
    have HS := Lib.hid (fewT_short h1)
    clear h1
  · have H2 := Lib.hid h
    clear h
    go_enter Try.func8, Try.ntmps8
    go_wp2_with fail
    refine (fewt_eq HV.out H1).mono ?_
    rintro e w1 ⟨rfl, rfl⟩
    go_wp2_with fail
    refine (rdimay_eq HV.out HS.out H2).mono ?_
    rintro e w1 ⟨rfl, b⟩
    have B1 := Lib.hid (below2' B0.out b)
    clear b
    go_wp2_with fail
    refine (live5 _).mono ?_
    rintro e w1 ⟨rfl, b⟩
    go_wp2_with fail
    go_ret
    exact ⟨rfl, below2' B1.out b⟩
  all_goals
    have H2 := Lib.hid h2
    clear h2
    go_enter Try.func8, Try.ntmps8
    go_wp2_with fail
    refine (fewt_eq HV.out H1).mono ?_
    rintro e w1 ⟨rfl, rfl⟩
    go_wp2_with fail
    refine (rdimay_eq HV.out HS.out H2).mono ?_
    rintro e w1 ⟨rfl, b⟩
    have B1 := Lib.hid (below2' B0.out b)
    obtain ⟨k0, k1, k2, k3, k4, k5⟩ := K.out.later b
    clear b B0 HV
    simp only at k0 k1 k2 k3 k4 k5
    go_wp2_with fail
    refine (live5 _).mono ?_
    rintro e w2 ⟨rfl, b⟩
    have B2 := Lib.hid (below2' B1.out b)
    clear b B1 k0 k1 k2 k3 k4 k5
    go_wp2_with fail
    go_ret
    exact ⟨rfl, B2.out⟩




set_option maxHeartbeats 6400000 in
set_option maxRecDepth 1000000 in
theorem digestGets_in {w : World} {v : Value} {t : List Row} (hv : Tab w v t) (c : Chg) (x : List UInt8)
    (h1 : fewT t = true) (h2 : diMay t = true) (h3 : c.c.length ≤ 60) (h4 : c.v.st.length ≤ 100) (h5 : x.length ≤ 60) :
    Calls Try.prog 8 #[v, chgAgg c, .string ⟨x.toArray⟩] w fun e w' => e = .returned (.bool true) ∧ Below w.heap.size w w' := by
  have hS1 := diGet_set t c c.c
  rw [if_pos rfl] at hS1
  have hSx := diGet_set t c x
  have hmay := set_may h2 c
  have HSS := Lib.hid (set_short (fewT_short h1) (t := t) (c := c) h3 h4)
  have HSO := Lib.hid (one_short (c := c) h3 h4)
  have HSET : Hid (∀ {w' : World} {v' : Value}, Tab w' v' t → Calls Try.prog 28 #[v', chgAgg c] w' fun e w'' => ∃ u, e = .returned u ∧ OwnR w'' w'.heap.size u (diSet t c) ∧ Below w'.heap.size w' w'') := Lib.hid fun h => set_any h (Nat.le_trans (fewT_yes h1).1 (by decide)) c
  obtain ⟨S, hS⟩ : ∃ S, diSet t c = S := ⟨_, rfl⟩
  rw [hS] at hS1 hSx hmay HSS HSET
  clear hS
  obtain ⟨cc, on, sh, pr, si, st⟩ := c
  simp only at h3 h4 hS1 hSx hmay HSO
  have HV := Lib.hid (hv.later ((Below.refl _ _).alloc (Nat.le_refl _) (.cells #[.string ⟨cc.toArray⟩, .bool on, .int .i64 sh, .int .i64 pr, .int .i64 si, .string ⟨st.toArray⟩] 37)))
  have B0 : Hid (Below w.heap.size w _) := bl_alloc (Below.refl w.heap.size w) (.cells #[.string ⟨cc.toArray⟩, .bool on, .int .i64 sh, .int .i64 pr, .int .i64 si, .string ⟨st.toArray⟩] 37)
  have K := Lib.hid (box6 w ⟨cc, on, sh, pr, si, st⟩ 37)
  unfold chgAgg
  have H1 := Lib.hid h1
  have HS := Lib.hid (fewT_short h1)
  have H2 := Lib.hid h2
  have hgd : Try.prog.eqGuardType Try.prog.depth 35 = false := by kernel_rfl
  clear hv h1 h2
  go_enter Try.func8, Try.ntmps8
  go_wp2_with fail
  refine (fewt_eq HV.out H1).mono ?_
  rintro e w1 ⟨rfl, rfl⟩
  go_wp2_with fail
  refine (rdimay_eq HV.out HS.out H2).mono ?_
  rintro e w1 ⟨rfl, b⟩
  have B1 := Lib.hid (below2' B0.out b)
  have K1 := Lib.hid (K.out.later b)
  have V1 := Lib.hid (HV.out.later b)
  obtain ⟨k0, k1, k2, k3, k4, k5⟩ := K1.out
  clear b B0 HV K
  simp only at k0 k1 k2 k3 k4 k5
  go_wp2_with fail
  refine (HSET.out V1.out).mono ?_
  rintro e w2 ⟨u, rfl, ho, b⟩
  have B2 := Lib.hid (below2' B1.out b)
  have K2 := Lib.hid (K1.out.later b)
  have V2 := Lib.hid (V1.out.later b)
  have T2 := Lib.hid ho.tab
  clear b B1 V1 K1 k0 k1 k2 k3 k4 k5 HSET ho
  obtain ⟨k0, k1, k2, k3, k4, k5⟩ := K2.out
  obtain ⟨au, cu, rfl, hum⟩ := T2.out.open'
  simp only at k0 k1 k2 k3 k4 k5
  obtain ⟨⟨g0, g1, g2, g3⟩, o, hg⟩ : ∃ (g : Val) (o : Bool), chGet ⟨cc, on, sh, pr, si, st⟩ = (g, o) := ⟨_, _, rfl⟩
  rw [hg] at hS1
  have HG := Lib.hid hS1
  go_wp2_with fail
  refine (diget_eq T2.out cc HG).mono ?_
  rintro e w3 ⟨rfl, b⟩
  have B3 := Lib.hid (bl_alloc (below2' B2.out b) (.cells #[.int .i64 g0, .int .i64 g1, .int .i64 g2, .string ⟨g3.toArray⟩] 35))
  have b' := bl_alloc b (.cells #[.int .i64 g0, .int .i64 g1, .int .i64 g2, .string ⟨g3.toArray⟩] 35)
  have K3 := Lib.hid (K2.out.later b')
  have V3 := Lib.hid (V2.out.later b')
  have T3 := Lib.hid (T2.out.later b')
  clear b b' B2 V2 K2 T2 k0 k1 k2 k3 k4 k5 hS1 HG
  obtain ⟨k0, k1, k2, k3, k4, k5⟩ := K3.out
  simp only at k0 k1 k2 k3 k4 k5
  have hz := World.block_lt_of_cell? _ _ k0
  simp at hz
  have hxc : (cc = x) ∨ ((x == cc) = false ∧ ∃ a1 a2 a3 a4 o2, Hid (diGet t x = (⟨a1, a2, a3, a4⟩, o2)) ∧ Hid (diGet S x = (⟨a1, a2, a3, a4⟩, o2)) ∧ ∀ w, (binOp .neq 35 (.agg #[.int .i64 a1, .int .i64 a2, .int .i64 a3, .string ⟨a4.toArray⟩]) (.agg #[.int .i64 a1, .int .i64 a2, .int .i64 a3, .string ⟨a4.toArray⟩])).run Try.prog w = .ok (.bool false) w) := by
    by_cases hx : x = cc
    · exact .inl hx.symm
    · rw [if_neg hx] at hSx
      obtain ⟨⟨⟨a1, a2, a3, a4⟩, o2⟩, hq⟩ : ∃ r, diGet t x = r := ⟨_, rfl⟩
      refine .inr ⟨by simpa using hx, a1, a2, a3, a4, o2, hq, hSx.trans hq, fun w => ?_⟩
      have h := val_neq5 a1 a2 a3 a1 a2 a3 a4 a4 w
      rw [show vSame ⟨a1, a2, a3, a4⟩ ⟨a1, a2, a3, a4⟩ = true from vSame_iff.2 rfl] at h
      exact h
  clear hSx
  cases on with
  | false =>
    simp only [chGet, Val.zero, Prod.mk.injEq, Val.mk.injEq, Bool.false_eq_true, if_false] at hg
    obtain ⟨⟨rfl, rfl, rfl, rfl⟩, rfl⟩ := hg
    have hne := val_neq5 0 0 0 0 0 0 [] []
    rw [show vSame ⟨0, 0, 0, []⟩ ⟨0, 0, 0, []⟩ = true from rfl] at hne
    have HM : Hid (diMay S = true) := Lib.hid hmay
    rcases hxc with rfl | ⟨tx, a1, a2, a3, a4, o2, HX, HX2, hne2⟩
    · have Tn := T3
      have Bn := B3
      go_wp2_with fail
      have Tm := Lib.hid (Tn.out.later ((Below.refl _ _).alloc (Nat.le_refl _) (.cells #[.string ⟨cc.toArray⟩, .int .i64 sh, .int .i64 pr, .int .i64 si, .string ⟨st.toArray⟩] 48)))
      have Bm := Lib.hid (bl_alloc Bn.out (.cells #[.string ⟨cc.toArray⟩, .int .i64 sh, .int .i64 pr, .int .i64 si, .string ⟨st.toArray⟩] 48))
      clear Tn Bn
      refine (dimay_eq Tm.out HSS.out HM).mono ?_
      rintro e w8 ⟨rfl, b⟩
      have B8 := Lib.hid (below2' Bm.out b)
      clear b
      go_wp2_with fail
      refine (live5 _).mono ?_
      rintro e w9 ⟨rfl, b⟩
      have B9 := Lib.hid (below2' B8.out b)
      clear b B8
      go_wp2_with fail
      go_ret
      exact ⟨rfl, B9.out⟩
    · go_wp2_with fail
      refine (diget_eq V3.out x HX).mono ?_
      rintro e w4 ⟨rfl, b⟩
      have B4 := Lib.hid (bl_alloc (below2' B3.out b) (.cells #[.int .i64 a1, .int .i64 a2, .int .i64 a3, .string ⟨a4.toArray⟩] 35))
      have b' := bl_alloc b (.cells #[.int .i64 a1, .int .i64 a2, .int .i64 a3, .string ⟨a4.toArray⟩] 35)
      have K4 := Lib.hid (K3.out.later b')
      have T4 := Lib.hid (T3.out.later b')
      have P4 := Lib.hid (four_cells w4 (.int .i64 a1) (.int .i64 a2) (.int .i64 a3) (.string ⟨a4.toArray⟩) 35)
      clear b b' B3 V3 K3 T3 k0 k1 k2 k3 k4 k5
      go_wp2_with fail
      refine (diget_eq T4.out x HX2).mono ?_
      rintro e w5 ⟨rfl, b⟩
      have Bn := Lib.hid (bl_alloc (below2' B4.out b) (.cells #[.int .i64 a1, .int .i64 a2, .int .i64 a3, .string ⟨a4.toArray⟩] 35))
      have b' := bl_alloc b (.cells #[.int .i64 a1, .int .i64 a2, .int .i64 a3, .string ⟨a4.toArray⟩] 35)
      obtain ⟨p0, p1, p2, p3⟩ := keep4 b' P4.out
      obtain ⟨k0, k1, k2, k3, k4, k5⟩ := K4.out.later b'
      have Tn := Lib.hid (T4.out.later b')
      have hz1 := World.block_lt_of_cell? _ _ k0
      have hz2 := World.block_lt_of_cell? _ _ p0
      simp only at k0 k1 k2 k3 k4 k5
      simp at hz1 hz2
      clear b b' B4 T4 K4 P4
      go_wp2_with fail
      have Tm := Lib.hid (Tn.out.later ((Below.refl _ _).alloc (Nat.le_refl _) (.cells #[.string ⟨cc.toArray⟩, .int .i64 sh, .int .i64 pr, .int .i64 si, .string ⟨st.toArray⟩] 48)))
      have Bm := Lib.hid (bl_alloc Bn.out (.cells #[.string ⟨cc.toArray⟩, .int .i64 sh, .int .i64 pr, .int .i64 si, .string ⟨st.toArray⟩] 48))
      clear Tn Bn
      refine (dimay_eq Tm.out HSS.out HM).mono ?_
      rintro e w8 ⟨rfl, b⟩
      have B8 := Lib.hid (below2' Bm.out b)
      clear b
      go_wp2_with fail
      refine (live5 _).mono ?_
      rintro e w9 ⟨rfl, b⟩
      have B9 := Lib.hid (below2' B8.out b)
      clear b B8
      go_wp2_with fail
      go_ret
      exact ⟨rfl, B9.out⟩
  | true =>
    simp only [chGet, if_true, Prod.mk.injEq, Val.mk.injEq] at hg
    obtain ⟨⟨rfl, rfl, rfl, rfl⟩, rfl⟩ := hg
    have hne := val_neq5 sh pr si sh pr si st st
    rw [show vSame ⟨sh, pr, si, st⟩ ⟨sh, pr, si, st⟩ = true from vSame_iff.2 rfl] at hne
    have hmm : ∃ m d, Hid (diMay [⟨cc, ⟨sh, pr, si, st⟩⟩] = m) ∧ decide ((S.length : Int) ≤ 32) = d ∧ Hid (diMay S = (m && d)) := by
      refine ⟨_, _, rfl, rfl, ?_⟩
      show _ = _
      rw [hmay, diMay_one]
      simp only [Bool.not_true, Bool.false_or]
      rw [show decide (S.length ≤ 32) = decide ((S.length : Int) ≤ 32) from decide_eq_decide.2 (by omega)]
    clear hmay
    obtain ⟨m, d, HO, hd, HM⟩ := hmm
    rcases hxc with rfl | ⟨tx, a1, a2, a3, a4, o2, HX, HX2, hne2⟩
    · have Tn := T3
      have Bn := B3
      cases m <;> cases d <;>
        (go_wp2_with fail
         have Tm := Lib.hid (Tn.out.later ((Below.refl _ _).alloc (Nat.le_refl _) (.cells #[.string ⟨cc.toArray⟩, .int .i64 sh, .int .i64 pr, .int .i64 si, .string ⟨st.toArray⟩] 48)))
         have Bm := Lib.hid (bl_alloc Bn.out (.cells #[.string ⟨cc.toArray⟩, .int .i64 sh, .int .i64 pr, .int .i64 si, .string ⟨st.toArray⟩] 48))
         have Bm2 := Lib.hid (bl_alloc Bm.out (.cells #[.string ⟨cc.toArray⟩, .int .i64 sh, .int .i64 pr, .int .i64 si, .string ⟨st.toArray⟩] 48))
         have Tm2 := Lib.hid (Tm.out.later ((Below.refl _ _).alloc (Nat.le_refl _) (.cells #[.string ⟨cc.toArray⟩, .int .i64 sh, .int .i64 pr, .int .i64 si, .string ⟨st.toArray⟩] 48)))
         clear Tn Bn
         refine (rdimay_eq (tab_made _ _ (by simp) 48 [⟨cc, ⟨sh, pr, si, st⟩⟩] (by simp) _ rfl 1 rfl) HSO.out HO).mono ?_
         rintro e w7 ⟨rfl, b⟩
         have B7 := Lib.hid (below2' Bm2.out b)
         have T7 := Lib.hid (Tm2.out.later b)
         clear b Bm Bm2 Tm Tm2
         go_wp2_with fail
         refine (dimay_eq T7.out HSS.out HM).mono ?_
         rintro e w8 ⟨rfl, b⟩
         have B8 := Lib.hid (below2' B7.out b)
         clear b
         go_wp2_with fail
         refine (live5 _).mono ?_
         rintro e w9 ⟨rfl, b⟩
         have B9 := Lib.hid (below2' B8.out b)
         clear b B8
         go_wp2_with fail
         go_ret
         exact ⟨rfl, B9.out⟩)
    · go_wp2_with fail
      refine (diget_eq V3.out x HX).mono ?_
      rintro e w4 ⟨rfl, b⟩
      have B4 := Lib.hid (bl_alloc (below2' B3.out b) (.cells #[.int .i64 a1, .int .i64 a2, .int .i64 a3, .string ⟨a4.toArray⟩] 35))
      have b' := bl_alloc b (.cells #[.int .i64 a1, .int .i64 a2, .int .i64 a3, .string ⟨a4.toArray⟩] 35)
      have K4 := Lib.hid (K3.out.later b')
      have T4 := Lib.hid (T3.out.later b')
      have P4 := Lib.hid (four_cells w4 (.int .i64 a1) (.int .i64 a2) (.int .i64 a3) (.string ⟨a4.toArray⟩) 35)
      clear b b' B3 V3 K3 T3 k0 k1 k2 k3 k4 k5
      go_wp2_with fail
      refine (diget_eq T4.out x HX2).mono ?_
      rintro e w5 ⟨rfl, b⟩
      have Bn := Lib.hid (bl_alloc (below2' B4.out b) (.cells #[.int .i64 a1, .int .i64 a2, .int .i64 a3, .string ⟨a4.toArray⟩] 35))
      have b' := bl_alloc b (.cells #[.int .i64 a1, .int .i64 a2, .int .i64 a3, .string ⟨a4.toArray⟩] 35)
      obtain ⟨p0, p1, p2, p3⟩ := keep4 b' P4.out
      obtain ⟨k0, k1, k2, k3, k4, k5⟩ := K4.out.later b'
      have Tn := Lib.hid (T4.out.later b')
      have hz1 := World.block_lt_of_cell? _ _ k0
      have hz2 := World.block_lt_of_cell? _ _ p0
      simp only at k0 k1 k2 k3 k4 k5
      simp at hz1 hz2
      clear b b' B4 T4 K4 P4
      cases m <;> cases d <;>
        (go_wp2_with fail
         have Tm := Lib.hid (Tn.out.later ((Below.refl _ _).alloc (Nat.le_refl _) (.cells #[.string ⟨cc.toArray⟩, .int .i64 sh, .int .i64 pr, .int .i64 si, .string ⟨st.toArray⟩] 48)))
         have Bm := Lib.hid (bl_alloc Bn.out (.cells #[.string ⟨cc.toArray⟩, .int .i64 sh, .int .i64 pr, .int .i64 si, .string ⟨st.toArray⟩] 48))
         have Bm2 := Lib.hid (bl_alloc Bm.out (.cells #[.string ⟨cc.toArray⟩, .int .i64 sh, .int .i64 pr, .int .i64 si, .string ⟨st.toArray⟩] 48))
         have Tm2 := Lib.hid (Tm.out.later ((Below.refl _ _).alloc (Nat.le_refl _) (.cells #[.string ⟨cc.toArray⟩, .int .i64 sh, .int .i64 pr, .int .i64 si, .string ⟨st.toArray⟩] 48)))
         clear Tn Bn
         refine (rdimay_eq (tab_made _ _ (by simp) 48 [⟨cc, ⟨sh, pr, si, st⟩⟩] (by simp) _ rfl 1 rfl) HSO.out HO).mono ?_
         rintro e w7 ⟨rfl, b⟩
         have B7 := Lib.hid (below2' Bm2.out b)
         have T7 := Lib.hid (Tm2.out.later b)
         clear b Bm Bm2 Tm Tm2
         go_wp2_with fail
         refine (dimay_eq T7.out HSS.out HM).mono ?_
         rintro e w8 ⟨rfl, b⟩
         have B8 := Lib.hid (below2' B7.out b)
         clear b
         go_wp2_with fail
         refine (live5 _).mono ?_
         rintro e w9 ⟨rfl, b⟩
         have B9 := Lib.hid (below2' B8.out b)
         clear b B8
         go_wp2_with fail
         go_ret
         exact ⟨rfl, B9.out⟩)

theorem walkDigestGets {w : World} (v : Value) (t : List Row) (hv : Tab w v t) (_ : ∀ r ∈ t, r.c.length ≤ maxLen ∧ r.v.st.length ≤ maxLen) (c : Chg) (hc : c.c.length ≤ maxLen) (hs : c.v.st.length ≤ maxLen) (x : List UInt8) (hx : x.length ≤ maxLen) :
    Calls Try.prog 8 #[v, chgAgg c, .string ⟨x.toArray⟩] w fun e w' => e = .returned (.bool true) ∧ Below w.heap.size w w' := by
  cases h1 : fewT t with
  | false => exact digestGets_out hv c x hc hs hx (.inl h1)
  | true =>
    cases h2 : diMay t with
    | false => exact digestGets_out hv c x hc hs hx (.inr (.inl ⟨h1, h2⟩))
    | true =>
      by_cases h3 : 60 < c.c.length
      · exact digestGets_out hv c x hc hs hx (.inr (.inr (.inl ⟨h1, h2, h3⟩)))
      · by_cases h4 : 100 < c.v.st.length
        · exact digestGets_out hv c x hc hs hx (.inr (.inr (.inr (.inl ⟨h1, h2, by omega, h4⟩))))
        · by_cases h5 : 60 < x.length
          · exact digestGets_out hv c x hc hs hx (.inr (.inr (.inr (.inr ⟨h1, h2, by omega, by omega, h5⟩))))
          · exact digestGets_in hv c x h1 h2 (by omega) (by omega) (by omega)

end Go.Proofs.Ytocjeehoghfnmaa
