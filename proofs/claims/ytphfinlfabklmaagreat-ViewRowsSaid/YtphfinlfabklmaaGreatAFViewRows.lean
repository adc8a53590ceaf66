/-
  THE PROOF OF ViewRows: for every input the law returns true, and each argument reads behind the call as it read before. No condition.
-/
import Derived.Test.YtphfinlfabklmaaGreatA40
import Derived.Test.YtphfinlfabklmaaGreatA41
import Derived.Deep.DeepCutAuto
import Derived.Deep.CutBlock
import Derived.Test.YtphfinlfabklmaaGreatA13
import Derived.Test.YtphfinlfabklmaaGreatRows
import Derived.ProofKit
import Derived.OpenShut
import Derived.ShutString
import Derived.ChangeOld
import Derived.SliceStrings
import Derived.Lib.SmallJoins

section

/-
  THE WALK OF ViewRows.
-/
namespace Go.Proofs.YtphfinlfabklmaaGreat
open Go.RowKit

theorem val_neq_self (a b c : Int) (s : List UInt8) (w : World) :
    (binOp .neq 30 (.agg #[.int .i64 a, .int .i64 b, .int .i64 c, .string ⟨s.toArray⟩]) (.agg #[.int .i64 a, .int .i64 b, .int .i64 c, .string ⟨s.toArray⟩])).run Tryz.prog w = .ok (.bool false) w := by
  have := val_neq5 a b c a b c s s w
  rwa [vSame_self] at this

theorem diget_eqR {w : World} {v : Value} {t : List Row} (hv : Tab w v t) (key : List UInt8) {a b c : Int} {st : List UInt8} {r : Bool} (h : Hid (diGet t key = (⟨a, b, c, st⟩, r))) :
    Calls Tryz.prog 28 #[v, .string ⟨key.toArray⟩] w fun e w' => e = .returned (.tuple #[.agg #[.int .i64 a, .int .i64 b, .int .i64 c, .string ⟨st.toArray⟩], .bool r]) ∧ Below w.heap.size w w' := by
  have k := diget_any hv key
  rw [h.out] at k
  exact k

theorem sees8_eqR {w : World} {v : Value} {l : List Ent} (hv : Ents w v l) (o c : List UInt8) {r : Bool} (h : Hid (roSees l o c = r)) :
    Calls Tryz.prog 29 #[v, .string ⟨o.toArray⟩, .string ⟨c.toArray⟩] w fun e w' => e = .returned (.bool r) ∧ Below w.heap.size w w' := by
  have k := sees8_any hv o c
  rw [h.out] at k
  exact k

set_option maxHeartbeats 6400000 in
set_option maxRecDepth 100000 in
theorem vrw_1 {w : World} {x y : Value} {s : Sta} (h : StAt w x y s) (u c : List UInt8) (f1 : fewSta s = false) :
    Calls Tryz.prog 4 #[.agg #[x, y], .string ⟨u.toArray⟩, .string ⟨c.toArray⟩] w fun e w' => e = .returned (.bool true) ∧ Below w.heap.size w w' := by
  have b0 := bl_newZ w (.cells #[x, y] 25)
  have HB := Lib.hid b0
  have H := Lib.hid (h.later b0)
  have SB := newQ w (.cells #[x, y] 25)
  replace SB := Lib.hid SB
  clear b0
  clear h
  have F1 := Lib.hid f1
  clear f1
  obtain ⟨⟨SBc0, SBc1⟩, ⟨SBf0, SBf1⟩⟩ := blk2 SB.out
  go_enter Tryz.func4, Tryz.ntmps4
  go_wp2_with fail
  clear SBc0 SBc1 SBf0 SBf1
  refine (fewst_any H.out F1).mono ?_
  rintro e w2 ⟨rfl, b2⟩
  replace SB := Lib.hid (upQ SB.out b2)
  replace H := Lib.hid (H.out.later b2)
  replace HB := Lib.hid (below2Z HB.out b2)
  clear b2
  go_wp2_with fail
  refine (live15 _).mono ?_
  rintro e w3 ⟨rfl, b3⟩
  replace SB := Lib.hid (upQ SB.out b3)
  replace H := Lib.hid (H.out.later b3)
  replace HB := Lib.hid (below2Z HB.out b3)
  clear b3
  go_wp2_with fail
  go_ret
  exact ⟨rfl, HB.out⟩

set_option maxHeartbeats 6400000 in
set_option maxRecDepth 100000 in
theorem vrw_2 {w : World} {x y : Value} {s : Sta} (h : StAt w x y s) (u c : List UInt8) (f1 : fewSta s = true) (f2 : stMay s = false) :
    Calls Tryz.prog 4 #[.agg #[x, y], .string ⟨u.toArray⟩, .string ⟨c.toArray⟩] w fun e w' => e = .returned (.bool true) ∧ Below w.heap.size w w' := by
  have b0 := bl_newZ w (.cells #[x, y] 25)
  have HB := Lib.hid b0
  have H := Lib.hid (h.later b0)
  have SB := newQ w (.cells #[x, y] 25)
  replace SB := Lib.hid SB
  clear b0
  clear h
  obtain ⟨HOK, he80, hs50⟩ := fewSta_V f1
  replace HOK := Lib.hid HOK
  have F1 := Lib.hid f1
  have F2 := Lib.hid f2
  clear f1 f2
  obtain ⟨⟨SBc0, SBc1⟩, ⟨SBf0, SBf1⟩⟩ := blk2 SB.out
  go_enter Tryz.func4, Tryz.ntmps4
  go_wp2_with fail
  clear SBc0 SBc1 SBf0 SBf1
  refine (fewst_any H.out F1).mono ?_
  rintro e w2 ⟨rfl, b2⟩
  replace SB := Lib.hid (upQ SB.out b2)
  replace H := Lib.hid (H.out.later b2)
  replace HB := Lib.hid (below2Z HB.out b2)
  clear b2
  obtain ⟨⟨SBc0, SBc1⟩, ⟨SBf0, SBf1⟩⟩ := blk2 SB.out
  go_wp2_with fail
  clear SBc0 SBc1 SBf0 SBf1
  refine (rstmay_any H.out HOK.out.1 (by omega) HOK.out.2 F2).mono ?_
  rintro e w3 ⟨rfl, b3⟩
  replace SB := Lib.hid (upQ SB.out b3)
  replace H := Lib.hid (H.out.later b3)
  replace HB := Lib.hid (below2Z HB.out b3)
  clear b3
  go_wp2_with fail
  refine (live15 _).mono ?_
  rintro e w4 ⟨rfl, b4⟩
  replace SB := Lib.hid (upQ SB.out b4)
  replace H := Lib.hid (H.out.later b4)
  replace HB := Lib.hid (below2Z HB.out b4)
  clear b4
  go_wp2_with fail
  go_ret
  exact ⟨rfl, HB.out⟩

set_option maxHeartbeats 6400000 in
set_option maxRecDepth 100000 in
theorem vrw_3 {w : World} {x y : Value} {s : Sta} (h : StAt w x y s) (u c : List UInt8) (f1 : fewSta s = true) (f2 : stMay s = true) (k3 : ¬ u.length ≤ 40) :
    Calls Tryz.prog 4 #[.agg #[x, y], .string ⟨u.toArray⟩, .string ⟨c.toArray⟩] w fun e w' => e = .returned (.bool true) ∧ Below w.heap.size w w' := by
  have b0 := bl_newZ w (.cells #[x, y] 25)
  have HB := Lib.hid b0
  have H := Lib.hid (h.later b0)
  have SB := newQ w (.cells #[x, y] 25)
  replace SB := Lib.hid SB
  clear b0
  clear h
  obtain ⟨HOK, he80, hs50⟩ := fewSta_V f1
  replace HOK := Lib.hid HOK
  have F1 := Lib.hid f1
  have F2 := Lib.hid f2
  clear f1 f2
  have t1 := long_yes k3
  clear k3
  obtain ⟨⟨SBc0, SBc1⟩, ⟨SBf0, SBf1⟩⟩ := blk2 SB.out
  go_enter Tryz.func4, Tryz.ntmps4
  go_wp2_with fail
  clear SBc0 SBc1 SBf0 SBf1
  refine (fewst_any H.out F1).mono ?_
  rintro e w2 ⟨rfl, b2⟩
  replace SB := Lib.hid (upQ SB.out b2)
  replace H := Lib.hid (H.out.later b2)
  replace HB := Lib.hid (below2Z HB.out b2)
  clear b2
  obtain ⟨⟨SBc0, SBc1⟩, ⟨SBf0, SBf1⟩⟩ := blk2 SB.out
  go_wp2_with fail
  clear SBc0 SBc1 SBf0 SBf1
  refine (rstmay_any H.out HOK.out.1 (by omega) HOK.out.2 F2).mono ?_
  rintro e w3 ⟨rfl, b3⟩
  replace SB := Lib.hid (upQ SB.out b3)
  replace H := Lib.hid (H.out.later b3)
  replace HB := Lib.hid (below2Z HB.out b3)
  clear b3
  go_wp2_with fail
  refine (live15 _).mono ?_
  rintro e w4 ⟨rfl, b4⟩
  replace SB := Lib.hid (upQ SB.out b4)
  replace H := Lib.hid (H.out.later b4)
  replace HB := Lib.hid (below2Z HB.out b4)
  clear b4
  go_wp2_with fail
  go_ret
  exact ⟨rfl, HB.out⟩

set_option maxHeartbeats 6400000 in
set_option maxRecDepth 100000 in
theorem vrw_4 {w : World} {x y : Value} {s : Sta} (h : StAt w x y s) (u c : List UInt8) (f1 : fewSta s = true) (f2 : stMay s = true) (k3 : u.length ≤ 40) (k4 : ¬ c.length ≤ 40) :
    Calls Tryz.prog 4 #[.agg #[x, y], .string ⟨u.toArray⟩, .string ⟨c.toArray⟩] w fun e w' => e = .returned (.bool true) ∧ Below w.heap.size w w' := by
  have b0 := bl_newZ w (.cells #[x, y] 25)
  have HB := Lib.hid b0
  have H := Lib.hid (h.later b0)
  have SB := newQ w (.cells #[x, y] 25)
  replace SB := Lib.hid SB
  clear b0
  clear h
  obtain ⟨HOK, he80, hs50⟩ := fewSta_V f1
  replace HOK := Lib.hid HOK
  have F1 := Lib.hid f1
  have F2 := Lib.hid f2
  clear f1 f2
  have t1 := long_no k3
  have t2 := long_yes k4
  clear k3 k4
  obtain ⟨⟨SBc0, SBc1⟩, ⟨SBf0, SBf1⟩⟩ := blk2 SB.out
  go_enter Tryz.func4, Tryz.ntmps4
  go_wp2_with fail
  clear SBc0 SBc1 SBf0 SBf1
  refine (fewst_any H.out F1).mono ?_
  rintro e w2 ⟨rfl, b2⟩
  replace SB := Lib.hid (upQ SB.out b2)
  replace H := Lib.hid (H.out.later b2)
  replace HB := Lib.hid (below2Z HB.out b2)
  clear b2
  obtain ⟨⟨SBc0, SBc1⟩, ⟨SBf0, SBf1⟩⟩ := blk2 SB.out
  go_wp2_with fail
  clear SBc0 SBc1 SBf0 SBf1
  refine (rstmay_any H.out HOK.out.1 (by omega) HOK.out.2 F2).mono ?_
  rintro e w3 ⟨rfl, b3⟩
  replace SB := Lib.hid (upQ SB.out b3)
  replace H := Lib.hid (H.out.later b3)
  replace HB := Lib.hid (below2Z HB.out b3)
  clear b3
  go_wp2_with fail
  refine (live15 _).mono ?_
  rintro e w4 ⟨rfl, b4⟩
  replace SB := Lib.hid (upQ SB.out b4)
  replace H := Lib.hid (H.out.later b4)
  replace HB := Lib.hid (below2Z HB.out b4)
  clear b4
  go_wp2_with fail
  go_ret
  exact ⟨rfl, HB.out⟩

set_option maxHeartbeats 6400000 in
set_option maxRecDepth 100000 in
theorem vrw_true {w : World} {x y : Value} {s : Sta} (h : StAt w x y s) (u c : List UInt8) (f1 : fewSta s = true) (f2 : stMay s = true) (k3 : u.length ≤ 40) (k4 : c.length ≤ 40) {va vb vc : Int} {vs : List UInt8} (hv : vwVal s u c = (⟨va, vb, vc, vs⟩, true)) :
    Calls Tryz.prog 4 #[.agg #[x, y], .string ⟨u.toArray⟩, .string ⟨c.toArray⟩] w fun e w' => e = .returned (.bool true) ∧ Below w.heap.size w w' := by
  have b0 := bl_newZ w (.cells #[x, y] 25)
  have HB := Lib.hid b0
  have H := Lib.hid (h.later b0)
  have SB := newQ w (.cells #[x, y] 25)
  replace SB := Lib.hid SB
  clear b0
  clear h
  obtain ⟨HOK, he80, hs50⟩ := fewSta_V f1
  replace HOK := Lib.hid HOK
  have hMt := f2
  have hn16 := vwOf_100 s u
  obtain ⟨na, hna⟩ : ∃ n, (vwOf s u).length = n := ⟨_, rfl⟩
  have NA := Lib.hid hna
  rw [hna] at hn16
  clear hna
  have HV : Hid (vwValue s u c = (⟨va, vb, vc, vs⟩, true)) := Lib.hid (by rw [vwValue_is hMt]; exact hv)
  have HG : Hid (diGet (vwOf s u) c = (⟨va, vb, vc, vs⟩, true)) := Lib.hid (by rw [vwOf_get hMt]; exact hv)
  have HIN : Hid (∀ r ∈ vwOf s u, vwValue s u r.c = (r.v, true)) := Lib.hid (fun r hr => by rw [vwValue_is hMt]; exact (vwOf_mem hMt).1 hr)
  have HM := Lib.hid (vwOf_may hMt u)
  obtain ⟨nw, hnw⟩ : ∃ n, (vwWat s c).length = n := ⟨_, rfl⟩
  have NW := Lib.hid hnw
  have hnw80 : nw ≤ 4294967 := by rw [← hnw]; exact Nat.le_trans (vwWat_le s c) (by omega)
  have HEND : Hid (decide (u ∈ vwWat s c) = true) := Lib.hid (by have := vwWat_mem (w := u) (c := c) hMt; rw [hv] at this; simpa using this)
  have HSEE : Hid (roSees s.e u c = true) := Lib.hid (vwVal_is.1 (by rw [hv])).1
  clear hnw hMt hv
  have t1 := long_no k3
  have t2 := long_no k4
  clear k3 k4
  have e1 := val_eql_self va vb vc vs
  have hgd : Tryz.prog.eqGuardType Tryz.prog.depth 30 = false := by kernel_rfl
  have F1 := Lib.hid f1
  have F2 := Lib.hid f2
  clear f1 f2
  obtain ⟨⟨SBc0, SBc1⟩, ⟨SBf0, SBf1⟩⟩ := blk2 SB.out
  go_enter Tryz.func4, Tryz.ntmps4
  go_wp2_with fail
  clear SBc0 SBc1 SBf0 SBf1
  refine (fewst_any H.out F1).mono ?_
  rintro e w2 ⟨rfl, b2⟩
  replace SB := Lib.hid (upQ SB.out b2)
  replace H := Lib.hid (H.out.later b2)
  replace HB := Lib.hid (below2Z HB.out b2)
  clear b2
  obtain ⟨⟨SBc0, SBc1⟩, ⟨SBf0, SBf1⟩⟩ := blk2 SB.out
  go_wp2_with fail
  clear SBc0 SBc1 SBf0 SBf1
  refine (rstmay_any H.out HOK.out.1 (by omega) HOK.out.2 F2).mono ?_
  rintro e w3 ⟨rfl, b3⟩
  replace SB := Lib.hid (upQ SB.out b3)
  replace H := Lib.hid (H.out.later b3)
  replace HB := Lib.hid (below2Z HB.out b3)
  clear b3
  obtain ⟨⟨SBc0, SBc1⟩, ⟨SBf0, SBf1⟩⟩ := blk2 SB.out
  go_wp2_with fail
  clear SBc0 SBc1 SBf0 SBf1
  refine (vwof_any H.out HOK.out (by omega) u).mono ?_
  rintro e w4 ⟨vA1, rfl, hA1, b4⟩
  replace SB := Lib.hid (upQ SB.out b4)
  replace H := Lib.hid (H.out.later b4)
  replace HB := Lib.hid (below2Z HB.out b4)
  obtain ⟨aa, ac, rfl⟩ := tab_shapeV hA1.tab NA.out
  have A1 := Lib.hid hA1.tab
  clear hA1
  clear b4
  go_wp2_with fail
  refine (dimay_eq A1.out (vwOf_short s u) HM).mono ?_
  rintro e w5 ⟨rfl, b5⟩
  replace SB := Lib.hid (upQ SB.out b5)
  replace H := Lib.hid (H.out.later b5)
  replace A1 := Lib.hid (Tab.later A1.out b5)
  replace HB := Lib.hid (below2Z HB.out b5)
  clear b5
  go_wp2_with fail
  go_loopw [8] (fun i wr => ∃ k : Nat, k ≤ na ∧ i = .int .i64 k ∧ Hid (Below w5.heap.size w5 wr)) (fun i _ => na - (intOf i).toNat)
  case atStart => exact ⟨0, by omega, rfl, Below.refl _ _⟩
  case round =>
    obtain ⟨k, hk, rfl, HN⟩ := hrel
    by_cases hlt : k < na
    · obtain ⟨b, off, rfl, hcc⟩ := A1.out.row HN.out k (by rw [NA.out]; exact hlt)
      have hmem : (vwOf s u).getD k Row.zero ∈ vwOf s u := by rw [List.getD_eq_getElem?_getD, List.getElem?_eq_getElem (by rw [NA.out]; exact hlt)]; exact List.getElem_mem _
      have hin := HIN.out _ hmem
      obtain ⟨⟨zc, ⟨za, zb, zd, zs⟩⟩, hz⟩ : ∃ z, (vwOf s u).getD k Row.zero = z := ⟨_, rfl⟩
      rw [hz] at hcc hin
      simp only at hin
      have HV2 := Lib.hid hin
      obtain ⟨h0, h1, h2, h3, h4⟩ := hcc
      have C0 := Lib.hid h0
      have C1 := Lib.hid h1
      have C2 := Lib.hid h2
      have C3 := Lib.hid h3
      have C4 := Lib.hid h4
      clear h0 h1 h2 h3 h4 hz hmem hin
      have hkn : (0 : Int) ≤ (k : Int) := by omega
      have hki : (k : Int) < (na : Int) := by omega
      replace SB := Lib.hid (upQ SB.out HN.out)
      replace H := Lib.hid (H.out.later HN.out)
      replace A1 := Lib.hid (Tab.later A1.out HN.out)
      replace HB := Lib.hid (below2Z HB.out HN.out)
      have e3 := val_neq_self za zb zd zs
      have HX := HN
      go_upto_region 9 with fail
      go_cut [9, 10] from 49 to 59 (fun p z wx => ∃ B, p = .pointer (some ⟨B, 0, none⟩) ∧ z = .bool true ∧ Hid (CellsAt wx B 0 [.int .i64 za, .int .i64 zb, .int .i64 zd, .string ⟨zs.toArray⟩]) ∧ Hid (Below wr.heap.size wr wx))
      case first =>
        obtain ⟨BS, hBS⟩ : ∃ BS : List (Nat × List Value), BS = [(w.heap.size, [x, y])] := ⟨_, rfl⟩
        have D0 := Lib.hid (show heldD wr BS b (off + k * 5) (.string ⟨zc.toArray⟩) from ⟨by rw [hBS]; exact heldB_cons (cellsAt_block SB.out) (heldB_nil _), C0.out⟩)
        have hq0 : ∀ X, heldD X BS b (off + k * 5) (.string ⟨zc.toArray⟩) → X.cell? ⟨w.heap.size, 0, none⟩ = some (x) := fun X hx => heldB_get (vs := [x, y]) hx.1 (by rw [hBS]; simp) rfl
        have hq1 : ∀ X, heldD X BS b (off + k * 5) (.string ⟨zc.toArray⟩) → X.cell? ⟨w.heap.size, 1, none⟩ = some (y) := fun X hx => heldB_get (vs := [x, y]) hx.1 (by rw [hBS]; simp) rfl
        have hqt : ∀ X, heldD X BS b (off + k * 5) (.string ⟨zc.toArray⟩) → X.cell? ⟨b, off + k * 5, none⟩ = some (.string ⟨zc.toArray⟩) := fun X hx => hx.2
        clear hBS
        have K0 : Hid (Below wr.heap.size wr wr.drew) := Lib.hid (Below.refl _ _).drew
        refine wp_region_held_drew (S := (fun X => heldD X BS b (off + k * 5) (.string ⟨zc.toArray⟩))) (by kernel_rfl) ?_ (fun hHeld => ?_)
        · exact heldD_up K0.out D0.out
        generalize wr.drew = z0 at K0 hHeld ⊢
        refine wpAnyH_take (i := 0) (oi := { dst := some 50, op := Op.load 25 (Operand.tmp 3), type := 25, pos := "law.go:50", after := #[], guard := none }) (v := ?_) rfl (by as_aux_lemma => kernel_rfl) (by as_aux_lemma => kernel_rfl) (by as_aux_lemma => kernel_rfl) (fun _ _ _ h => h) (Or.inl ⟨by rfl, ?_⟩) (by assumption) ?_
        rotate_left
        · intro w' hSw
          try dsimp only at hSw
          go_simp
          try with_reducible rfl
        try simp only [Act.put, List.setIfInBounds_toArray, List.set_cons_zero, List.set_cons_succ]
        refine wpAnyH_take (i := 1) (oi := { dst := some 51, op := Op.move (Operand.tmp 1), type := 9, pos := "law.go:50", after := #[], guard := none }) (v := ?_) rfl (by as_aux_lemma => kernel_rfl) (by as_aux_lemma => kernel_rfl) (by as_aux_lemma => kernel_rfl) (fun _ _ _ h => h) (Or.inl ⟨by rfl, ?_⟩) (by assumption) ?_
        rotate_left
        · intro w' hSw
          try dsimp only at hSw
          go_simp
          try with_reducible rfl
        try simp only [Act.put, List.setIfInBounds_toArray, List.set_cons_zero, List.set_cons_succ]
        refine wpAnyH_take (i := 2) (oi := { dst := some 52, op := Op.move (Operand.tmp 7), type := 34, pos := "law.go:50", after := #[], guard := none }) (v := ?_) rfl (by as_aux_lemma => kernel_rfl) (by as_aux_lemma => kernel_rfl) (by as_aux_lemma => kernel_rfl) (fun _ _ _ h => h) (Or.inl ⟨by rfl, ?_⟩) (by assumption) ?_
        rotate_left
        · intro w' hSw
          try dsimp only at hSw
          go_simp
          try with_reducible rfl
        try simp only [Act.put, List.setIfInBounds_toArray, List.set_cons_zero, List.set_cons_succ]
        refine wpAnyH_take (i := 3) (oi := { dst := some 53, op := Op.move (Operand.tmp 8), type := 3, pos := "law.go:50", after := #[], guard := none }) (v := ?_) rfl (by as_aux_lemma => kernel_rfl) (by as_aux_lemma => kernel_rfl) (by as_aux_lemma => kernel_rfl) (fun _ _ _ h => h) (Or.inl ⟨by rfl, ?_⟩) (by assumption) ?_
        rotate_left
        · intro w' hSw
          try dsimp only at hSw
          go_simp
          try with_reducible rfl
        try simp only [Act.put, List.setIfInBounds_toArray, List.set_cons_zero, List.set_cons_succ]
        refine wpAnyH_take (i := 4) (oi := { dst := some 54, op := Op.indexAddr 34 (Operand.tmp 52) (Operand.tmp 53), type := 0, pos := "law.go:50", after := #[{ on := 2, ground := Ground.data }, { on := 3, ground := Ground.data }], guard := none }) (v := ?_) rfl (by as_aux_lemma => kernel_rfl) (by as_aux_lemma => kernel_rfl) (by as_aux_lemma => kernel_rfl) (fun _ _ _ h => h) (Or.inl ⟨by rfl, ?_⟩) (by assumption) ?_
        rotate_left
        · intro w' hSw
          try dsimp only at hSw
          go_simp
          try with_reducible rfl
        try simp only [Act.put, List.setIfInBounds_toArray, List.set_cons_zero, List.set_cons_succ]
        refine wpAnyH_take (i := 5) (oi := { dst := some 55, op := Op.fieldAddr 45 (Operand.tmp 54) 0, type := 0, pos := "law.go:50", after := #[{ on := 4, ground := Ground.data }], guard := none }) (v := ?_) rfl (by as_aux_lemma => kernel_rfl) (by as_aux_lemma => kernel_rfl) (by as_aux_lemma => kernel_rfl) (fun _ _ _ h => h) (Or.inl ⟨by rfl, ?_⟩) (by assumption) ?_
        rotate_left
        · intro w' hSw
          try dsimp only at hSw
          go_simp
          try with_reducible rfl
        try simp only [Act.put, List.setIfInBounds_toArray, List.set_cons_zero, List.set_cons_succ]
        refine wpAnyH_take (i := 6) (oi := { dst := some 56, op := Op.load 9 (Operand.tmp 55), type := 9, pos := "law.go:50", after := #[{ on := 5, ground := Ground.data }], guard := none }) (v := ?_) rfl (by as_aux_lemma => kernel_rfl) (by as_aux_lemma => kernel_rfl) (by as_aux_lemma => kernel_rfl) (fun _ _ _ h => h) (Or.inl ⟨by rfl, ?_⟩) (by assumption) ?_
        rotate_left
        · intro w' hSw
          try dsimp only at hSw
          go_simp
          try with_reducible rfl
        try simp only [Act.put, List.setIfInBounds_toArray, List.set_cons_zero, List.set_cons_succ]
        refine wpAnyH_ready (rs := [7, 11]) (by as_aux_lemma => kernel_rfl) (by simp) ?_
        refine AllReadyH.cons (o := { dst := some 57, op := Op.call { callee := Callee.value (Operand.func 15), args := #[Operand.tmp 50, Operand.tmp 51, Operand.tmp 56], argTypes := #[25, 9, 9] }, type := 31, pos := "law.go:50", after := #[{ on := 0, ground := Ground.data }, { on := 1, ground := Ground.data }, { on := 6, ground := Ground.data }], guard := none }) rfl (fun Kx hK => ?_) (AllReadyH.cons (o := { dst := some 9, op := Op.alloc 30, type := 0, pos := "law.go:50", after := #[], guard := none }) rfl (fun Kx hK => ?_) (AllReadyH.nil))
        · go_simp
          refine (vwvalue_any (H.out.later K0.out) HOK.out u zc HV2).mono ?_
          rintro e z9001 ⟨rfl, bz9001⟩
          have K9001 := Lib.hid (below2Z K0.out bz9001)
          have D9001 := Lib.hid (heldD_up K9001.out D0.out)
          clear bz9001
          go_wp2_with fail
          refine hK.out _ _ ?_ (fun hHeld2 => ?_)
          · exact D9001.out
          clear hK Kx hHeld
          have hHeld := hHeld2
          clear hHeld2
          try simp only [Act.put, List.setIfInBounds_toArray, List.set_cons_zero, List.set_cons_succ]
          refine wpAnyH_take (i := 8) (oi := { dst := some 49, op := Op.move (Operand.tmp 57), type := 31, pos := "law.go:50", after := #[{ on := 7, ground := Ground.data }], guard := none }) (v := ?_) rfl (by as_aux_lemma => kernel_rfl) (by as_aux_lemma => kernel_rfl) (by as_aux_lemma => kernel_rfl) (fun _ _ _ h => h) (Or.inl ⟨by rfl, ?_⟩) (by assumption) ?_
          rotate_left
          · intro w' hSw
            try dsimp only at hSw
            go_simp
            try with_reducible rfl
          try simp only [Act.put, List.setIfInBounds_toArray, List.set_cons_zero, List.set_cons_succ]
          refine wpAnyH_take (i := 9) (oi := { dst := some 58, op := Op.extract (Operand.tmp 49) 0, type := 30, pos := "law.go:50", after := #[{ on := 8, ground := Ground.data }], guard := none }) (v := ?_) rfl (by as_aux_lemma => kernel_rfl) (by as_aux_lemma => kernel_rfl) (by as_aux_lemma => kernel_rfl) (fun _ _ _ h => h) (Or.inl ⟨by rfl, ?_⟩) (by assumption) ?_
          rotate_left
          · intro w' hSw
            try dsimp only at hSw
            go_simp
            try with_reducible rfl
          try simp only [Act.put, List.setIfInBounds_toArray, List.set_cons_zero, List.set_cons_succ]
          refine wpAnyH_take (i := 10) (oi := { dst := some 59, op := Op.extract (Operand.tmp 49) 1, type := 4, pos := "law.go:50", after := #[{ on := 8, ground := Ground.data }, { on := 12, ground := Ground.gcOnly Departure.lateStores }], guard := none }) (v := ?_) rfl (by as_aux_lemma => kernel_rfl) (by as_aux_lemma => kernel_rfl) (by as_aux_lemma => kernel_rfl) (fun _ _ _ h => h) (Or.inl ⟨by rfl, ?_⟩) (by assumption) ?_
          rotate_left
          · intro w' hSw
            try dsimp only at hSw
            go_simp
            try with_reducible rfl
          try simp only [Act.put, List.setIfInBounds_toArray, List.set_cons_zero, List.set_cons_succ]
          refine wpAnyH_ready (rs := [11]) (by as_aux_lemma => kernel_rfl) (by simp) ?_
          refine AllReadyH.cons (o := { dst := some 9, op := Op.alloc 30, type := 0, pos := "law.go:50", after := #[], guard := none }) rfl (fun Kx hK => ?_) AllReadyH.nil
          go_simp
          refine hK.out _ _ ?_ (fun hHeld2 => ?_)
          · exact heldD_up (below2Z K9001.out (bl_newZ _ _)) D0.out
          clear hK Kx hHeld
          have hHeld := hHeld2
          clear hHeld2
          try simp only [Act.put, List.setIfInBounds_toArray, List.set_cons_zero, List.set_cons_succ]
          have bz9002 := bl_newZ z9001 (.cells #[.int .i64 0, .int .i64 0, .int .i64 0, .string ⟨#[]⟩] 30)
          have K9002 := Lib.hid (below2Z K9001.out bz9002)
          have D9002 := Lib.hid (heldD_up K9002.out D0.out)
          have nz9002 := Lib.hid ((MapKept.heap_alloc z9001 (.cells #[.int .i64 0, .int .i64 0, .int .i64 0, .string ⟨#[]⟩] 30)).1)
          have hB9002 : wr.heap.size ≤ z9001.heap.size := (K9001.out).size
          clear bz9002
          generalize z9001.alloc (.cells #[.int .i64 0, .int .i64 0, .int .i64 0, .string ⟨#[]⟩] 30) = z9002 at K9002 D9002 nz9002 hHeld ⊢
          generalize z9001.heap.size = B9002 at nz9002 hB9002  ⊢
          obtain ⟨⟨r0, r1, r2, r3⟩, ⟨g0, g1, g2, g3⟩⟩ := res4_cells (show Res4 z9002 B9002 from nz9002.out)
          refine wpAnyH_ready (rs := [12]) (by as_aux_lemma => kernel_rfl) (by simp) ?_
          refine AllReadyH.cons (o := { dst := none, op := Op.store 30 (Operand.tmp 9) (Operand.tmp 58), type := 0, pos := "law.go:50", after := #[{ on := 11, ground := Ground.data }, { on := 9, ground := Ground.data }, { on := 7, ground := Ground.chain }, { on := 0, ground := Ground.phase }, { on := 1, ground := Ground.phase }, { on := 2, ground := Ground.phase }, { on := 3, ground := Ground.phase }, { on := 4, ground := Ground.phase }, { on := 5, ground := Ground.phase }, { on := 6, ground := Ground.phase }, { on := 7, ground := Ground.phase }, { on := 8, ground := Ground.phase }, { on := 9, ground := Ground.phase }, { on := 10, ground := Ground.textOnly Departure.lateStores }, { on := 11, ground := Ground.phase }], guard := none }) rfl (fun Kx hK => ?_) AllReadyH.nil
          go_simp
          clear r0 r1 r2 r3 g0 g1 g2 g3
          obtain ⟨y0, y1, y2, y3⟩ := set4V (y0 := .int .i64 za) (y1 := .int .i64 zb) (y2 := .int .i64 zd) (y3 := .string ⟨zs.toArray⟩) nz9002.out
          have KE := Lib.hid (((((K9002.out).setCell (p := ⟨B9002, 0, none⟩) hB9002 (.int .i64 za)).setCell (p := ⟨B9002, 1, none⟩) hB9002 (.int .i64 zb)).setCell (p := ⟨B9002, 2, none⟩) hB9002 (.int .i64 zd)).setCell (p := ⟨B9002, 3, none⟩) hB9002 (.string ⟨zs.toArray⟩))
          refine hK.out _ _ ?_ (fun hHeld2 => ?_)
          · exact heldD_up KE.out D0.out
          clear hK Kx hHeld
          have hHeld := hHeld2
          clear hHeld2
          refine wpAnyH_take (i := 13) (oi := { dst := some 10, op := Op.assign (Operand.tmp 59), type := 4, pos := "law.go:50", after := #[{ on := 10, ground := Ground.data }, { on := 12, ground := Ground.chain }, { on := 0, ground := Ground.phase }, { on := 1, ground := Ground.phase }, { on := 2, ground := Ground.phase }, { on := 3, ground := Ground.phase }, { on := 4, ground := Ground.phase }, { on := 5, ground := Ground.phase }, { on := 6, ground := Ground.phase }, { on := 7, ground := Ground.phase }, { on := 8, ground := Ground.phase }, { on := 9, ground := Ground.phase }, { on := 10, ground := Ground.phase }, { on := 11, ground := Ground.phase }, { on := 12, ground := Ground.phase }], guard := none }) (v := ?_) rfl (by as_aux_lemma => kernel_rfl) (by as_aux_lemma => kernel_rfl) (by as_aux_lemma => kernel_rfl) (fun _ _ _ h => h) (Or.inl ⟨by rfl, ?_⟩) (by assumption) ?_
          rotate_left
          · intro w' hSw
            try dsimp only at hSw
            go_simp
            try with_reducible rfl
          try simp only [Act.put, List.setIfInBounds_toArray, List.set_cons_zero, List.set_cons_succ]
          refine wpAnyH_done (by kernel_rfl) ?_ _
          go_wp2_with fail
          go_meet
          exact ⟨B9002, rfl, rfl, Lib.hid (cellsAt_four y0 y1 y2 y3), KE⟩
        · go_simp
          refine hK.out _ _ ?_ (fun hHeld2 => ?_)
          · exact heldD_up (below2Z K0.out (bl_newZ _ _)) D0.out
          clear hK Kx hHeld
          have hHeld := hHeld2
          clear hHeld2
          try simp only [Act.put, List.setIfInBounds_toArray, List.set_cons_zero, List.set_cons_succ]
          have bz9004 := bl_newZ z0 (.cells #[.int .i64 0, .int .i64 0, .int .i64 0, .string ⟨#[]⟩] 30)
          have K9004 := Lib.hid (below2Z K0.out bz9004)
          have D9004 := Lib.hid (heldD_up K9004.out D0.out)
          have nz9004 := Lib.hid ((MapKept.heap_alloc z0 (.cells #[.int .i64 0, .int .i64 0, .int .i64 0, .string ⟨#[]⟩] 30)).1)
          have hB9004 : wr.heap.size ≤ z0.heap.size := (K0.out).size
          clear bz9004
          generalize z0.alloc (.cells #[.int .i64 0, .int .i64 0, .int .i64 0, .string ⟨#[]⟩] 30) = z9004 at K9004 D9004 nz9004 hHeld ⊢
          generalize z0.heap.size = B9004 at nz9004 hB9004  ⊢
          refine wpAnyH_ready (rs := [7]) (by as_aux_lemma => kernel_rfl) (by simp) ?_
          refine AllReadyH.cons (o := { dst := some 57, op := Op.call { callee := Callee.value (Operand.func 15), args := #[Operand.tmp 50, Operand.tmp 51, Operand.tmp 56], argTypes := #[25, 9, 9] }, type := 31, pos := "law.go:50", after := #[{ on := 0, ground := Ground.data }, { on := 1, ground := Ground.data }, { on := 6, ground := Ground.data }], guard := none }) rfl (fun Kx hK => ?_) AllReadyH.nil
          go_simp
          refine (vwvalue_any (H.out.later K9004.out) HOK.out u zc HV2).mono ?_
          rintro e z9005 ⟨rfl, bz9005⟩
          have K9005 := Lib.hid (below2Z K9004.out bz9005)
          have D9005 := Lib.hid (heldD_up K9005.out D0.out)
          replace nz9004 := Lib.hid (((bz9005).block _ (Array.getElem?_eq_some_iff.1 (nz9004.out)).1).trans (nz9004.out))
          clear bz9005
          go_wp2_with fail
          refine hK.out _ _ ?_ (fun hHeld2 => ?_)
          · exact D9005.out
          clear hK Kx hHeld
          have hHeld := hHeld2
          clear hHeld2
          try simp only [Act.put, List.setIfInBounds_toArray, List.set_cons_zero, List.set_cons_succ]
          refine wpAnyH_take (i := 8) (oi := { dst := some 49, op := Op.move (Operand.tmp 57), type := 31, pos := "law.go:50", after := #[{ on := 7, ground := Ground.data }], guard := none }) (v := ?_) rfl (by as_aux_lemma => kernel_rfl) (by as_aux_lemma => kernel_rfl) (by as_aux_lemma => kernel_rfl) (fun _ _ _ h => h) (Or.inl ⟨by rfl, ?_⟩) (by assumption) ?_
          rotate_left
          · intro w' hSw
            try dsimp only at hSw
            go_simp
            try with_reducible rfl
          try simp only [Act.put, List.setIfInBounds_toArray, List.set_cons_zero, List.set_cons_succ]
          refine wpAnyH_take (i := 9) (oi := { dst := some 58, op := Op.extract (Operand.tmp 49) 0, type := 30, pos := "law.go:50", after := #[{ on := 8, ground := Ground.data }], guard := none }) (v := ?_) rfl (by as_aux_lemma => kernel_rfl) (by as_aux_lemma => kernel_rfl) (by as_aux_lemma => kernel_rfl) (fun _ _ _ h => h) (Or.inl ⟨by rfl, ?_⟩) (by assumption) ?_
          rotate_left
          · intro w' hSw
            try dsimp only at hSw
            go_simp
            try with_reducible rfl
          try simp only [Act.put, List.setIfInBounds_toArray, List.set_cons_zero, List.set_cons_succ]
          refine wpAnyH_take (i := 10) (oi := { dst := some 59, op := Op.extract (Operand.tmp 49) 1, type := 4, pos := "law.go:50", after := #[{ on := 8, ground := Ground.data }, { on := 12, ground := Ground.gcOnly Departure.lateStores }], guard := none }) (v := ?_) rfl (by as_aux_lemma => kernel_rfl) (by as_aux_lemma => kernel_rfl) (by as_aux_lemma => kernel_rfl) (fun _ _ _ h => h) (Or.inl ⟨by rfl, ?_⟩) (by assumption) ?_
          rotate_left
          · intro w' hSw
            try dsimp only at hSw
            go_simp
            try with_reducible rfl
          try simp only [Act.put, List.setIfInBounds_toArray, List.set_cons_zero, List.set_cons_succ]
          obtain ⟨⟨r0, r1, r2, r3⟩, ⟨g0, g1, g2, g3⟩⟩ := res4_cells (show Res4 z9005 B9004 from nz9004.out)
          refine wpAnyH_ready (rs := [12]) (by as_aux_lemma => kernel_rfl) (by simp) ?_
          refine AllReadyH.cons (o := { dst := none, op := Op.store 30 (Operand.tmp 9) (Operand.tmp 58), type := 0, pos := "law.go:50", after := #[{ on := 11, ground := Ground.data }, { on := 9, ground := Ground.data }, { on := 7, ground := Ground.chain }, { on := 0, ground := Ground.phase }, { on := 1, ground := Ground.phase }, { on := 2, ground := Ground.phase }, { on := 3, ground := Ground.phase }, { on := 4, ground := Ground.phase }, { on := 5, ground := Ground.phase }, { on := 6, ground := Ground.phase }, { on := 7, ground := Ground.phase }, { on := 8, ground := Ground.phase }, { on := 9, ground := Ground.phase }, { on := 10, ground := Ground.textOnly Departure.lateStores }, { on := 11, ground := Ground.phase }], guard := none }) rfl (fun Kx hK => ?_) AllReadyH.nil
          go_simp
          clear r0 r1 r2 r3 g0 g1 g2 g3
          obtain ⟨y0, y1, y2, y3⟩ := set4V (y0 := .int .i64 za) (y1 := .int .i64 zb) (y2 := .int .i64 zd) (y3 := .string ⟨zs.toArray⟩) nz9004.out
          have KE := Lib.hid (((((K9005.out).setCell (p := ⟨B9004, 0, none⟩) hB9004 (.int .i64 za)).setCell (p := ⟨B9004, 1, none⟩) hB9004 (.int .i64 zb)).setCell (p := ⟨B9004, 2, none⟩) hB9004 (.int .i64 zd)).setCell (p := ⟨B9004, 3, none⟩) hB9004 (.string ⟨zs.toArray⟩))
          refine hK.out _ _ ?_ (fun hHeld2 => ?_)
          · exact heldD_up KE.out D0.out
          clear hK Kx hHeld
          have hHeld := hHeld2
          clear hHeld2
          refine wpAnyH_take (i := 13) (oi := { dst := some 10, op := Op.assign (Operand.tmp 59), type := 4, pos := "law.go:50", after := #[{ on := 10, ground := Ground.data }, { on := 12, ground := Ground.chain }, { on := 0, ground := Ground.phase }, { on := 1, ground := Ground.phase }, { on := 2, ground := Ground.phase }, { on := 3, ground := Ground.phase }, { on := 4, ground := Ground.phase }, { on := 5, ground := Ground.phase }, { on := 6, ground := Ground.phase }, { on := 7, ground := Ground.phase }, { on := 8, ground := Ground.phase }, { on := 9, ground := Ground.phase }, { on := 10, ground := Ground.phase }, { on := 11, ground := Ground.phase }, { on := 12, ground := Ground.phase }], guard := none }) (v := ?_) rfl (by as_aux_lemma => kernel_rfl) (by as_aux_lemma => kernel_rfl) (by as_aux_lemma => kernel_rfl) (fun _ _ _ h => h) (Or.inl ⟨by rfl, ?_⟩) (by assumption) ?_
          rotate_left
          · intro w' hSw
            try dsimp only at hSw
            go_simp
            try with_reducible rfl
          try simp only [Act.put, List.setIfInBounds_toArray, List.set_cons_zero, List.set_cons_succ]
          refine wpAnyH_done (by kernel_rfl) ?_ _
          go_wp2_with fail
          go_meet
          exact ⟨B9004, rfl, rfl, Lib.hid (cellsAt_four y0 y1 y2 y3), KE⟩
      case rest =>
        obtain ⟨BKV, rfl, rfl, KV, KB6⟩ := hcut
        obtain ⟨w6, hw6⟩ : ∃ X, X = wc := ⟨_, rfl⟩
        subst hw6
        replace SB := Lib.hid (upQ SB.out KB6.out)
        replace H := Lib.hid (H.out.later KB6.out)
        replace A1 := Lib.hid (Tab.later A1.out KB6.out)
        replace C0 := Lib.hid (cell_later C0.out KB6.out)
        replace C1 := Lib.hid (cell_later C1.out KB6.out)
        replace C2 := Lib.hid (cell_later C2.out KB6.out)
        replace C3 := Lib.hid (cell_later C3.out KB6.out)
        replace C4 := Lib.hid (cell_later C4.out KB6.out)
        replace HB := Lib.hid (below2Z HB.out KB6.out)
        replace HX := Lib.hid (below2Z HX.out KB6.out)
        clear KB6
        obtain ⟨v0, v1, v2, v3⟩ := fourV KV.out
        have c0 := C0.out
        have c1 := C1.out
        have c2 := C2.out
        have c3 := C3.out
        have c4 := C4.out
        go_wp2_with fail
        go_region
        all_goals go_wp2_with fail
        all_goals go_roundw
        case rel => exact ⟨k + 1, by omega, by go_num, HX.out.drew⟩
        case measure => simp [intOf]; omega
    · obtain rfl : k = na := by omega
      replace SB := Lib.hid (upQ SB.out HN.out)
      replace H := Lib.hid (H.out.later HN.out)
      replace A1 := Lib.hid (Tab.later A1.out HN.out)
      replace HB := Lib.hid (below2Z HB.out HN.out)
      obtain ⟨⟨SBc0, SBc1⟩, ⟨SBf0, SBf1⟩⟩ := blk2 SB.out
      go_wp2_with fail
      clear SBc0 SBc1 SBf0 SBf1
      refine (vwvalue_any H.out HOK.out u c HV).mono ?_
      rintro e w7 ⟨rfl, b7⟩
      replace SB := Lib.hid (upQ SB.out b7)
      replace H := Lib.hid (H.out.later b7)
      replace A1 := Lib.hid (Tab.later A1.out b7)
      replace HB := Lib.hid (below2Z HB.out b7)
      clear b7
      have b8 := bl_newZ w7 (.cells #[.int .i64 va, .int .i64 vb, .int .i64 vc, .string ⟨vs.toArray⟩] 30)
      have VA := newQ w7 (.cells #[.int .i64 va, .int .i64 vb, .int .i64 vc, .string ⟨vs.toArray⟩] 30)
      have hVA : w.heap.size ≤ w7.heap.size := HB.out.size
      replace SB := Lib.hid (upQ SB.out b8)
      replace H := Lib.hid (H.out.later b8)
      replace A1 := Lib.hid (Tab.later A1.out b8)
      replace HB := Lib.hid (below2Z HB.out b8)
      clear b8
      replace VA := Lib.hid VA
      obtain ⟨⟨SBc0, SBc1⟩, ⟨SBf0, SBf1⟩⟩ := blk2 SB.out
      go_wp2_with fail
      clear SBc0 SBc1 SBf0 SBf1
      generalize w7.alloc (.cells #[.int .i64 va, .int .i64 vb, .int .i64 vc, .string ⟨vs.toArray⟩] 30) = w9 at SB VA H A1 HB ⊢
      refine (diget_eqR A1.out c HG).mono ?_
      rintro e w10 ⟨rfl, b10⟩
      replace SB := Lib.hid (upQ SB.out b10)
      replace VA := Lib.hid (upQ VA.out b10)
      replace H := Lib.hid (H.out.later b10)
      replace A1 := Lib.hid (Tab.later A1.out b10)
      replace HB := Lib.hid (below2Z HB.out b10)
      clear b10
      have b11 := bl_newZ w10 (.cells #[.int .i64 va, .int .i64 vb, .int .i64 vc, .string ⟨vs.toArray⟩] 30)
      have VB := newQ w10 (.cells #[.int .i64 va, .int .i64 vb, .int .i64 vc, .string ⟨vs.toArray⟩] 30)
      have hVB : w.heap.size ≤ w10.heap.size := HB.out.size
      replace SB := Lib.hid (upQ SB.out b11)
      replace VA := Lib.hid (upQ VA.out b11)
      replace H := Lib.hid (H.out.later b11)
      replace A1 := Lib.hid (Tab.later A1.out b11)
      replace HB := Lib.hid (below2Z HB.out b11)
      clear b11
      replace VB := Lib.hid VB
      obtain ⟨⟨SBc0, SBc1⟩, ⟨SBf0, SBf1⟩⟩ := blk2 SB.out
      go_wp2_with fail
      clear SBc0 SBc1 SBf0 SBf1
      generalize w10.alloc (.cells #[.int .i64 va, .int .i64 vb, .int .i64 vc, .string ⟨vs.toArray⟩] 30) = w12 at SB VA VB H A1 HB ⊢
      refine (vwwat_any H.out HOK.out (by omega) c).mono ?_
      rintro e w13 ⟨vA2, rfl, hA2, b13⟩
      replace SB := Lib.hid (upQ SB.out b13)
      replace VA := Lib.hid (upQ VA.out b13)
      replace VB := Lib.hid (upQ VB.out b13)
      replace H := Lib.hid (H.out.later b13)
      replace A1 := Lib.hid (Tab.later A1.out b13)
      replace HB := Lib.hid (below2Z HB.out b13)
      obtain ⟨a2, c2, rfl⟩ := texts_shape hA2 NW.out
      have A2 := Lib.hid hA2
      clear hA2
      clear b13
      go_wp2_with fail
      go_loopw [15, 17] (fun a i ws => ∃ (k : Nat) (am : Bool), k ≤ nw ∧ a = .bool am ∧ Hid (decide (u ∈ (vwWat s c).take k) = am) ∧ i = .int .i64 k ∧ Hid (Below w13.heap.size w13 ws)) (fun _ i _ => nw - (intOf i).toNat)
      case atStart => exact ⟨0, false, by omega, rfl, by show _ = _; simp, rfl, Below.refl _ _⟩
      case round =>
        obtain ⟨k, am, hk2, rfl, HAM, rfl, HN2⟩ := hrel
        by_cases hlt2 : k < nw
        · obtain ⟨b2, off2, rfl, hcc⟩ := A2.out.cell HN2.out k (by rw [NW.out]; exact hlt2)
          have hnx := mem_next (l := vwWat s c) (k := k) (by rw [NW.out]; exact hlt2) u
          obtain ⟨z, hz⟩ : ∃ z, (vwWat s c).getD k [] = z := ⟨_, rfl⟩
          rw [HAM.out, hz] at hnx
          rw [hz] at hcc
          clear hz
          have hkn : (0 : Int) ≤ (k : Int) := by omega
          have hki : (k : Int) < (nw : Int) := by omega
          cases am with
          | true =>
            have HA2 : Hid (decide (u ∈ (vwWat s c).take (k + 1)) = true) := Lib.hid (by rw [hnx]; rfl)
            clear hnx
            go_wp2_with fail
            go_roundw
            case rel => exact ⟨k + 1, true, by omega, rfl, HA2, by go_num, HN2⟩
            case measure => simp [intOf]; omega
          | false =>
            obtain ⟨bz, hbz⟩ : ∃ b, (z == u) = b := ⟨_, rfl⟩
            have HA2 : Hid (decide (u ∈ (vwWat s c).take (k + 1)) = bz) := Lib.hid (by rw [hnx, hbz]; rfl)
            clear hnx
            cases bz with
            | true =>
              go_wp2_with fail
              go_roundw
              case rel => exact ⟨k + 1, true, by omega, rfl, HA2, by go_num, HN2⟩
              case measure => simp [intOf]; omega
            | false =>
              go_wp2_with fail
              go_roundw
              case rel => exact ⟨k + 1, false, by omega, rfl, HA2, by go_num, HN2⟩
              case measure => simp [intOf]; omega
        · obtain rfl : k = nw := by omega
          obtain rfl : am = true := by have h1 := HAM.out; have h2 := HEND.out; rw [← NW.out, List.take_length] at h1; rw [← h1, ← h2]
          replace SB := Lib.hid (upQ SB.out HN2.out)
          replace VA := Lib.hid (upQ VA.out HN2.out)
          replace VB := Lib.hid (upQ VB.out HN2.out)
          replace H := Lib.hid (H.out.later HN2.out)
          replace A1 := Lib.hid (Tab.later A1.out HN2.out)
          replace A2 := Lib.hid (Texts.later A2.out HN2.out)
          replace HB := Lib.hid (below2Z HB.out HN2.out)
          clear HAM
          obtain ⟨⟨VAc0, VAc1, VAc2, VAc3⟩, ⟨VAf0, VAf1, VAf2, VAf3⟩⟩ := blk4 VA.out
          obtain ⟨⟨VBc0, VBc1, VBc2, VBc3⟩, ⟨VBf0, VBf1, VBf2, VBf3⟩⟩ := blk4 VB.out
          obtain ⟨⟨SBc0, SBc1⟩, ⟨SBf0, SBf1⟩⟩ := blk2 SB.out
          go_wp2_with fail
          clear VAc0 VAc1 VAc2 VAc3 VAf0 VAf1 VAf2 VAf3 VBc0 VBc1 VBc2 VBc3 VBf0 VBf1 VBf2 VBf3 SBc0 SBc1 SBf0 SBf1
          refine (sees8_eqR H.out.1 u c HSEE).mono ?_
          rintro e w14 ⟨rfl, b14⟩
          replace SB := Lib.hid (upQ SB.out b14)
          replace VA := Lib.hid (upQ VA.out b14)
          replace VB := Lib.hid (upQ VB.out b14)
          replace H := Lib.hid (H.out.later b14)
          replace A1 := Lib.hid (Tab.later A1.out b14)
          replace A2 := Lib.hid (Texts.later A2.out b14)
          replace HB := Lib.hid (below2Z HB.out b14)
          clear b14
          go_wp2_with fail
          refine (live15 _).mono ?_
          rintro e w15 ⟨rfl, b15⟩
          replace SB := Lib.hid (upQ SB.out b15)
          replace VA := Lib.hid (upQ VA.out b15)
          replace VB := Lib.hid (upQ VB.out b15)
          replace H := Lib.hid (H.out.later b15)
          replace A1 := Lib.hid (Tab.later A1.out b15)
          replace A2 := Lib.hid (Texts.later A2.out b15)
          replace HB := Lib.hid (below2Z HB.out b15)
          clear b15
          go_wp2_with fail
          go_ret
          exact ⟨rfl, HB.out⟩

set_option maxHeartbeats 6400000 in
set_option maxRecDepth 100000 in
theorem vrw_false {w : World} {x y : Value} {s : Sta} (h : StAt w x y s) (u c : List UInt8) (f1 : fewSta s = true) (f2 : stMay s = true) (k3 : u.length ≤ 40) (k4 : c.length ≤ 40) {va vb vc : Int} {vs : List UInt8} (hv : vwVal s u c = (⟨va, vb, vc, vs⟩, false)) :
    Calls Tryz.prog 4 #[.agg #[x, y], .string ⟨u.toArray⟩, .string ⟨c.toArray⟩] w fun e w' => e = .returned (.bool true) ∧ Below w.heap.size w w' := by
  have b0 := bl_newZ w (.cells #[x, y] 25)
  have HB := Lib.hid b0
  have H := Lib.hid (h.later b0)
  have SB := newQ w (.cells #[x, y] 25)
  replace SB := Lib.hid SB
  clear b0
  clear h
  obtain ⟨HOK, he80, hs50⟩ := fewSta_V f1
  replace HOK := Lib.hid HOK
  have hMt := f2
  have hn16 := vwOf_100 s u
  obtain ⟨na, hna⟩ : ∃ n, (vwOf s u).length = n := ⟨_, rfl⟩
  have NA := Lib.hid hna
  rw [hna] at hn16
  clear hna
  have HV : Hid (vwValue s u c = (⟨va, vb, vc, vs⟩, false)) := Lib.hid (by rw [vwValue_is hMt]; exact hv)
  have HG : Hid (diGet (vwOf s u) c = (⟨va, vb, vc, vs⟩, false)) := Lib.hid (by rw [vwOf_get hMt]; exact hv)
  have HIN : Hid (∀ r ∈ vwOf s u, vwValue s u r.c = (r.v, true)) := Lib.hid (fun r hr => by rw [vwValue_is hMt]; exact (vwOf_mem hMt).1 hr)
  have HM := Lib.hid (vwOf_may hMt u)
  obtain ⟨nw, hnw⟩ : ∃ n, (vwWat s c).length = n := ⟨_, rfl⟩
  have NW := Lib.hid hnw
  have hnw80 : nw ≤ 4294967 := by rw [← hnw]; exact Nat.le_trans (vwWat_le s c) (by omega)
  have HEND : Hid (decide (u ∈ vwWat s c) = false) := Lib.hid (by have := vwWat_mem (w := u) (c := c) hMt; rw [hv] at this; simpa using this)
  clear hnw hMt hv
  have t1 := long_no k3
  have t2 := long_no k4
  clear k3 k4
  have e1 := val_eql_self va vb vc vs
  have hgd : Tryz.prog.eqGuardType Tryz.prog.depth 30 = false := by kernel_rfl
  have F1 := Lib.hid f1
  have F2 := Lib.hid f2
  clear f1 f2
  obtain ⟨⟨SBc0, SBc1⟩, ⟨SBf0, SBf1⟩⟩ := blk2 SB.out
  go_enter Tryz.func4, Tryz.ntmps4
  go_wp2_with fail
  clear SBc0 SBc1 SBf0 SBf1
  refine (fewst_any H.out F1).mono ?_
  rintro e w2 ⟨rfl, b2⟩
  replace SB := Lib.hid (upQ SB.out b2)
  replace H := Lib.hid (H.out.later b2)
  replace HB := Lib.hid (below2Z HB.out b2)
  clear b2
  obtain ⟨⟨SBc0, SBc1⟩, ⟨SBf0, SBf1⟩⟩ := blk2 SB.out
  go_wp2_with fail
  clear SBc0 SBc1 SBf0 SBf1
  refine (rstmay_any H.out HOK.out.1 (by omega) HOK.out.2 F2).mono ?_
  rintro e w3 ⟨rfl, b3⟩
  replace SB := Lib.hid (upQ SB.out b3)
  replace H := Lib.hid (H.out.later b3)
  replace HB := Lib.hid (below2Z HB.out b3)
  clear b3
  obtain ⟨⟨SBc0, SBc1⟩, ⟨SBf0, SBf1⟩⟩ := blk2 SB.out
  go_wp2_with fail
  clear SBc0 SBc1 SBf0 SBf1
  refine (vwof_any H.out HOK.out (by omega) u).mono ?_
  rintro e w4 ⟨vA1, rfl, hA1, b4⟩
  replace SB := Lib.hid (upQ SB.out b4)
  replace H := Lib.hid (H.out.later b4)
  replace HB := Lib.hid (below2Z HB.out b4)
  obtain ⟨aa, ac, rfl⟩ := tab_shapeV hA1.tab NA.out
  have A1 := Lib.hid hA1.tab
  clear hA1
  clear b4
  go_wp2_with fail
  refine (dimay_eq A1.out (vwOf_short s u) HM).mono ?_
  rintro e w5 ⟨rfl, b5⟩
  replace SB := Lib.hid (upQ SB.out b5)
  replace H := Lib.hid (H.out.later b5)
  replace A1 := Lib.hid (Tab.later A1.out b5)
  replace HB := Lib.hid (below2Z HB.out b5)
  clear b5
  go_wp2_with fail
  go_loopw [8] (fun i wr => ∃ k : Nat, k ≤ na ∧ i = .int .i64 k ∧ Hid (Below w5.heap.size w5 wr)) (fun i _ => na - (intOf i).toNat)
  case atStart => exact ⟨0, by omega, rfl, Below.refl _ _⟩
  case round =>
    obtain ⟨k, hk, rfl, HN⟩ := hrel
    by_cases hlt : k < na
    · obtain ⟨b, off, rfl, hcc⟩ := A1.out.row HN.out k (by rw [NA.out]; exact hlt)
      have hmem : (vwOf s u).getD k Row.zero ∈ vwOf s u := by rw [List.getD_eq_getElem?_getD, List.getElem?_eq_getElem (by rw [NA.out]; exact hlt)]; exact List.getElem_mem _
      have hin := HIN.out _ hmem
      obtain ⟨⟨zc, ⟨za, zb, zd, zs⟩⟩, hz⟩ : ∃ z, (vwOf s u).getD k Row.zero = z := ⟨_, rfl⟩
      rw [hz] at hcc hin
      simp only at hin
      have HV2 := Lib.hid hin
      obtain ⟨h0, h1, h2, h3, h4⟩ := hcc
      have C0 := Lib.hid h0
      have C1 := Lib.hid h1
      have C2 := Lib.hid h2
      have C3 := Lib.hid h3
      have C4 := Lib.hid h4
      clear h0 h1 h2 h3 h4 hz hmem hin
      have hkn : (0 : Int) ≤ (k : Int) := by omega
      have hki : (k : Int) < (na : Int) := by omega
      replace SB := Lib.hid (upQ SB.out HN.out)
      replace H := Lib.hid (H.out.later HN.out)
      replace A1 := Lib.hid (Tab.later A1.out HN.out)
      replace HB := Lib.hid (below2Z HB.out HN.out)
      have e3 := val_neq_self za zb zd zs
      have HX := HN
      go_upto_region 9 with fail
      go_cut [9, 10] from 49 to 59 (fun p z wx => ∃ B, p = .pointer (some ⟨B, 0, none⟩) ∧ z = .bool true ∧ Hid (CellsAt wx B 0 [.int .i64 za, .int .i64 zb, .int .i64 zd, .string ⟨zs.toArray⟩]) ∧ Hid (Below wr.heap.size wr wx))
      case first =>
        obtain ⟨BS, hBS⟩ : ∃ BS : List (Nat × List Value), BS = [(w.heap.size, [x, y])] := ⟨_, rfl⟩
        have D0 := Lib.hid (show heldD wr BS b (off + k * 5) (.string ⟨zc.toArray⟩) from ⟨by rw [hBS]; exact heldB_cons (cellsAt_block SB.out) (heldB_nil _), C0.out⟩)
        have hq0 : ∀ X, heldD X BS b (off + k * 5) (.string ⟨zc.toArray⟩) → X.cell? ⟨w.heap.size, 0, none⟩ = some (x) := fun X hx => heldB_get (vs := [x, y]) hx.1 (by rw [hBS]; simp) rfl
        have hq1 : ∀ X, heldD X BS b (off + k * 5) (.string ⟨zc.toArray⟩) → X.cell? ⟨w.heap.size, 1, none⟩ = some (y) := fun X hx => heldB_get (vs := [x, y]) hx.1 (by rw [hBS]; simp) rfl
        have hqt : ∀ X, heldD X BS b (off + k * 5) (.string ⟨zc.toArray⟩) → X.cell? ⟨b, off + k * 5, none⟩ = some (.string ⟨zc.toArray⟩) := fun X hx => hx.2
        clear hBS
        have K0 : Hid (Below wr.heap.size wr wr.drew) := Lib.hid (Below.refl _ _).drew
        refine wp_region_held_drew (S := (fun X => heldD X BS b (off + k * 5) (.string ⟨zc.toArray⟩))) (by kernel_rfl) ?_ (fun hHeld => ?_)
        · exact heldD_up K0.out D0.out
        generalize wr.drew = z0 at K0 hHeld ⊢
        refine wpAnyH_take (i := 0) (oi := { dst := some 50, op := Op.load 25 (Operand.tmp 3), type := 25, pos := "law.go:50", after := #[], guard := none }) (v := ?_) rfl (by as_aux_lemma => kernel_rfl) (by as_aux_lemma => kernel_rfl) (by as_aux_lemma => kernel_rfl) (fun _ _ _ h => h) (Or.inl ⟨by rfl, ?_⟩) (by assumption) ?_
        rotate_left
        · intro w' hSw
          try dsimp only at hSw
          go_simp
          try with_reducible rfl
        try simp only [Act.put, List.setIfInBounds_toArray, List.set_cons_zero, List.set_cons_succ]
        refine wpAnyH_take (i := 1) (oi := { dst := some 51, op := Op.move (Operand.tmp 1), type := 9, pos := "law.go:50", after := #[], guard := none }) (v := ?_) rfl (by as_aux_lemma => kernel_rfl) (by as_aux_lemma => kernel_rfl) (by as_aux_lemma => kernel_rfl) (fun _ _ _ h => h) (Or.inl ⟨by rfl, ?_⟩) (by assumption) ?_
        rotate_left
        · intro w' hSw
          try dsimp only at hSw
          go_simp
          try with_reducible rfl
        try simp only [Act.put, List.setIfInBounds_toArray, List.set_cons_zero, List.set_cons_succ]
        refine wpAnyH_take (i := 2) (oi := { dst := some 52, op := Op.move (Operand.tmp 7), type := 34, pos := "law.go:50", after := #[], guard := none }) (v := ?_) rfl (by as_aux_lemma => kernel_rfl) (by as_aux_lemma => kernel_rfl) (by as_aux_lemma => kernel_rfl) (fun _ _ _ h => h) (Or.inl ⟨by rfl, ?_⟩) (by assumption) ?_
        rotate_left
        · intro w' hSw
          try dsimp only at hSw
          go_simp
          try with_reducible rfl
        try simp only [Act.put, List.setIfInBounds_toArray, List.set_cons_zero, List.set_cons_succ]
        refine wpAnyH_take (i := 3) (oi := { dst := some 53, op := Op.move (Operand.tmp 8), type := 3, pos := "law.go:50", after := #[], guard := none }) (v := ?_) rfl (by as_aux_lemma => kernel_rfl) (by as_aux_lemma => kernel_rfl) (by as_aux_lemma => kernel_rfl) (fun _ _ _ h => h) (Or.inl ⟨by rfl, ?_⟩) (by assumption) ?_
        rotate_left
        · intro w' hSw
          try dsimp only at hSw
          go_simp
          try with_reducible rfl
        try simp only [Act.put, List.setIfInBounds_toArray, List.set_cons_zero, List.set_cons_succ]
        refine wpAnyH_take (i := 4) (oi := { dst := some 54, op := Op.indexAddr 34 (Operand.tmp 52) (Operand.tmp 53), type := 0, pos := "law.go:50", after := #[{ on := 2, ground := Ground.data }, { on := 3, ground := Ground.data }], guard := none }) (v := ?_) rfl (by as_aux_lemma => kernel_rfl) (by as_aux_lemma => kernel_rfl) (by as_aux_lemma => kernel_rfl) (fun _ _ _ h => h) (Or.inl ⟨by rfl, ?_⟩) (by assumption) ?_
        rotate_left
        · intro w' hSw
          try dsimp only at hSw
          go_simp
          try with_reducible rfl
        try simp only [Act.put, List.setIfInBounds_toArray, List.set_cons_zero, List.set_cons_succ]
        refine wpAnyH_take (i := 5) (oi := { dst := some 55, op := Op.fieldAddr 45 (Operand.tmp 54) 0, type := 0, pos := "law.go:50", after := #[{ on := 4, ground := Ground.data }], guard := none }) (v := ?_) rfl (by as_aux_lemma => kernel_rfl) (by as_aux_lemma => kernel_rfl) (by as_aux_lemma => kernel_rfl) (fun _ _ _ h => h) (Or.inl ⟨by rfl, ?_⟩) (by assumption) ?_
        rotate_left
        · intro w' hSw
          try dsimp only at hSw
          go_simp
          try with_reducible rfl
        try simp only [Act.put, List.setIfInBounds_toArray, List.set_cons_zero, List.set_cons_succ]
        refine wpAnyH_take (i := 6) (oi := { dst := some 56, op := Op.load 9 (Operand.tmp 55), type := 9, pos := "law.go:50", after := #[{ on := 5, ground := Ground.data }], guard := none }) (v := ?_) rfl (by as_aux_lemma => kernel_rfl) (by as_aux_lemma => kernel_rfl) (by as_aux_lemma => kernel_rfl) (fun _ _ _ h => h) (Or.inl ⟨by rfl, ?_⟩) (by assumption) ?_
        rotate_left
        · intro w' hSw
          try dsimp only at hSw
          go_simp
          try with_reducible rfl
        try simp only [Act.put, List.setIfInBounds_toArray, List.set_cons_zero, List.set_cons_succ]
        refine wpAnyH_ready (rs := [7, 11]) (by as_aux_lemma => kernel_rfl) (by simp) ?_
        refine AllReadyH.cons (o := { dst := some 57, op := Op.call { callee := Callee.value (Operand.func 15), args := #[Operand.tmp 50, Operand.tmp 51, Operand.tmp 56], argTypes := #[25, 9, 9] }, type := 31, pos := "law.go:50", after := #[{ on := 0, ground := Ground.data }, { on := 1, ground := Ground.data }, { on := 6, ground := Ground.data }], guard := none }) rfl (fun Kx hK => ?_) (AllReadyH.cons (o := { dst := some 9, op := Op.alloc 30, type := 0, pos := "law.go:50", after := #[], guard := none }) rfl (fun Kx hK => ?_) (AllReadyH.nil))
        · go_simp
          refine (vwvalue_any (H.out.later K0.out) HOK.out u zc HV2).mono ?_
          rintro e z9001 ⟨rfl, bz9001⟩
          have K9001 := Lib.hid (below2Z K0.out bz9001)
          have D9001 := Lib.hid (heldD_up K9001.out D0.out)
          clear bz9001
          go_wp2_with fail
          refine hK.out _ _ ?_ (fun hHeld2 => ?_)
          · exact D9001.out
          clear hK Kx hHeld
          have hHeld := hHeld2
          clear hHeld2
          try simp only [Act.put, List.setIfInBounds_toArray, List.set_cons_zero, List.set_cons_succ]
          refine wpAnyH_take (i := 8) (oi := { dst := some 49, op := Op.move (Operand.tmp 57), type := 31, pos := "law.go:50", after := #[{ on := 7, ground := Ground.data }], guard := none }) (v := ?_) rfl (by as_aux_lemma => kernel_rfl) (by as_aux_lemma => kernel_rfl) (by as_aux_lemma => kernel_rfl) (fun _ _ _ h => h) (Or.inl ⟨by rfl, ?_⟩) (by assumption) ?_
          rotate_left
          · intro w' hSw
            try dsimp only at hSw
            go_simp
            try with_reducible rfl
          try simp only [Act.put, List.setIfInBounds_toArray, List.set_cons_zero, List.set_cons_succ]
          refine wpAnyH_take (i := 9) (oi := { dst := some 58, op := Op.extract (Operand.tmp 49) 0, type := 30, pos := "law.go:50", after := #[{ on := 8, ground := Ground.data }], guard := none }) (v := ?_) rfl (by as_aux_lemma => kernel_rfl) (by as_aux_lemma => kernel_rfl) (by as_aux_lemma => kernel_rfl) (fun _ _ _ h => h) (Or.inl ⟨by rfl, ?_⟩) (by assumption) ?_
          rotate_left
          · intro w' hSw
            try dsimp only at hSw
            go_simp
            try with_reducible rfl
          try simp only [Act.put, List.setIfInBounds_toArray, List.set_cons_zero, List.set_cons_succ]
          refine wpAnyH_take (i := 10) (oi := { dst := some 59, op := Op.extract (Operand.tmp 49) 1, type := 4, pos := "law.go:50", after := #[{ on := 8, ground := Ground.data }, { on := 12, ground := Ground.gcOnly Departure.lateStores }], guard := none }) (v := ?_) rfl (by as_aux_lemma => kernel_rfl) (by as_aux_lemma => kernel_rfl) (by as_aux_lemma => kernel_rfl) (fun _ _ _ h => h) (Or.inl ⟨by rfl, ?_⟩) (by assumption) ?_
          rotate_left
          · intro w' hSw
            try dsimp only at hSw
            go_simp
            try with_reducible rfl
          try simp only [Act.put, List.setIfInBounds_toArray, List.set_cons_zero, List.set_cons_succ]
          refine wpAnyH_ready (rs := [11]) (by as_aux_lemma => kernel_rfl) (by simp) ?_
          refine AllReadyH.cons (o := { dst := some 9, op := Op.alloc 30, type := 0, pos := "law.go:50", after := #[], guard := none }) rfl (fun Kx hK => ?_) AllReadyH.nil
          go_simp
          refine hK.out _ _ ?_ (fun hHeld2 => ?_)
          · exact heldD_up (below2Z K9001.out (bl_newZ _ _)) D0.out
          clear hK Kx hHeld
          have hHeld := hHeld2
          clear hHeld2
          try simp only [Act.put, List.setIfInBounds_toArray, List.set_cons_zero, List.set_cons_succ]
          have bz9002 := bl_newZ z9001 (.cells #[.int .i64 0, .int .i64 0, .int .i64 0, .string ⟨#[]⟩] 30)
          have K9002 := Lib.hid (below2Z K9001.out bz9002)
          have D9002 := Lib.hid (heldD_up K9002.out D0.out)
          have nz9002 := Lib.hid ((MapKept.heap_alloc z9001 (.cells #[.int .i64 0, .int .i64 0, .int .i64 0, .string ⟨#[]⟩] 30)).1)
          have hB9002 : wr.heap.size ≤ z9001.heap.size := (K9001.out).size
          clear bz9002
          generalize z9001.alloc (.cells #[.int .i64 0, .int .i64 0, .int .i64 0, .string ⟨#[]⟩] 30) = z9002 at K9002 D9002 nz9002 hHeld ⊢
          generalize z9001.heap.size = B9002 at nz9002 hB9002  ⊢
          obtain ⟨⟨r0, r1, r2, r3⟩, ⟨g0, g1, g2, g3⟩⟩ := res4_cells (show Res4 z9002 B9002 from nz9002.out)
          refine wpAnyH_ready (rs := [12]) (by as_aux_lemma => kernel_rfl) (by simp) ?_
          refine AllReadyH.cons (o := { dst := none, op := Op.store 30 (Operand.tmp 9) (Operand.tmp 58), type := 0, pos := "law.go:50", after := #[{ on := 11, ground := Ground.data }, { on := 9, ground := Ground.data }, { on := 7, ground := Ground.chain }, { on := 0, ground := Ground.phase }, { on := 1, ground := Ground.phase }, { on := 2, ground := Ground.phase }, { on := 3, ground := Ground.phase }, { on := 4, ground := Ground.phase }, { on := 5, ground := Ground.phase }, { on := 6, ground := Ground.phase }, { on := 7, ground := Ground.phase }, { on := 8, ground := Ground.phase }, { on := 9, ground := Ground.phase }, { on := 10, ground := Ground.textOnly Departure.lateStores }, { on := 11, ground := Ground.phase }], guard := none }) rfl (fun Kx hK => ?_) AllReadyH.nil
          go_simp
          clear r0 r1 r2 r3 g0 g1 g2 g3
          obtain ⟨y0, y1, y2, y3⟩ := set4V (y0 := .int .i64 za) (y1 := .int .i64 zb) (y2 := .int .i64 zd) (y3 := .string ⟨zs.toArray⟩) nz9002.out
          have KE := Lib.hid (((((K9002.out).setCell (p := ⟨B9002, 0, none⟩) hB9002 (.int .i64 za)).setCell (p := ⟨B9002, 1, none⟩) hB9002 (.int .i64 zb)).setCell (p := ⟨B9002, 2, none⟩) hB9002 (.int .i64 zd)).setCell (p := ⟨B9002, 3, none⟩) hB9002 (.string ⟨zs.toArray⟩))
          refine hK.out _ _ ?_ (fun hHeld2 => ?_)
          · exact heldD_up KE.out D0.out
          clear hK Kx hHeld
          have hHeld := hHeld2
          clear hHeld2
          refine wpAnyH_take (i := 13) (oi := { dst := some 10, op := Op.assign (Operand.tmp 59), type := 4, pos := "law.go:50", after := #[{ on := 10, ground := Ground.data }, { on := 12, ground := Ground.chain }, { on := 0, ground := Ground.phase }, { on := 1, ground := Ground.phase }, { on := 2, ground := Ground.phase }, { on := 3, ground := Ground.phase }, { on := 4, ground := Ground.phase }, { on := 5, ground := Ground.phase }, { on := 6, ground := Ground.phase }, { on := 7, ground := Ground.phase }, { on := 8, ground := Ground.phase }, { on := 9, ground := Ground.phase }, { on := 10, ground := Ground.phase }, { on := 11, ground := Ground.phase }, { on := 12, ground := Ground.phase }], guard := none }) (v := ?_) rfl (by as_aux_lemma => kernel_rfl) (by as_aux_lemma => kernel_rfl) (by as_aux_lemma => kernel_rfl) (fun _ _ _ h => h) (Or.inl ⟨by rfl, ?_⟩) (by assumption) ?_
          rotate_left
          · intro w' hSw
            try dsimp only at hSw
            go_simp
            try with_reducible rfl
          try simp only [Act.put, List.setIfInBounds_toArray, List.set_cons_zero, List.set_cons_succ]
          refine wpAnyH_done (by kernel_rfl) ?_ _
          go_wp2_with fail
          go_meet
          exact ⟨B9002, rfl, rfl, Lib.hid (cellsAt_four y0 y1 y2 y3), KE⟩
        · go_simp
          refine hK.out _ _ ?_ (fun hHeld2 => ?_)
          · exact heldD_up (below2Z K0.out (bl_newZ _ _)) D0.out
          clear hK Kx hHeld
          have hHeld := hHeld2
          clear hHeld2
          try simp only [Act.put, List.setIfInBounds_toArray, List.set_cons_zero, List.set_cons_succ]
          have bz9004 := bl_newZ z0 (.cells #[.int .i64 0, .int .i64 0, .int .i64 0, .string ⟨#[]⟩] 30)
          have K9004 := Lib.hid (below2Z K0.out bz9004)
          have D9004 := Lib.hid (heldD_up K9004.out D0.out)
          have nz9004 := Lib.hid ((MapKept.heap_alloc z0 (.cells #[.int .i64 0, .int .i64 0, .int .i64 0, .string ⟨#[]⟩] 30)).1)
          have hB9004 : wr.heap.size ≤ z0.heap.size := (K0.out).size
          clear bz9004
          generalize z0.alloc (.cells #[.int .i64 0, .int .i64 0, .int .i64 0, .string ⟨#[]⟩] 30) = z9004 at K9004 D9004 nz9004 hHeld ⊢
          generalize z0.heap.size = B9004 at nz9004 hB9004  ⊢
          refine wpAnyH_ready (rs := [7]) (by as_aux_lemma => kernel_rfl) (by simp) ?_
          refine AllReadyH.cons (o := { dst := some 57, op := Op.call { callee := Callee.value (Operand.func 15), args := #[Operand.tmp 50, Operand.tmp 51, Operand.tmp 56], argTypes := #[25, 9, 9] }, type := 31, pos := "law.go:50", after := #[{ on := 0, ground := Ground.data }, { on := 1, ground := Ground.data }, { on := 6, ground := Ground.data }], guard := none }) rfl (fun Kx hK => ?_) AllReadyH.nil
          go_simp
          refine (vwvalue_any (H.out.later K9004.out) HOK.out u zc HV2).mono ?_
          rintro e z9005 ⟨rfl, bz9005⟩
          have K9005 := Lib.hid (below2Z K9004.out bz9005)
          have D9005 := Lib.hid (heldD_up K9005.out D0.out)
          replace nz9004 := Lib.hid (((bz9005).block _ (Array.getElem?_eq_some_iff.1 (nz9004.out)).1).trans (nz9004.out))
          clear bz9005
          go_wp2_with fail
          refine hK.out _ _ ?_ (fun hHeld2 => ?_)
          · exact D9005.out
          clear hK Kx hHeld
          have hHeld := hHeld2
          clear hHeld2
          try simp only [Act.put, List.setIfInBounds_toArray, List.set_cons_zero, List.set_cons_succ]
          refine wpAnyH_take (i := 8) (oi := { dst := some 49, op := Op.move (Operand.tmp 57), type := 31, pos := "law.go:50", after := #[{ on := 7, ground := Ground.data }], guard := none }) (v := ?_) rfl (by as_aux_lemma => kernel_rfl) (by as_aux_lemma => kernel_rfl) (by as_aux_lemma => kernel_rfl) (fun _ _ _ h => h) (Or.inl ⟨by rfl, ?_⟩) (by assumption) ?_
          rotate_left
          · intro w' hSw
            try dsimp only at hSw
            go_simp
            try with_reducible rfl
          try simp only [Act.put, List.setIfInBounds_toArray, List.set_cons_zero, List.set_cons_succ]
          refine wpAnyH_take (i := 9) (oi := { dst := some 58, op := Op.extract (Operand.tmp 49) 0, type := 30, pos := "law.go:50", after := #[{ on := 8, ground := Ground.data }], guard := none }) (v := ?_) rfl (by as_aux_lemma => kernel_rfl) (by as_aux_lemma => kernel_rfl) (by as_aux_lemma => kernel_rfl) (fun _ _ _ h => h) (Or.inl ⟨by rfl, ?_⟩) (by assumption) ?_
          rotate_left
          · intro w' hSw
            try dsimp only at hSw
            go_simp
            try with_reducible rfl
          try simp only [Act.put, List.setIfInBounds_toArray, List.set_cons_zero, List.set_cons_succ]
          refine wpAnyH_take (i := 10) (oi := { dst := some 59, op := Op.extract (Operand.tmp 49) 1, type := 4, pos := "law.go:50", after := #[{ on := 8, ground := Ground.data }, { on := 12, ground := Ground.gcOnly Departure.lateStores }], guard := none }) (v := ?_) rfl (by as_aux_lemma => kernel_rfl) (by as_aux_lemma => kernel_rfl) (by as_aux_lemma => kernel_rfl) (fun _ _ _ h => h) (Or.inl ⟨by rfl, ?_⟩) (by assumption) ?_
          rotate_left
          · intro w' hSw
            try dsimp only at hSw
            go_simp
            try with_reducible rfl
          try simp only [Act.put, List.setIfInBounds_toArray, List.set_cons_zero, List.set_cons_succ]
          obtain ⟨⟨r0, r1, r2, r3⟩, ⟨g0, g1, g2, g3⟩⟩ := res4_cells (show Res4 z9005 B9004 from nz9004.out)
          refine wpAnyH_ready (rs := [12]) (by as_aux_lemma => kernel_rfl) (by simp) ?_
          refine AllReadyH.cons (o := { dst := none, op := Op.store 30 (Operand.tmp 9) (Operand.tmp 58), type := 0, pos := "law.go:50", after := #[{ on := 11, ground := Ground.data }, { on := 9, ground := Ground.data }, { on := 7, ground := Ground.chain }, { on := 0, ground := Ground.phase }, { on := 1, ground := Ground.phase }, { on := 2, ground := Ground.phase }, { on := 3, ground := Ground.phase }, { on := 4, ground := Ground.phase }, { on := 5, ground := Ground.phase }, { on := 6, ground := Ground.phase }, { on := 7, ground := Ground.phase }, { on := 8, ground := Ground.phase }, { on := 9, ground := Ground.phase }, { on := 10, ground := Ground.textOnly Departure.lateStores }, { on := 11, ground := Ground.phase }], guard := none }) rfl (fun Kx hK => ?_) AllReadyH.nil
          go_simp
          clear r0 r1 r2 r3 g0 g1 g2 g3
          obtain ⟨y0, y1, y2, y3⟩ := set4V (y0 := .int .i64 za) (y1 := .int .i64 zb) (y2 := .int .i64 zd) (y3 := .string ⟨zs.toArray⟩) nz9004.out
          have KE := Lib.hid (((((K9005.out).setCell (p := ⟨B9004, 0, none⟩) hB9004 (.int .i64 za)).setCell (p := ⟨B9004, 1, none⟩) hB9004 (.int .i64 zb)).setCell (p := ⟨B9004, 2, none⟩) hB9004 (.int .i64 zd)).setCell (p := ⟨B9004, 3, none⟩) hB9004 (.string ⟨zs.toArray⟩))
          refine hK.out _ _ ?_ (fun hHeld2 => ?_)
          · exact heldD_up KE.out D0.out
          clear hK Kx hHeld
          have hHeld := hHeld2
          clear hHeld2
          refine wpAnyH_take (i := 13) (oi := { dst := some 10, op := Op.assign (Operand.tmp 59), type := 4, pos := "law.go:50", after := #[{ on := 10, ground := Ground.data }, { on := 12, ground := Ground.chain }, { on := 0, ground := Ground.phase }, { on := 1, ground := Ground.phase }, { on := 2, ground := Ground.phase }, { on := 3, ground := Ground.phase }, { on := 4, ground := Ground.phase }, { on := 5, ground := Ground.phase }, { on := 6, ground := Ground.phase }, { on := 7, ground := Ground.phase }, { on := 8, ground := Ground.phase }, { on := 9, ground := Ground.phase }, { on := 10, ground := Ground.phase }, { on := 11, ground := Ground.phase }, { on := 12, ground := Ground.phase }], guard := none }) (v := ?_) rfl (by as_aux_lemma => kernel_rfl) (by as_aux_lemma => kernel_rfl) (by as_aux_lemma => kernel_rfl) (fun _ _ _ h => h) (Or.inl ⟨by rfl, ?_⟩) (by assumption) ?_
          rotate_left
          · intro w' hSw
            try dsimp only at hSw
            go_simp
            try with_reducible rfl
          try simp only [Act.put, List.setIfInBounds_toArray, List.set_cons_zero, List.set_cons_succ]
          refine wpAnyH_done (by kernel_rfl) ?_ _
          go_wp2_with fail
          go_meet
          exact ⟨B9004, rfl, rfl, Lib.hid (cellsAt_four y0 y1 y2 y3), KE⟩
      case rest =>
        obtain ⟨BKV, rfl, rfl, KV, KB6⟩ := hcut
        obtain ⟨w6, hw6⟩ : ∃ X, X = wc := ⟨_, rfl⟩
        subst hw6
        replace SB := Lib.hid (upQ SB.out KB6.out)
        replace H := Lib.hid (H.out.later KB6.out)
        replace A1 := Lib.hid (Tab.later A1.out KB6.out)
        replace C0 := Lib.hid (cell_later C0.out KB6.out)
        replace C1 := Lib.hid (cell_later C1.out KB6.out)
        replace C2 := Lib.hid (cell_later C2.out KB6.out)
        replace C3 := Lib.hid (cell_later C3.out KB6.out)
        replace C4 := Lib.hid (cell_later C4.out KB6.out)
        replace HB := Lib.hid (below2Z HB.out KB6.out)
        replace HX := Lib.hid (below2Z HX.out KB6.out)
        clear KB6
        obtain ⟨v0, v1, v2, v3⟩ := fourV KV.out
        have c0 := C0.out
        have c1 := C1.out
        have c2 := C2.out
        have c3 := C3.out
        have c4 := C4.out
        go_wp2_with fail
        go_region
        all_goals go_wp2_with fail
        all_goals go_roundw
        case rel => exact ⟨k + 1, by omega, by go_num, HX.out.drew⟩
        case measure => simp [intOf]; omega
    · obtain rfl : k = na := by omega
      replace SB := Lib.hid (upQ SB.out HN.out)
      replace H := Lib.hid (H.out.later HN.out)
      replace A1 := Lib.hid (Tab.later A1.out HN.out)
      replace HB := Lib.hid (below2Z HB.out HN.out)
      obtain ⟨⟨SBc0, SBc1⟩, ⟨SBf0, SBf1⟩⟩ := blk2 SB.out
      go_wp2_with fail
      clear SBc0 SBc1 SBf0 SBf1
      refine (vwvalue_any H.out HOK.out u c HV).mono ?_
      rintro e w7 ⟨rfl, b7⟩
      replace SB := Lib.hid (upQ SB.out b7)
      replace H := Lib.hid (H.out.later b7)
      replace A1 := Lib.hid (Tab.later A1.out b7)
      replace HB := Lib.hid (below2Z HB.out b7)
      clear b7
      have b8 := bl_newZ w7 (.cells #[.int .i64 va, .int .i64 vb, .int .i64 vc, .string ⟨vs.toArray⟩] 30)
      have VA := newQ w7 (.cells #[.int .i64 va, .int .i64 vb, .int .i64 vc, .string ⟨vs.toArray⟩] 30)
      have hVA : w.heap.size ≤ w7.heap.size := HB.out.size
      replace SB := Lib.hid (upQ SB.out b8)
      replace H := Lib.hid (H.out.later b8)
      replace A1 := Lib.hid (Tab.later A1.out b8)
      replace HB := Lib.hid (below2Z HB.out b8)
      clear b8
      replace VA := Lib.hid VA
      obtain ⟨⟨SBc0, SBc1⟩, ⟨SBf0, SBf1⟩⟩ := blk2 SB.out
      go_wp2_with fail
      clear SBc0 SBc1 SBf0 SBf1
      generalize w7.alloc (.cells #[.int .i64 va, .int .i64 vb, .int .i64 vc, .string ⟨vs.toArray⟩] 30) = w9 at SB VA H A1 HB ⊢
      refine (diget_eqR A1.out c HG).mono ?_
      rintro e w10 ⟨rfl, b10⟩
      replace SB := Lib.hid (upQ SB.out b10)
      replace VA := Lib.hid (upQ VA.out b10)
      replace H := Lib.hid (H.out.later b10)
      replace A1 := Lib.hid (Tab.later A1.out b10)
      replace HB := Lib.hid (below2Z HB.out b10)
      clear b10
      have b11 := bl_newZ w10 (.cells #[.int .i64 va, .int .i64 vb, .int .i64 vc, .string ⟨vs.toArray⟩] 30)
      have VB := newQ w10 (.cells #[.int .i64 va, .int .i64 vb, .int .i64 vc, .string ⟨vs.toArray⟩] 30)
      have hVB : w.heap.size ≤ w10.heap.size := HB.out.size
      replace SB := Lib.hid (upQ SB.out b11)
      replace VA := Lib.hid (upQ VA.out b11)
      replace H := Lib.hid (H.out.later b11)
      replace A1 := Lib.hid (Tab.later A1.out b11)
      replace HB := Lib.hid (below2Z HB.out b11)
      clear b11
      replace VB := Lib.hid VB
      obtain ⟨⟨SBc0, SBc1⟩, ⟨SBf0, SBf1⟩⟩ := blk2 SB.out
      go_wp2_with fail
      clear SBc0 SBc1 SBf0 SBf1
      generalize w10.alloc (.cells #[.int .i64 va, .int .i64 vb, .int .i64 vc, .string ⟨vs.toArray⟩] 30) = w12 at SB VA VB H A1 HB ⊢
      refine (vwwat_any H.out HOK.out (by omega) c).mono ?_
      rintro e w13 ⟨vA2, rfl, hA2, b13⟩
      replace SB := Lib.hid (upQ SB.out b13)
      replace VA := Lib.hid (upQ VA.out b13)
      replace VB := Lib.hid (upQ VB.out b13)
      replace H := Lib.hid (H.out.later b13)
      replace A1 := Lib.hid (Tab.later A1.out b13)
      replace HB := Lib.hid (below2Z HB.out b13)
      obtain ⟨a2, c2, rfl⟩ := texts_shape hA2 NW.out
      have A2 := Lib.hid hA2
      clear hA2
      clear b13
      go_wp2_with fail
      go_loopw [15, 17] (fun a i ws => ∃ (k : Nat) (am : Bool), k ≤ nw ∧ a = .bool am ∧ Hid (decide (u ∈ (vwWat s c).take k) = am) ∧ i = .int .i64 k ∧ Hid (Below w13.heap.size w13 ws)) (fun _ i _ => nw - (intOf i).toNat)
      case atStart => exact ⟨0, false, by omega, rfl, by show _ = _; simp, rfl, Below.refl _ _⟩
      case round =>
        obtain ⟨k, am, hk2, rfl, HAM, rfl, HN2⟩ := hrel
        by_cases hlt2 : k < nw
        · obtain ⟨b2, off2, rfl, hcc⟩ := A2.out.cell HN2.out k (by rw [NW.out]; exact hlt2)
          have hnx := mem_next (l := vwWat s c) (k := k) (by rw [NW.out]; exact hlt2) u
          obtain ⟨z, hz⟩ : ∃ z, (vwWat s c).getD k [] = z := ⟨_, rfl⟩
          rw [HAM.out, hz] at hnx
          rw [hz] at hcc
          clear hz
          have hkn : (0 : Int) ≤ (k : Int) := by omega
          have hki : (k : Int) < (nw : Int) := by omega
          cases am with
          | true =>
            have HA2 : Hid (decide (u ∈ (vwWat s c).take (k + 1)) = true) := Lib.hid (by rw [hnx]; rfl)
            clear hnx
            go_wp2_with fail
            go_roundw
            case rel => exact ⟨k + 1, true, by omega, rfl, HA2, by go_num, HN2⟩
            case measure => simp [intOf]; omega
          | false =>
            obtain ⟨bz, hbz⟩ : ∃ b, (z == u) = b := ⟨_, rfl⟩
            have HA2 : Hid (decide (u ∈ (vwWat s c).take (k + 1)) = bz) := Lib.hid (by rw [hnx, hbz]; rfl)
            clear hnx
            cases bz with
            | true =>
              go_wp2_with fail
              go_roundw
              case rel => exact ⟨k + 1, true, by omega, rfl, HA2, by go_num, HN2⟩
              case measure => simp [intOf]; omega
            | false =>
              go_wp2_with fail
              go_roundw
              case rel => exact ⟨k + 1, false, by omega, rfl, HA2, by go_num, HN2⟩
              case measure => simp [intOf]; omega
        · obtain rfl : k = nw := by omega
          obtain rfl : am = false := by have h1 := HAM.out; have h2 := HEND.out; rw [← NW.out, List.take_length] at h1; rw [← h1, ← h2]
          replace SB := Lib.hid (upQ SB.out HN2.out)
          replace VA := Lib.hid (upQ VA.out HN2.out)
          replace VB := Lib.hid (upQ VB.out HN2.out)
          replace H := Lib.hid (H.out.later HN2.out)
          replace A1 := Lib.hid (Tab.later A1.out HN2.out)
          replace A2 := Lib.hid (Texts.later A2.out HN2.out)
          replace HB := Lib.hid (below2Z HB.out HN2.out)
          clear HAM
          obtain ⟨⟨VAc0, VAc1, VAc2, VAc3⟩, ⟨VAf0, VAf1, VAf2, VAf3⟩⟩ := blk4 VA.out
          obtain ⟨⟨VBc0, VBc1, VBc2, VBc3⟩, ⟨VBf0, VBf1, VBf2, VBf3⟩⟩ := blk4 VB.out
          obtain ⟨⟨SBc0, SBc1⟩, ⟨SBf0, SBf1⟩⟩ := blk2 SB.out
          go_wp2_with fail
          clear VAc0 VAc1 VAc2 VAc3 VAf0 VAf1 VAf2 VAf3 VBc0 VBc1 VBc2 VBc3 VBf0 VBf1 VBf2 VBf3 SBc0 SBc1 SBf0 SBf1
          refine (live15 _).mono ?_
          rintro e w14 ⟨rfl, b14⟩
          replace SB := Lib.hid (upQ SB.out b14)
          replace VA := Lib.hid (upQ VA.out b14)
          replace VB := Lib.hid (upQ VB.out b14)
          replace H := Lib.hid (H.out.later b14)
          replace A1 := Lib.hid (Tab.later A1.out b14)
          replace A2 := Lib.hid (Texts.later A2.out b14)
          replace HB := Lib.hid (below2Z HB.out b14)
          clear b14
          go_wp2_with fail
          go_ret
          exact ⟨rfl, HB.out⟩

theorem walkViewRows {w : World} {x y : Value} {s : Sta} (h : StAt w x y s) (_ : ∀ r ∈ s.s, SesFit r) (u : List UInt8) (_ : u.length ≤ maxLen) (c : List UInt8) (_ : c.length ≤ maxLen) :
    Calls Tryz.prog 4 #[.agg #[x, y], .string ⟨u.toArray⟩, .string ⟨c.toArray⟩] w fun z w' => z = .returned (.bool true) ∧ Below w.heap.size w w' := by
  cases f1 : fewSta s with
  | false => exact vrw_1 h u c f1
  | true =>
  cases f2 : stMay s with
  | false => exact vrw_2 h u c f1 f2
  | true =>
  by_cases k3 : u.length ≤ 40
  case neg => exact vrw_3 h u c f1 f2 k3
  by_cases k4 : c.length ≤ 40
  case neg => exact vrw_4 h u c f1 f2 k3 k4
  obtain ⟨⟨⟨va, vb, vc, vs⟩, r⟩, hv⟩ : ∃ p, vwVal s u c = p := ⟨_, rfl⟩
  cases r with
  | true => exact vrw_true h u c f1 f2 k3 k4 hv
  | false => exact vrw_false h u c f1 f2 k3 k4 hv

end Go.Proofs.YtphfinlfabklmaaGreat

end

section

/-
  THE FRAME OF THE PROOF OF ViewRows: for every input the law returns true, and each argument reads behind the call as it read before. No condition.
-/
namespace Go.Proofs.YtphfinlfabklmaaGreat.viewRows
open Go.ChangeShapes Go.WideShapes Go.ChangeAt Go.RowKit
open Go.ChangeMaps (open_string shut_string)
set_option linter.unusedVariables false

theorem own : ownKnob Tryz.prog.godebug = none := by kernel_rfl
theorem laidOut : laidOutB Tryz.prog = true := by kernel_rfl

set_option maxRecDepth 100000 in
theorem lifted (os : Os) (started : os.Started) (H : Type) (enc : TypeId × Value → H) :
    ReturnsInHanded {} Tryz.checked os 4 .any (Rows.viewRowsSpec.pre6 enc Tryz.prog Tryz.f4 Rows.viewRowsRow.domain false) (Rows.viewRowsSpec.post enc Tryz.prog Tryz.f4 false true false false) := by
  refine returnsInHanded_of_change (C := Tryz.checked) own started (by kernel_rfl) Tryz.func4
    (ChangeSpec.witness6 (enc := enc) (C := Tryz.checked) false ⟨#[], #[.agg #[.slice none 0 0, .slice none 0 0], .string ByteArray.empty, .string ByteArray.empty], []⟩ 8 (by kernel_rfl) (by kernel_rfl) (by kernel_rfl) (by kernel_rfl)) ?_
  intro W base args ds gs before hval0 hW hcnd _
  have hval : ∀ (j : Nat) t v, Tryz.f4.params[j]? = some t → args[j]? = some v → Value.okWide Tryz.prog W .any base t v := hval0
  have hW' := hW
  obtain ⟨p, q, hA0, hV, rfl, hfz, hnd⟩ := hW
  have hA : DataW.TrodAll enc Tryz.prog W 0 (fun _ => true) true Tryz.f4.params.toList args.toList ds p := hA0
  rw [Tryz.params4] at hA hval
  obtain ⟨v0, vs0, d0, ds0, p0, q0, hargs, rfl, rfl, h0, r0⟩ := trodAll_cons hA
  obtain ⟨v1, vs1, d1, ds1, p1, q1, rfl, rfl, rfl, h1, r1⟩ := trodAll_cons r0
  obtain ⟨v2, vs2, d2, ds2, p2, q2, rfl, rfl, rfl, h2, r2⟩ := trodAll_cons r1
  obtain ⟨rfl, rfl, rfl⟩ := trodAll_nil r2
  obtain rfl : args = #[v0, v1, v2] := by cases args; simp_all
  obtain ⟨rfl, rfl⟩ := trodVars_none hV
  have k0 := h0
  have lt0 : ∀ x ∈ p0, x.block < W.heap.size := by obtain ⟨m, hm⟩ := k0; exact DataW.trod_lt m _ _ _ hm
  obtain ⟨x0, y0, l0, rfl, w0, f0⟩ := open_sta (hval 0 25 v0 rfl rfl) h0
  have k1 := h1
  have lt1 : ∀ x ∈ p1, x.block < W.heap.size := by obtain ⟨m, hm⟩ := k1; exact DataW.trod_lt m _ _ _ hm
  obtain ⟨s1, rfl, hd1, hp1, w1⟩ := open_string Tryz.underlying9 (hval 1 9 v1 rfl rfl) h1
  obtain ⟨a1, e1⟩ : ∃ l : List UInt8, s1 = ⟨l.toArray⟩ := ⟨s1.data.toList, by cases s1; simp⟩
  subst e1
  have w1 : a1.length ≤ maxLen := by rw [← size_bytes]; exact w1
  have k2 := h2
  have lt2 : ∀ x ∈ p2, x.block < W.heap.size := by obtain ⟨m, hm⟩ := k2; exact DataW.trod_lt m _ _ _ hm
  obtain ⟨s2, rfl, hd2, hp2, w2⟩ := open_string Tryz.underlying9 (hval 2 9 v2 rfl rfl) h2
  obtain ⟨a2, e2⟩ : ∃ l : List UInt8, s2 = ⟨l.toArray⟩ := ⟨s2.data.toList, by cases s2; simp⟩
  subst e2
  have w2 : a2.length ≤ maxLen := by rw [← size_bytes]; exact w2
  clear hA0 hval0
  refine (walkViewRows (w := W) w0 f0 a1 w1 a2 w2).mono fun e W' ⟨he, bel⟩ => ?_
  subst he
  exact ⟨_, rfl, _, _, _, [], _, [], hW', trodAll_mk1 (shut_bool Tryz.underlying4 _), (trodAll_cons_mk (Below.trod laidOut (by kernel_rfl) (of_decide_eq_true (by kernel_rfl)) k0 bel lt0) (trodAll_cons_mk (Below.trod laidOut (by kernel_rfl) (of_decide_eq_true (by kernel_rfl)) k1 bel lt1) (trodAll_cons_mk (Below.trod laidOut (by kernel_rfl) (of_decide_eq_true (by kernel_rfl)) k2 bel lt2) trodAll_mk0))), rfl, bel.frame _, fun h => by cases h⟩

theorem over : Rows.viewRowsRow.holds Tryz.pinned (OpenSpec.ofChange Rows.viewRowsSpec) :=
  OpenClaim.holds_of_wide 4 Tryz.f4 rfl rfl rfl rfl rfl rfl rfl ⟨rfl, rfl, rfl, rfl, rfl⟩ rfl rfl rfl rfl rfl (by kernel_rfl) Tryz.func4 (by kernel_rfl)
    (of_decide_eq_true (by kernel_rfl)) (by unfold Func.isWrapper; first | (rw [if_pos (by decide +kernel)]; kernel_rfl) | (rw [if_neg (by decide +kernel)]; exact ⟨rfl, rfl⟩))
    (fun os started H enc _ => lifted os started H enc)

/-- THE STATEMENT. -/
theorem proved : Rows.ViewRowsSaid := over
#print axioms proved
end Go.Proofs.YtphfinlfabklmaaGreat.viewRows

end
