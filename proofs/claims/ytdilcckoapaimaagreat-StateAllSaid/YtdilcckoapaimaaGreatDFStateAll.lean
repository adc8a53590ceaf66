/-
  THE PROOF OF StateAll: for every input the law returns true, and each argument reads behind the call as it read before. No condition.
-/
import Derived.Test.YtdilcckoapaimaaGreatD10
import Derived.Test.YtdilcckoapaimaaGreatD14
import Derived.Test.YtdilcckoapaimaaGreatD07
import Derived.BigRegion
import Derived.Deep.RegionHeld
import Derived.Deep.DeepCutAuto
import Derived.Deep.CutBlock
import Derived.Test.YtdilcckoapaimaaGreatD06
import Derived.Test.YtdilcckoapaimaaGreatRows
import Derived.ProofKit
import Derived.OpenShut
import Derived.ShutString
import Derived.ChangeOld
import Derived.SliceStrings
import Derived.Lib.SmallJoins

section

/-
  THE WALK OF StateAll.
-/
namespace Go.Proofs.YtdilcckoapaimaaGreat
open Go.RowKit

theorem twoA {X : World} {B : Nat} {p q : Value} (h : CellsAt X B 0 [p, q]) : X.cell? ⟨B, 0, none⟩ = some p ∧ X.cell? ⟨B, 1, none⟩ = some q := by
  have h0 := h 0 _ rfl
  have h1 := h 1 _ rfl
  simp only [Nat.zero_add] at h0 h1
  exact ⟨h0, h1⟩

theorem fewSta_okA {t : Sta} (h : fewSta t = true) : StOK t ∧ t.e.length ≤ 80 := by
  unfold fewSta at h
  rw [Bool.and_eq_true] at h
  refine ⟨⟨fewR_short h.1, fun s hs => ?_⟩, (fewR_get h.1).1⟩
  have := (few_get h.2).2 s hs
  omega

set_option maxHeartbeats 6400000 in
set_option maxRecDepth 100000 in
theorem stal_1 {w : World} {x y v : Value} {s : Sta} (h : StAt w x y s) {l : List Ev} (hv : Evs w v l) (hs : fewSta s = false) :
    Calls Tryz.prog 4 #[.agg #[x, y], v] w fun e w' => e = .returned (.bool true) ∧ Below w.heap.size w w' := by
  obtain ⟨ax, cx, rfl, -⟩ := h.1.open'
  obtain ⟨ay, cy, rfl, -⟩ := RdS.open' h.2
  obtain ⟨av, cv, rfl, -⟩ := RdS.open' hv
  have b0 := bl_newZ w (.cells #[.slice ax s.e.length cx, .slice ay s.s.length cy] 25)
  have HB := Lib.hid b0
  have C1 := Lib.hid (cellsAt_made (w := w) (cs := #[.slice ax s.e.length cx, .slice ay s.s.length cy]) (vs := [.slice ax s.e.length cx, .slice ay s.s.length cy]) rfl 25 rfl)
  have V := Lib.hid (h.later b0)
  have E : Hid (Evs _ _ l) := Lib.hid (RdS.later hv b0)
  clear b0 h hv
  have H1 := Lib.hid hs
  obtain ⟨c0, c1⟩ := twoA C1.out
  go_enter Tryz.func4, Tryz.ntmps4
  go_wp2_with fail
  clear c0 c1
  refine (fewst_any V.out H1).mono ?_
  rintro e w1 ⟨rfl, b1⟩
  replace HB := Lib.hid (below2Z HB.out b1)
  clear b1
  go_wp2_with fail
  refine (live14 _).mono ?_
  rintro e w2 ⟨rfl, b2⟩
  replace HB := Lib.hid (below2Z HB.out b2)
  clear b2
  go_wp2_with fail
  go_ret
  exact ⟨rfl, HB.out⟩

set_option maxHeartbeats 6400000 in
set_option maxRecDepth 100000 in
theorem stal_2 {w : World} {x y v : Value} {s : Sta} (h : StAt w x y s) {l : List Ev} (hv : Evs w v l) (hs : fewSta s = true) (he : evsShort 40 l = false) :
    Calls Tryz.prog 4 #[.agg #[x, y], v] w fun e w' => e = .returned (.bool true) ∧ Below w.heap.size w w' := by
  obtain ⟨ax, cx, rfl, -⟩ := h.1.open'
  obtain ⟨ay, cy, rfl, -⟩ := RdS.open' h.2
  obtain ⟨av, cv, rfl, -⟩ := RdS.open' hv
  have b0 := bl_newZ w (.cells #[.slice ax s.e.length cx, .slice ay s.s.length cy] 25)
  have HB := Lib.hid b0
  have C1 := Lib.hid (cellsAt_made (w := w) (cs := #[.slice ax s.e.length cx, .slice ay s.s.length cy]) (vs := [.slice ax s.e.length cx, .slice ay s.s.length cy]) rfl 25 rfl)
  have V := Lib.hid (h.later b0)
  have E : Hid (Evs _ _ l) := Lib.hid (RdS.later hv b0)
  clear b0 h hv
  have H1 := Lib.hid hs
  have H2 := Lib.hid he
  obtain ⟨c0, c1⟩ := twoA C1.out
  go_enter Tryz.func4, Tryz.ntmps4
  go_wp2_with fail
  clear c0 c1
  refine (fewst_any V.out H1).mono ?_
  rintro e w1 ⟨rfl, b1⟩
  replace V := Lib.hid (V.out.later b1)
  replace E := Lib.hid (RdS.later E.out b1)
  replace C1 := Lib.hid (C1.out.later b1)
  replace HB := Lib.hid (below2Z HB.out b1)
  clear b1
  go_wp2_with fail
  refine (events_any E.out 40 (by decide) H2).mono ?_
  rintro e w2 ⟨rfl, b2⟩
  replace HB := Lib.hid (below2Z HB.out b2)
  clear b2
  go_wp2_with fail
  refine (live14 _).mono ?_
  rintro e w3 ⟨rfl, b3⟩
  replace HB := Lib.hid (below2Z HB.out b3)
  clear b3
  go_wp2_with fail
  go_ret
  exact ⟨rfl, HB.out⟩

set_option maxHeartbeats 6400000 in
set_option maxRecDepth 100000 in
theorem stal_3 {w : World} {x y v : Value} {s : Sta} (h : StAt w x y s) {l : List Ev} (hv : Evs w v l) (hs : fewSta s = true) (he : evsShort 40 l = true) :
    Calls Tryz.prog 4 #[.agg #[x, y], v] w fun e w' => e = .returned (.bool true) ∧ Below w.heap.size w w' := by
  obtain ⟨ax, cx, rfl, -⟩ := h.1.open'
  obtain ⟨ay, cy, rfl, -⟩ := RdS.open' h.2
  obtain ⟨av, cv, rfl, -⟩ := RdS.open' hv
  have b0 := bl_newZ w (.cells #[.slice ax s.e.length cx, .slice ay s.s.length cy] 25)
  have HB := Lib.hid b0
  have C1 := Lib.hid (cellsAt_made (w := w) (cs := #[.slice ax s.e.length cx, .slice ay s.s.length cy]) (vs := [.slice ax s.e.length cx, .slice ay s.s.length cy]) rfl 25 rfl)
  have V := Lib.hid (h.later b0)
  have E : Hid (Evs _ _ l) := Lib.hid (RdS.later hv b0)
  clear b0 h hv
  have H1 := Lib.hid hs
  have H2 := Lib.hid he
  have HO := Lib.hid (fewSta_okA hs)
  have HE := Lib.hid (evsShort_get he).1
  have HS := Lib.hid (evsShort_ev he)
  have hnl := numsOf_len s l
  obtain ⟨ns, hns⟩ : ∃ ns, numsOf s l = ns := ⟨_, rfl⟩
  obtain ⟨s9, hs9⟩ : ∃ s9, (stAll s l).1 = s9 := ⟨_, rfl⟩
  rw [hns] at hnl
  have HNS := Lib.hid hns
  have HS9 := Lib.hid hs9
  have hle := HE.out
  have t1 : ((l.length : Int) != (l.length : Int)) = false := by simp
  clear hs he hns hs9
  obtain ⟨c0, c1⟩ := twoA C1.out
  go_enter Tryz.func4, Tryz.ntmps4
  go_wp2_with fail
  clear c0 c1
  refine (fewst_any V.out H1).mono ?_
  rintro e w1 ⟨rfl, b1⟩
  replace V := Lib.hid (V.out.later b1)
  replace E := Lib.hid (RdS.later E.out b1)
  replace C1 := Lib.hid (C1.out.later b1)
  replace HB := Lib.hid (below2Z HB.out b1)
  clear b1
  go_wp2_with fail
  refine (events_any E.out 40 (by decide) H2).mono ?_
  rintro e w2 ⟨rfl, b2⟩
  replace V := Lib.hid (V.out.later b2)
  replace E := Lib.hid (RdS.later E.out b2)
  replace C1 := Lib.hid (C1.out.later b2)
  replace HB := Lib.hid (below2Z HB.out b2)
  clear b2
  obtain ⟨c0, c1⟩ := twoA C1.out
  go_wp2_with fail
  clear c0 c1
  refine (stall_any V.out HO.out.1 (Nat.le_trans HO.out.2 (by decide)) E.out (Nat.le_trans HE.out (by decide)) HS.out).mono ?_
  rintro e v4 ⟨x4, y4, u4x, rfl, h4, m4, b4⟩
  rw [HS9.out] at h4
  rw [HNS.out] at m4
  obtain ⟨p4, g4, rfl, -⟩ := h4.1.open'
  obtain ⟨q4, l4, rfl, -⟩ := RdS.open' h4.2
  obtain ⟨na4, nc4, rfl, -⟩ := RdS.open' m4
  have bb := below2Z b4 (bl_newZ v4 (.cells #[.slice p4 s9.e.length g4, .slice q4 s9.s.length l4] 25))
  replace V := Lib.hid (V.out.later bb)
  replace E := Lib.hid (RdS.later E.out bb)
  replace C1 := Lib.hid (C1.out.later bb)
  replace HB := Lib.hid (below2Z HB.out bb)
  have X4 := Lib.hid (h4.later (bl_newZ v4 (.cells #[.slice p4 s9.e.length g4, .slice q4 s9.s.length l4] 25)))
  have N4 := Lib.hid (RdS.later m4 (bl_newZ v4 (.cells #[.slice p4 s9.e.length g4, .slice q4 s9.s.length l4] 25)))
  have C4 := Lib.hid (cellsAt_made (w := v4) (cs := #[.slice p4 s9.e.length g4, .slice q4 s9.s.length l4]) (vs := [.slice p4 s9.e.length g4, .slice q4 s9.s.length l4]) rfl 25 rfl)
  clear bb b4 h4 m4
  go_upto_region 4 with fail
  generalize hW : v4.alloc (.cells #[.slice p4 s9.e.length g4, .slice q4 s9.s.length l4] 25) = W4 at HB V E C1 X4 N4 C4 ⊢
  generalize hP : v4.heap.size = P4 at C4 ⊢
  clear hW hP
  obtain ⟨c0, c1⟩ := twoA C1.out
  go_wp2_with fail
  clear c0 c1
  refine (rstall_any V.out HO.out.1 (Nat.le_trans HO.out.2 (by decide)) E.out (Nat.le_trans HE.out (by decide)) HS.out).mono ?_
  rintro e v5 ⟨x5, y5, u5x, rfl, h5, m5, b5⟩
  rw [HS9.out] at h5
  rw [HNS.out] at m5
  obtain ⟨p5, g5, rfl, -⟩ := h5.1.open'
  obtain ⟨q5, l5, rfl, -⟩ := RdS.open' h5.2
  obtain ⟨na5, nc5, rfl, -⟩ := RdS.open' m5
  have bb := below2Z b5 (bl_newZ v5 (.cells #[.slice p5 s9.e.length g5, .slice q5 s9.s.length l5] 25))
  replace V := Lib.hid (V.out.later bb)
  replace E := Lib.hid (RdS.later E.out bb)
  replace C1 := Lib.hid (C1.out.later bb)
  replace X4 := Lib.hid (X4.out.later bb)
  replace N4 := Lib.hid (RdS.later N4.out bb)
  replace C4 := Lib.hid (C4.out.later bb)
  replace HB := Lib.hid (below2Z HB.out bb)
  have X5 := Lib.hid (h5.later (bl_newZ v5 (.cells #[.slice p5 s9.e.length g5, .slice q5 s9.s.length l5] 25)))
  have N5 := Lib.hid (RdS.later m5 (bl_newZ v5 (.cells #[.slice p5 s9.e.length g5, .slice q5 s9.s.length l5] 25)))
  have C5 := Lib.hid (cellsAt_made (w := v5) (cs := #[.slice p5 s9.e.length g5, .slice q5 s9.s.length l5]) (vs := [.slice p5 s9.e.length g5, .slice q5 s9.s.length l5]) rfl 25 rfl)
  clear bb b5 h5 m5
  go_upto_region 5 with fail
  generalize hW : v5.alloc (.cells #[.slice p5 s9.e.length g5, .slice q5 s9.s.length l5] 25) = W5 at HB V E C1 X4 N4 C4 X5 N5 C5 ⊢
  generalize hP : v5.heap.size = P5 at C5 ⊢
  clear hW hP
  obtain ⟨c0, c1⟩ := twoA C1.out
  have hnl2 := hnl
  obtain ⟨r0, r1⟩ := twoA C4.out
  obtain ⟨r2, r3⟩ := twoA C5.out
  have t2 : ((ns.length : Int) != (ns.length : Int)) = false := by simp
  go_wp2_with fail
  clear c0 c1 r0 r1 r2 r3
  refine (rstsame_any X4.out X5.out (Lib.hid (staSame_self s9))).mono ?_
  rintro e w3 ⟨rfl, b3⟩
  replace N4 := Lib.hid (RdS.later N4.out b3)
  replace N5 := Lib.hid (RdS.later N5.out b3)
  replace HB := Lib.hid (below2Z HB.out b3)
  clear b3
  go_wp2_with fail
  go_loopw [9] (fun i wr => ∃ j : Nat, j ≤ ns.length ∧ i = .int .i64 j ∧ Hid (Below w3.heap.size w3 wr)) (fun i _ => ns.length - (intOf i).toNat)
  case atStart => exact ⟨0, by omega, rfl, Below.refl _ _⟩
  case round =>
    obtain ⟨j, hj, rfl, HN⟩ := hrel
    by_cases hlt : j < ns.length
    · obtain ⟨ba, oa, rfl, ha⟩ := Nums.at N4.out HN.out j hlt
      obtain ⟨bb, ob, rfl, hb⟩ := Nums.at N5.out HN.out j hlt
      obtain ⟨z, hz⟩ : ∃ z, ns.getD j 0 = z := ⟨_, rfl⟩
      rw [hz] at ha hb
      have t3 : (z != z) = false := by simp
      clear hz
      go_wp2_with fail
      go_region
      go_wp2_with fail
      go_roundw
      case rel => exact ⟨j + 1, by omega, by go_num, HN.out.drew⟩
      case measure => simp [intOf]; omega
    · obtain rfl : j = ns.length := by omega
      go_wp2_with fail
      refine (live14 _).mono ?_
      rintro e wl ⟨rfl, bl⟩
      go_wp2_with fail
      go_ret
      exact ⟨rfl, below2Z HB.out (below2Z HN.out bl)⟩

theorem walkStateAll {w : World} {x y v : Value} {s : Sta} (h : StAt w x y s) (_ : ∀ r ∈ s.s, SesFit r) {l : List Ev} (hv : Evs w v l) (_ : ∀ e ∈ l, evFit e) :
    Calls Tryz.prog 4 #[.agg #[x, y], v] w fun e w' => e = .returned (.bool true) ∧ Below w.heap.size w w' := by
  cases hs : fewSta s with
  | false => exact stal_1 h hv hs
  | true =>
    cases he : evsShort 40 l with
    | false => exact stal_2 h hv hs he
    | true => exact stal_3 h hv hs he

end Go.Proofs.YtdilcckoapaimaaGreat

end

section

/-
  THE FRAME OF THE PROOF OF StateAll: for every input the law returns true, and each argument reads behind the call as it read before. No condition.
-/
namespace Go.Proofs.YtdilcckoapaimaaGreat.stateAll
open Go.ChangeShapes Go.WideShapes Go.ChangeAt Go.RowKit
open Go.ChangeMaps (open_string shut_string)
set_option linter.unusedVariables false

theorem own : ownKnob Tryz.prog.godebug = none := by kernel_rfl
theorem laidOut : laidOutB Tryz.prog = true := by kernel_rfl

set_option maxRecDepth 100000 in
theorem lifted (os : Os) (started : os.Started) (H : Type) (enc : TypeId × Value → H) :
    ReturnsInHanded {} Tryz.checked os 4 .any (Rows.stateAllSpec.pre6 enc Tryz.prog Tryz.f4 Rows.stateAllRow.domain false) (Rows.stateAllSpec.post enc Tryz.prog Tryz.f4 false true false false) := by
  refine returnsInHanded_of_change (C := Tryz.checked) own started (by kernel_rfl) Tryz.func4
    (ChangeSpec.witness6 (enc := enc) (C := Tryz.checked) false ⟨#[], #[.agg #[.slice none 0 0, .slice none 0 0], .slice none 0 0], []⟩ 8 (by kernel_rfl) (by kernel_rfl) (by kernel_rfl) (by kernel_rfl)) ?_
  intro W base args ds gs before hval0 hW hcnd _
  have hval : ∀ (j : Nat) t v, Tryz.f4.params[j]? = some t → args[j]? = some v → Value.okWide Tryz.prog W .any base t v := hval0
  have hW' := hW
  obtain ⟨p, q, hA0, hV, rfl, hfz, hnd⟩ := hW
  have hA : DataW.TrodAll enc Tryz.prog W 0 (fun _ => true) true Tryz.f4.params.toList args.toList ds p := hA0
  rw [Tryz.params4] at hA hval
  obtain ⟨v0, vs0, d0, ds0, p0, q0, hargs, rfl, rfl, h0, r0⟩ := trodAll_cons hA
  obtain ⟨v1, vs1, d1, ds1, p1, q1, rfl, rfl, rfl, h1, r1⟩ := trodAll_cons r0
  obtain ⟨rfl, rfl, rfl⟩ := trodAll_nil r1
  obtain rfl : args = #[v0, v1] := by cases args; simp_all
  obtain ⟨rfl, rfl⟩ := trodVars_none hV
  have k0 := h0
  have lt0 : ∀ x ∈ p0, x.block < W.heap.size := by obtain ⟨m, hm⟩ := k0; exact DataW.trod_lt m _ _ _ hm
  obtain ⟨x0, y0, l0, rfl, w0, f0⟩ := open_sta (hval 0 25 v0 rfl rfl) h0
  have k1 := h1
  have lt1 : ∀ x ∈ p1, x.block < W.heap.size := by obtain ⟨m, hm⟩ := k1; exact DataW.trod_lt m _ _ _ hm
  obtain ⟨l1, w1, f1⟩ := open_evs (hval 1 41 v1 rfl rfl) h1
  clear hA0 hval0
  refine (walkStateAll (w := W) w0 f0 w1 f1).mono fun e W' ⟨he, bel⟩ => ?_
  subst he
  exact ⟨_, rfl, _, _, _, [], _, [], hW', trodAll_mk1 (shut_bool Tryz.underlying4 _), (trodAll_cons_mk (Below.trod laidOut (by kernel_rfl) (of_decide_eq_true (by kernel_rfl)) k0 bel lt0) (trodAll_cons_mk (Below.trod laidOut (by kernel_rfl) (of_decide_eq_true (by kernel_rfl)) k1 bel lt1) trodAll_mk0)), rfl, bel.frame _, fun h => by cases h⟩

theorem over : Rows.stateAllRow.holds Tryz.pinned (OpenSpec.ofChange Rows.stateAllSpec) :=
  OpenClaim.holds_of_wide 4 Tryz.f4 rfl rfl rfl rfl rfl rfl rfl ⟨rfl, rfl, rfl, rfl, rfl⟩ rfl rfl rfl rfl rfl (by kernel_rfl) Tryz.func4 (by kernel_rfl)
    (of_decide_eq_true (by kernel_rfl)) (by unfold Func.isWrapper; first | (rw [if_pos (by decide +kernel)]; kernel_rfl) | (rw [if_neg (by decide +kernel)]; exact ⟨rfl, rfl⟩))
    (fun os started H enc _ => lifted os started H enc)

/-- THE STATEMENT. -/
theorem proved : Rows.StateAllSaid := over
#print axioms proved
end Go.Proofs.YtdilcckoapaimaaGreat.stateAll

end
