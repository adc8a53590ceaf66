/-
  THE PROOF OF IndexTurned: for every input the law returns true, and each argument reads behind the call as it read before. No condition.
-/
import Derived.Test.YtlckphdmflofgaaA04
import Derived.Test.YtlckphdmflofgaaA05
import Derived.Deep.CutBlock
import Derived.Test.YtlckphdmflofgaaRows
import Derived.ProofKit
import Derived.OpenShut
import Derived.ShutString
import Derived.ChangeOld
import Derived.SliceStrings
import Derived.Lib.SmallJoins

section
/-
  INDEXTURNED: its walk.
-/
namespace Go.Proofs.Ytlckphdmflofgaa
open Go.RowKit Go.ChangeMaps Go.MapKept

theorem disjT1 {w w' : World} {F F' G : Nat → Prop} (hd : ∀ b, F b → ¬ G b) (ht : Turned w w' F F') (hg : ∀ b, G b → b < w.heap.size) : ∀ b, F' b → ¬ G b := by
  intro b hb hr
  rcases ht.2.2 b hb with e | e
  · exact hd b e hr
  · have := hg b hr
    omega

theorem disjT2 {w w' : World} {F G G' : Nat → Prop} (hd : ∀ b, F b → ¬ G b) (ht : Turned w w' G G') (hf : ∀ b, F b → b < w.heap.size) : ∀ b, F b → ¬ G' b := by
  intro b hb hr
  rcases ht.2.2 b hr with e | e
  · exact hd b hb e
  · have := hf b hb
    omega

/-- Two Indexes, one of which has the pairs of the other one turned about. -/
def IxPairAt (w0 w : World) (base xb yb k : Nat) : Prop := ∃ L F G, IxB w base xb (12 * k) L F ∧ IxB w base yb (12 * k) (L.map sw) G ∧ (∀ b, F b → ¬ G b) ∧ L.length ≤ k ∧ Below base w0 w

theorem ixSide_lenT (L : List Pr) (s : Bool) (u : List UInt8) : (ixSide L s u).length ≤ L.length := by
  unfold ixSide
  refine Nat.le_trans (mrg_len _) ?_
  rw [List.length_map]
  exact List.length_filter_le _ _

set_option maxHeartbeats 12800000 in
set_option maxRecDepth 100000 in
theorem walkIndexTurned {w : World} {va : Value} {l : List IOp} (h : IOps w va l) :
    Calls Try.prog 7 #[va] w fun e w' => e = .returned (.bool true) ∧ Below w.heap.size w w' := by
  have HL := Lib.hid (fun w => live13 w)
  have HF := Lib.hid (ifew_any h)
  obtain ⟨a, cap, rfl, hcap⟩ := h.open'
  have HV := Lib.hid h
  clear h
  go_enter Try.func7, Try.ntmps7
  go_wp2_with fail
  refine HF.out.mono ?_
  rintro e w0 ⟨rfl, rfl⟩
  cases hfew : fewI l with
  | false =>
    go_wp2_with fail
    refine (HL.out _).mono ?_
    rintro e w2 ⟨rfl, hb⟩
    go_wp2_with fail
    go_ret
    exact ⟨rfl, hb⟩
  | true =>
    obtain ⟨hl80, hshort⟩ := fewI_yes hfew
    have HSH := Lib.hid hshort
    clear hshort hfew HF
    go_wp2_with fail
    refine (ixb_new w).mono ?_
    rintro e w1 ⟨xb, F1, rfl, hx, hb⟩
    have HX1 := Lib.hid hx
    have HB1 := Lib.hid hb
    clear hx hb
    go_wp2_with fail
    refine (ixb_new w1).mono ?_
    rintro e w2 ⟨yb, G1, rfl, hy, hb⟩
    have H0 : Hid (IxPairAt w w2 w.heap.size xb yb 0) := by
      refine ⟨[], F1, G1, HX1.out.later hb, hy.low' HB1.out.size, fun b hf hr => ?_, Nat.le_refl _, HB1.out.trans (hb.mono HB1.out.size)⟩
      have := HX1.out.lt hf
      have := hy.low hr
      omega
    clear hy hb HX1 HB1
    go_wp2_with fail
    go_loopw [5] (fun s wr => ∃ k : Nat, k ≤ l.length ∧ s = .int .i64 k ∧ Hid (IxPairAt w wr w.heap.size xb yb k)) (fun s _ => l.length - (intOf s).toNat)
    case atStart => exact ⟨0, by omega, rfl, H0⟩
    case round =>
      obtain ⟨k, hk, rfl, HH⟩ := hrel
      by_cases hlt : k < l.length
      · obtain ⟨b, off, rfl, hbw, d, u, c, hy, hcell⟩ := HV.out.at hlt
        have hsh := HSH.out k hlt
        rw [hy] at hsh
        obtain ⟨hu, hc⟩ := hsh
        simp only at hu hc
        obtain ⟨L, HT⟩ := HH.out
        have HB0 : Hid (Below w.heap.size w wr) := by
          obtain ⟨F1, v1, X1, R1, D1, hL1, B1⟩ := HT
          exact B1
        have hLk : L.length ≤ k := by
          obtain ⟨F1, v1, X1, R1, D1, hL1, B1⟩ := HT
          exact hL1
        obtain ⟨x0, x1, x2⟩ := hcell wr HB0.out
        have HT := Lib.hid HT
        clear hy HH HB0
        go_upto_region 10 with fail
        go_region
        have y0 : wr.drew.cell? ⟨b, off + k * 3, none⟩ = some (.int .i64 d) := x0
        go_upto_if 41 with fail
        go_cut [] from 41 to 69 (fun wx => Hid (IxPairAt w wx w.heap.size xb yb (k + 1)))
        case first =>
          obtain ⟨F1, G1, X1, Y1, D1, hL1, B1⟩ := HT.out
          have HX := Lib.hid (X1.stay (w' := wr.drew) (fun _ _ => rfl))
          have HY := Lib.hid (Y1.stay (w' := wr.drew) (fun _ _ => rfl))
          have HD := Lib.hid D1
          have HBD : Hid (Below w.heap.size w wr.drew) := Lib.hid B1.drew
          clear X1 Y1 D1 B1 HT
          by_cases e3 : d = 3
          · subst e3
            go_wp2_with fail
            refine (ixb_forget HX.out (by omega) u (by omega) (by omega)).mono ?_
            rintro e w2 ⟨F2, rfl, X2, B2, T2⟩
            have Y2 := Lib.hid (HY.out.beside T2 (fun b hb hf => HD.out b hf hb))
            have D2 := Lib.hid (disjT1 HD.out T2 (fun b hb => HY.out.lt hb))
            have X3 := Lib.hid X2
            have B3 := Lib.hid (HBD.out.trans B2)
            clear X2 B2 T2 HX HY HD HBD x0 x1 x2 y0
            go_wp2_with fail
            refine (ixb_forget Y2.out (by omega) u (by omega) (by rw [List.length_map]; omega)).mono ?_
            rintro e w3 ⟨G3, rfl, Y3, B4, T4⟩
            have X4 := Lib.hid ((X3.out.beside T4 D2.out).more (show 12 * k ≤ 12 * k + 12 by omega))
            have D4 := Lib.hid (disjT2 D2.out T4 (fun b hb => X3.out.lt hb))
            have B5 := Lib.hid (B3.out.trans B4)
            have hL2 : (ixForget L u).length ≤ L.length := List.length_filter_le _ _
            rw [forget_sw] at Y3 ⊢
            rw [List.length_map, List.length_map]
            have Y4 := Lib.hid (Y3.more (show 12 * k ≤ 12 * k + 12 by omega))
            clear X3 Y2 Y3 D2 B3 B4 T4
            generalize ixForget L u = L2 at X4 Y4 D4 hL2 ⊢
            have HE : Hid (IxPairAt w w3 w.heap.size xb yb (k + 1)) := ⟨L2, _, _, (show 12 * (k + 1) = 12 * k + 12 by omega) ▸ X4.out, (show 12 * (k + 1) = 12 * k + 12 by omega) ▸ Y4.out, D4.out, by omega, B5.out⟩
            clear X4 Y4 D4 B5
            go_wp2_with fail
            go_meet
            exact HE
          · have g3 : (d == 3) = false := by simpa using e3
            by_cases e1 : d = 1
            · subst e1
              obtain ⟨⟨L2, r2⟩, hs2⟩ : ∃ p, ixSet L (u, c) false = p := ⟨_, rfl⟩
              have HS2 := Lib.hid hs2
              have HT2 := Lib.hid (set_sw hs2)
              have hL2 := ixSet_len hs2
              clear hs2
              have HXE := Lib.hid (HX.out.stay (w' := wr.drew.drew) (fun _ _ => rfl))
              have HYE := Lib.hid (HY.out.stay (w' := wr.drew.drew) (fun _ _ => rfl))
              have HBE : Hid (Below w.heap.size w wr.drew.drew) := Lib.hid HBD.out.drew
              have hmL : (L.map sw).length = L.length := List.length_map _
              have k0 : wr.drew.drew.cell? ⟨b, off + k * 3, none⟩ = some (.int .i64 1) := y0
              go_wp2_with fail
              go_region_held (fun X => X.cell? ⟨b, off + k * 3, none⟩ = some (.int .i64 1)) ((first | exact k0 | exact k1 | exact k2)) ((first | (go_at_call 12; refine (ixb_set HXE.out (by omega) u c (by omega) (by omega) (by omega) false HS2.out).mono ?_; rintro e w2 ⟨F2, rfl, X2, B2, T2⟩; have k1 := (hcell w2 (HBE.out.trans B2)).1; have Y2 := Lib.hid (HYE.out.beside T2 (fun b hb hf => HD.out b hf hb)); have D2 := Lib.hid (disjT1 HD.out T2 (fun b hb => HYE.out.lt hb)); have X3 := Lib.hid X2; have B3 := Lib.hid (HBE.out.trans B2); clear X2 B2 T2 HXE) | (go_at_call 12; refine (ixb_set Y2.out (by omega) c u (by omega) (by omega) (by omega) false HT2.out).mono ?_; rintro e w3 ⟨G3, rfl, Y3, B4, T4⟩; have k2 := (hcell w3 (B3.out.trans B4)).1)))
              have X4 := Lib.hid (X3.out.beside T4 D2.out)
              have D4 := Lib.hid (disjT2 D2.out T4 (fun b hb => X3.out.lt hb))
              have Y4 := Lib.hid Y3
              have B5 := Lib.hid (B3.out.trans B4)
              clear X3 D2 Y2 Y3 B3 B4 T4 k0 k1 k2 HYE HBE HX HY HD HBD HS2 HT2 x0 x1 x2 y0
              have HE : Hid (IxPairAt w w3 w.heap.size xb yb (k + 1)) := ⟨L2, _, _, (show 12 * (k + 1) = 12 * k + 12 by omega) ▸ X4.out, (show 12 * (k + 1) = 12 * k + 12 by omega) ▸ Y4.out, D4.out, by omega, B5.out⟩
              clear X4 Y4 D4 B5
              go_wp2_with fail
              go_meet
              exact HE
            · have g1 : (d == 1) = false := by simpa using e1
              have g2 : (d != 1) = true := by simpa using e1
              obtain ⟨⟨L2, r2⟩, hs2⟩ : ∃ p, ixSet L (u, c) true = p := ⟨_, rfl⟩
              have HS2 := Lib.hid hs2
              have HT2 := Lib.hid (set_sw hs2)
              have hL2 := ixSet_len hs2
              clear hs2
              have HXE := Lib.hid (HX.out.stay (w' := wr.drew.drew) (fun _ _ => rfl))
              have HYE := Lib.hid (HY.out.stay (w' := wr.drew.drew) (fun _ _ => rfl))
              have HBE : Hid (Below w.heap.size w wr.drew.drew) := Lib.hid HBD.out.drew
              have hmL : (L.map sw).length = L.length := List.length_map _
              have k0 : wr.drew.drew.cell? ⟨b, off + k * 3, none⟩ = some (.int .i64 d) := y0
              go_wp2_with fail
              go_region_held (fun X => X.cell? ⟨b, off + k * 3, none⟩ = some (.int .i64 d)) ((first | exact k0 | exact k1 | exact k2)) ((first | (go_at_call 12; refine (ixb_set HXE.out (by omega) u c (by omega) (by omega) (by omega) true HS2.out).mono ?_; rintro e w2 ⟨F2, rfl, X2, B2, T2⟩; have k1 := (hcell w2 (HBE.out.trans B2)).1; have Y2 := Lib.hid (HYE.out.beside T2 (fun b hb hf => HD.out b hf hb)); have D2 := Lib.hid (disjT1 HD.out T2 (fun b hb => HYE.out.lt hb)); have X3 := Lib.hid X2; have B3 := Lib.hid (HBE.out.trans B2); clear X2 B2 T2 HXE) | (go_at_call 12; refine (ixb_set Y2.out (by omega) c u (by omega) (by omega) (by omega) true HT2.out).mono ?_; rintro e w3 ⟨G3, rfl, Y3, B4, T4⟩; have k2 := (hcell w3 (B3.out.trans B4)).1)))
              have X4 := Lib.hid (X3.out.beside T4 D2.out)
              have D4 := Lib.hid (disjT2 D2.out T4 (fun b hb => X3.out.lt hb))
              have Y4 := Lib.hid Y3
              have B5 := Lib.hid (B3.out.trans B4)
              clear X3 D2 Y2 Y3 B3 B4 T4 k0 k1 k2 HYE HBE HX HY HD HBD HS2 HT2 x0 x1 x2 y0
              have HE : Hid (IxPairAt w w3 w.heap.size xb yb (k + 1)) := ⟨L2, _, _, (show 12 * (k + 1) = 12 * k + 12 by omega) ▸ X4.out, (show 12 * (k + 1) = 12 * k + 12 by omega) ▸ Y4.out, D4.out, by omega, B5.out⟩
              clear X4 Y4 D4 B5
              go_wp2_with fail
              go_meet
              exact HE

        case rest =>
          obtain ⟨L3, F1, G1, X1, Y1, D1, hL1, B1⟩ := hcut.out
          have HX := Lib.hid X1
          have HY := Lib.hid Y1
          have HD := Lib.hid D1
          have HB := Lib.hid B1
          clear X1 Y1 D1 B1 hcut HT x0 x1 x2
          have hmL : (L3.map sw).length = L3.length := List.length_map _
          go_wp2_with fail
          refine (ixb_len HX.out).mono ?_
          rintro e w11 ⟨rfl, rfl⟩
          go_wp2_with fail
          refine (ixb_len HY.out).mono ?_
          rintro e w12 ⟨rfl, rfl⟩
          rw [hmL]
          obtain ⟨q, hq⟩ : ∃ q, ixHas L3 (u, c) = q := ⟨_, rfl⟩
          have HQ := Lib.hid hq
          have HQ2 := Lib.hid ((has_sw L3 (u, c)).trans hq)
          clear hq
          go_wp2_with fail
          refine (ixb_has HX.out u c (by omega) (by omega) HQ.out).mono ?_
          rintro e w13 ⟨rfl, bz⟩
          replace HX := Lib.hid (HX.out.later bz)
          replace HY := Lib.hid (HY.out.later bz)
          replace HB := Lib.hid (HB.out.trans (bz.mono HB.out.size))
          clear bz
          go_wp2_with fail
          refine (ixb_has HY.out c u (by omega) (by omega) HQ2.out).mono ?_
          rintro e w14 ⟨rfl, bz⟩
          replace HX := Lib.hid (HX.out.later bz)
          replace HY := Lib.hid (HY.out.later bz)
          replace HB := Lib.hid (HB.out.trans (bz.mono HB.out.size))
          clear bz
          have tq : (q != q) = false := by simp
          go_wp2_with fail
          refine (ixb_watch HX.out c (by omega) (by omega) rfl).mono ?_
          rintro e w15 ⟨v1, rfl, ⟨ht, _⟩, bz⟩
          replace HX := Lib.hid (HX.out.later bz)
          replace HY := Lib.hid (HY.out.later bz)
          replace HB := Lib.hid (HB.out.trans (bz.mono HB.out.size))
          have T1 := Lib.hid ht
          clear ht
          clear bz
          go_wp2_with fail
          refine (ixb_cont HY.out c (by omega) (by omega) (side_sw L3 false c)).mono ?_
          rintro e w16 ⟨v2, rfl, ⟨ht, _⟩, bz⟩
          replace HX := Lib.hid (HX.out.later bz)
          replace HY := Lib.hid (HY.out.later bz)
          replace HB := Lib.hid (HB.out.trans (bz.mono HB.out.size))
          replace T1 := Lib.hid (T1.out.later bz)
          have T2 := Lib.hid ht
          clear ht
          clear bz
          go_wp2_with fail
          refine (same_yes T1.out T2.out (Nat.le_trans (ixSide_lenT _ _ _) (by omega))).mono ?_
          rintro e w17 ⟨rfl, bz⟩
          replace HX := Lib.hid (HX.out.later bz)
          replace HY := Lib.hid (HY.out.later bz)
          replace HB := Lib.hid (HB.out.trans (bz.mono HB.out.size))
          replace T1 := Lib.hid (T1.out.later bz)
          replace T2 := Lib.hid (T2.out.later bz)
          clear bz
          clear T1 T2
          go_wp2_with fail
          refine (ixb_cont HX.out u (by omega) (by omega) rfl).mono ?_
          rintro e w18 ⟨v1, rfl, ⟨ht, _⟩, bz⟩
          replace HX := Lib.hid (HX.out.later bz)
          replace HY := Lib.hid (HY.out.later bz)
          replace HB := Lib.hid (HB.out.trans (bz.mono HB.out.size))
          have T1 := Lib.hid ht
          clear ht
          clear bz
          go_wp2_with fail
          refine (ixb_watch HY.out u (by omega) (by omega) (side_sw L3 true u)).mono ?_
          rintro e w19 ⟨v2, rfl, ⟨ht, _⟩, bz⟩
          replace HX := Lib.hid (HX.out.later bz)
          replace HY := Lib.hid (HY.out.later bz)
          replace HB := Lib.hid (HB.out.trans (bz.mono HB.out.size))
          replace T1 := Lib.hid (T1.out.later bz)
          have T2 := Lib.hid ht
          clear ht
          clear bz
          go_wp2_with fail
          refine (same_yes T1.out T2.out (Nat.le_trans (ixSide_lenT _ _ _) (by omega))).mono ?_
          rintro e w20 ⟨rfl, bz⟩
          replace HX := Lib.hid (HX.out.later bz)
          replace HY := Lib.hid (HY.out.later bz)
          replace HB := Lib.hid (HB.out.trans (bz.mono HB.out.size))
          replace T1 := Lib.hid (T1.out.later bz)
          replace T2 := Lib.hid (T2.out.later bz)
          clear bz
          clear T1 T2
          go_wp2_with fail
          go_roundw
          case rel => exact ⟨k + 1, by omega, by go_num, Lib.hid ⟨L3, _, _, HX.out, HY.out, HD.out, hL1, HB.out⟩⟩
          case measure => simp [intOf]; omega

      · obtain rfl : k = l.length := by omega
        obtain ⟨L, F1, v1, X1, R1, D1, hL1, B1⟩ := HH.out
        have HB9 := Lib.hid B1
        clear X1 R1 D1 B1
        go_wp2_with fail
        refine (HL.out _).mono ?_
        rintro e w2 ⟨rfl, hb⟩
        go_wp2_with fail
        go_ret
        exact ⟨rfl, HB9.out.trans (hb.mono HB9.out.size)⟩

end Go.Proofs.Ytlckphdmflofgaa
end

section
/-
  THE FRAME OF THE PROOF OF IndexTurned: for every input the law returns true, and each argument reads behind the call as it read before. No condition.
-/
namespace Go.Proofs.Ytlckphdmflofgaa.indexTurned
open Go.ChangeShapes Go.WideShapes Go.ChangeAt Go.RowKit
open Go.ChangeMaps (open_string shut_string)
set_option linter.unusedVariables false

theorem own : ownKnob Try.prog.godebug = none := by kernel_rfl
theorem laidOut : laidOutB Try.prog = true := by kernel_rfl

set_option maxRecDepth 100000 in
theorem lifted (os : Os) (started : os.Started) (H : Type) (enc : TypeId × Value → H) :
    ReturnsInHanded {} Try.checked os 7 .any (Rows.indexTurnedSpec.pre6 enc Try.prog Try.f7 Rows.indexTurnedRow.domain false) (Rows.indexTurnedSpec.post enc Try.prog Try.f7 false true false false) := by
  refine returnsInHanded_of_change (C := Try.checked) own started (by kernel_rfl) Try.func7
    (ChangeSpec.witness6 (enc := enc) (C := Try.checked) false ⟨#[], #[.slice none 0 0], []⟩ 8 (by kernel_rfl) (by kernel_rfl) (by kernel_rfl) (by kernel_rfl)) ?_
  intro W base args ds gs before hval0 hW hcnd _
  have hval : ∀ (j : Nat) t v, Try.f7.params[j]? = some t → args[j]? = some v → Value.okWide Try.prog W .any base t v := hval0
  have hW' := hW
  obtain ⟨p, q, hA0, hV, rfl, hfz, hnd⟩ := hW
  have hA : DataW.TrodAll enc Try.prog W 0 (fun _ => true) true Try.f7.params.toList args.toList ds p := hA0
  rw [Try.params7] at hA hval
  obtain ⟨v0, vs0, d0, ds0, p0, q0, hargs, rfl, rfl, h0, r0⟩ := trodAll_cons hA
  obtain ⟨rfl, rfl, rfl⟩ := trodAll_nil r0
  obtain rfl : args = #[v0] := by cases args; simp_all
  obtain ⟨rfl, rfl⟩ := trodVars_none hV
  have k0 := h0
  have lt0 : ∀ x ∈ p0, x.block < W.heap.size := by obtain ⟨m, hm⟩ := k0; exact DataW.trod_lt m _ _ _ hm
  obtain ⟨l0, w0⟩ := open_iops (hval 0 22 v0 rfl rfl) h0
  clear hA0 hval0
  refine (walkIndexTurned (w := W) w0).mono fun e W' ⟨he, bel⟩ => ?_
  subst he
  exact ⟨_, rfl, _, _, _, [], _, [], hW', trodAll_mk1 (shut_bool Try.underlying4 _), (trodAll_cons_mk (Below.trod laidOut (by kernel_rfl) (of_decide_eq_true (by kernel_rfl)) k0 bel lt0) trodAll_mk0), rfl, bel.frame _, fun h => by cases h⟩

theorem over : Rows.indexTurnedRow.holds Try.pinned (OpenSpec.ofChange Rows.indexTurnedSpec) :=
  OpenClaim.holds_of_wide 7 Try.f7 rfl rfl rfl rfl rfl rfl rfl ⟨rfl, rfl, rfl, rfl, rfl⟩ rfl rfl rfl rfl rfl (by kernel_rfl) Try.func7 (by kernel_rfl)
    (of_decide_eq_true (by kernel_rfl)) (by unfold Func.isWrapper; first | (rw [if_pos (by decide +kernel)]; kernel_rfl) | (rw [if_neg (by decide +kernel)]; exact ⟨rfl, rfl⟩))
    (fun os started H enc _ => lifted os started H enc)

/-- THE STATEMENT. -/
theorem proved : Rows.IndexTurnedSaid := over
#print axioms proved
end Go.Proofs.Ytlckphdmflofgaa.indexTurned
end
