/-
  THE PROOF OF IndexScripts: for every input the law returns true, and each argument reads behind the call as it read before. No condition.
-/
import Derived.Test.YtlckphdmflofgaaA04
import Derived.Deep.CutBlock
import Derived.Test.YtlckphdmflofgaaRows
import Derived.ProofKit
import Derived.OpenShut
import Derived.ShutString
import Derived.ChangeOld
import Derived.SliceStrings
import Derived.Lib.SmallJoins

section
/-
  INDEXSCRIPTS: its walk.
-/
namespace Go.Proofs.Ytlckphdmflofgaa
open Go.RowKit Go.ChangeMaps Go.MapKept

theorem rix_cellsAt {w : World} {base kb : Nat} {v : Value} {L : List Pr} (h : Rix w base kb v L) : CellsAt w kb 0 [v] := by
  intro j u hu
  match j, hu with
  | 0, hu => rw [← Option.some.inj hu]; exact h.cell.1
  | j + 1, hu => cases hu

theorem ixb_lenB {w : World} {base xb K : Nat} {L : List Pr} {F : Nat → Prop} (h : IxB w base xb K L F) : Calls Try.prog 18 #[.pointer (some ⟨xb, 0, none⟩)] w fun e w' => e = .returned (.int .i64 L.length) ∧ Below w.heap.size w w' :=
  (ixb_len h).mono fun _ _ ⟨a, b⟩ => ⟨a, b ▸ Below.refl _ _⟩

/-- What stands behind a call: both have the pairs L. -/
def IxHere (w0 w : World) (base xb kb k : Nat) : Prop := ∃ L F v, IxB w base xb (12 * k) L F ∧ Rix w base kb v L ∧ (∀ b, F b → ¬ RixFoot kb v b) ∧ L.length ≤ k ∧ Below base w0 w

theorem ixSide_len (L : List Pr) (s : Bool) (u : List UInt8) : (ixSide L s u).length ≤ L.length := by
  unfold ixSide
  refine Nat.le_trans (mrg_len _) ?_
  rw [List.length_map]
  exact List.length_filter_le _ _

set_option maxHeartbeats 12800000 in
set_option maxRecDepth 100000 in
theorem walkIndexScripts {w : World} {va : Value} {l : List IOp} (h : IOps w va l) :
    Calls Try.prog 3 #[va] w fun e w' => e = .returned (.bool true) ∧ Below w.heap.size w w' := by
  have HL := Lib.hid (fun w => live13 w)
  have HF := Lib.hid (ifew_any h)
  obtain ⟨a, cap, rfl, hcap⟩ := h.open'
  have HV := Lib.hid h
  clear h
  go_enter Try.func3, Try.ntmps3
  go_wp2_with fail
  refine HF.out.mono ?_
  rintro e w0 ⟨rfl, rfl⟩
  cases hfew : fewI l with
  | false =>
    go_wp2_with fail
    refine (HL.out _).mono ?_
    rintro e w2 ⟨rfl, hb⟩
    go_wp2_with fail
    go_ret
    exact ⟨rfl, hb⟩
  | true =>
    obtain ⟨hl80, hshort⟩ := fewI_yes hfew
    have HSH := Lib.hid hshort
    clear hshort hfew HF
    go_wp2_with fail
    refine (ixb_new w).mono ?_
    rintro e w1 ⟨xb, F1, rfl, hx, hb⟩
    have b1 := bl_newZ w1 (.cells #[.slice none 0 0] 30)
    have H0 : Hid (IxHere w (w1.alloc (.cells #[.slice none 0 0] 30)) w.heap.size xb w1.heap.size 0) := by
      refine ⟨[], F1, .slice none 0 0, hx.later b1, ⟨hb.size, (MapKept.heap_alloc w1 _).1, ownS_nil _ _⟩, fun b hf hr => ?_, Nat.le_refl _, hb.trans (b1.mono hb.size)⟩
      rcases hr with e | e
      · have := hx.lt hf
        omega
      · cases e
    clear hx hb b1
    go_wp2_with fail
    generalize w1.alloc (.cells #[.slice none 0 0] 30) = w2 at H0 ⊢
    generalize w1.heap.size = kb at H0 ⊢
    go_loopw [5] (fun s wr => ∃ k : Nat, k ≤ l.length ∧ s = .int .i64 k ∧ Hid (IxHere w wr w.heap.size xb kb k)) (fun s _ => l.length - (intOf s).toNat)
    case atStart => exact ⟨0, by omega, rfl, H0⟩
    case round =>
      obtain ⟨k, hk, rfl, HH⟩ := hrel
      by_cases hlt : k < l.length
      · obtain ⟨b, off, rfl, hbw, d, u, c, hy, hcell⟩ := HV.out.at hlt
        have hsh := HSH.out k hlt
        rw [hy] at hsh
        obtain ⟨hu, hc⟩ := hsh
        simp only at hu hc
        obtain ⟨L, HT⟩ := HH.out
        have HB0 : Hid (Below w.heap.size w wr) := by
          obtain ⟨F1, v1, X1, R1, D1, hL1, B1⟩ := HT
          exact B1
        have hLk : L.length ≤ k := by
          obtain ⟨F1, v1, X1, R1, D1, hL1, B1⟩ := HT
          exact hL1
        obtain ⟨x0, x1, x2⟩ := hcell wr HB0.out
        have HT := Lib.hid HT
        clear hy HH HB0
        go_upto_region 10 with fail
        go_region
        go_upto_block 2 with fail
        go_cut [] from 38 to 81 (fun wx => Hid (IxHere w wx w.heap.size xb kb (k + 1)))
        case first =>
          have y0 : wr.drew.cell? ⟨b, off + k * 3, none⟩ = some (.int .i64 d) := x0
          by_cases e0 : d = 0
          · subst e0
            obtain ⟨F1, v1, X1, R1, D1, hL1, B1⟩ := HT.out
            have HXD := Lib.hid (X1.stay (w' := wr.drew) (fun _ _ => rfl))
            have HRD := Lib.hid (R1.stay (w' := wr.drew) (fun _ _ => rfl))
            have HDD := Lib.hid D1
            have HBD : Hid (Below w.heap.size w wr.drew) := Lib.hid B1.drew
            clear X1 R1 D1 B1 HT
            obtain ⟨⟨L2, r2⟩, hs2⟩ : ∃ p, ixSet L (u, c) true = p := ⟨_, rfl⟩
            have HS2 := Lib.hid hs2
            have hL2 := ixSet_len hs2
            clear hs2
            have HXE := Lib.hid (HXD.out.stay (w' := wr.drew.drew) (fun _ _ => rfl))
            have HRE := Lib.hid (HRD.out.stay (w' := wr.drew.drew) (fun _ _ => rfl))
            have HBE : Hid (Below w.heap.size w wr.drew.drew) := Lib.hid HBD.out.drew
            have k0 : wr.drew.drew.cell? ⟨b, off + k * 3, none⟩ = some (.int .i64 0) := y0
            go_wp2_with fail
            go_region_held (fun X => X.cell? ⟨b, off + k * 3, none⟩ = some (.int .i64 0)) ((first | exact k0 | exact k1 | exact k2)) ((first | (go_at_call 12; refine (ixb_set HXE.out (by omega) u c (by omega) (by omega) (by omega) true HS2.out).mono ?_; rintro e w2 ⟨F2, rfl, X2, B2, T2⟩; have k1 := (hcell w2 (HBE.out.trans B2)).1; have R2 := Lib.hid (HRE.out.stay (fun b hb => T2.2.1 b (HRE.out.foot_lt hb) (fun hf => HDD.out b hf hb))); have D2 := Lib.hid (ix_disj1 HDD.out T2 HRE.out); have X3 := Lib.hid X2; have B3 := Lib.hid (HBE.out.trans B2); clear X2 B2 T2) | (go_at_call 13; refine (rixset_any R2.out (by omega) u c true HS2.out).mono ?_; rintro e w3 ⟨v3, rfl, R3, B4, T4⟩; have k2 := (hcell w3 (B3.out.trans B4)).1)))
            have X4 := Lib.hid (X3.out.beside T4 D2.out)
            have D4 := Lib.hid (ix_disj2 D2.out T4 X3.out)
            have R4 := Lib.hid R3
            have B5 := Lib.hid (B3.out.trans B4)
            clear X3 D2 R2 R3 B3 B4 T4 k0 k1 k2 HXE HRE HBE HXD HRD HDD HBD HS2 x0 x1 x2 y0
            have HE : Hid (IxHere w w3 w.heap.size xb kb (k + 1)) := ⟨L2, _, _, (show 12 * (k + 1) = 12 * k + 12 by omega) ▸ X4.out, R4.out, D4.out, by omega, B5.out⟩
            clear X4 R4 D4 B5
            go_wp2_with fail
            go_meet
            exact HE
          · have g0 : (d == 0) = false := by simpa using e0
            by_cases e1 : d = 1
            · subst e1
              obtain ⟨F1, v1, X1, R1, D1, hL1, B1⟩ := HT.out
              have HXD := Lib.hid (X1.stay (w' := wr.drew) (fun _ _ => rfl))
              have HRD := Lib.hid (R1.stay (w' := wr.drew) (fun _ _ => rfl))
              have HDD := Lib.hid D1
              have HBD : Hid (Below w.heap.size w wr.drew) := Lib.hid B1.drew
              clear X1 R1 D1 B1 HT
              obtain ⟨⟨L2, r2⟩, hs2⟩ : ∃ p, ixSet L (u, c) false = p := ⟨_, rfl⟩
              have HS2 := Lib.hid hs2
              have hL2 := ixSet_len hs2
              clear hs2
              have HXE := Lib.hid (HXD.out.stay (w' := wr.drew.drew) (fun _ _ => rfl))
              have HRE := Lib.hid (HRD.out.stay (w' := wr.drew.drew) (fun _ _ => rfl))
              have HBE : Hid (Below w.heap.size w wr.drew.drew) := Lib.hid HBD.out.drew
              have k0 : wr.drew.drew.cell? ⟨b, off + k * 3, none⟩ = some (.int .i64 1) := y0
              go_wp2_with fail
              go_region_held (fun X => X.cell? ⟨b, off + k * 3, none⟩ = some (.int .i64 1)) ((first | exact k0 | exact k1 | exact k2)) ((first | (go_at_call 12; refine (ixb_set HXE.out (by omega) u c (by omega) (by omega) (by omega) false HS2.out).mono ?_; rintro e w2 ⟨F2, rfl, X2, B2, T2⟩; have k1 := (hcell w2 (HBE.out.trans B2)).1; have R2 := Lib.hid (HRE.out.stay (fun b hb => T2.2.1 b (HRE.out.foot_lt hb) (fun hf => HDD.out b hf hb))); have D2 := Lib.hid (ix_disj1 HDD.out T2 HRE.out); have X3 := Lib.hid X2; have B3 := Lib.hid (HBE.out.trans B2); clear X2 B2 T2) | (go_at_call 13; refine (rixset_any R2.out (by omega) u c false HS2.out).mono ?_; rintro e w3 ⟨v3, rfl, R3, B4, T4⟩; have k2 := (hcell w3 (B3.out.trans B4)).1)))
              have X4 := Lib.hid (X3.out.beside T4 D2.out)
              have D4 := Lib.hid (ix_disj2 D2.out T4 X3.out)
              have R4 := Lib.hid R3
              have B5 := Lib.hid (B3.out.trans B4)
              clear X3 D2 R2 R3 B3 B4 T4 k0 k1 k2 HXE HRE HBE HXD HRD HDD HBD HS2 x0 x1 x2 y0
              have HE : Hid (IxHere w w3 w.heap.size xb kb (k + 1)) := ⟨L2, _, _, (show 12 * (k + 1) = 12 * k + 12 by omega) ▸ X4.out, R4.out, D4.out, by omega, B5.out⟩
              clear X4 R4 D4 B5
              go_wp2_with fail
              go_meet
              exact HE
            · have g1 : (d == 1) = false := by simpa using e1
              by_cases e2 : d = 2
              · subst e2
                obtain ⟨F1, v1, X1, R1, D1, hL1, B1⟩ := HT.out
                have HXD := Lib.hid (X1.stay (w' := wr.drew) (fun _ _ => rfl))
                have HRD := Lib.hid (R1.stay (w' := wr.drew) (fun _ _ => rfl))
                have HDD := Lib.hid D1
                have HBD : Hid (Below w.heap.size w wr.drew) := Lib.hid B1.drew
                clear X1 R1 D1 B1 HT
                obtain ⟨q, hq⟩ : ∃ q, ixHas L (u, c) = q := ⟨_, rfl⟩
                have HQ := Lib.hid hq
                clear hq
                go_wp2_with fail
                refine (ixb_has HXD.out u c (by omega) (by omega) HQ.out).mono ?_
                rintro e w2 ⟨rfl, b2⟩
                have X4 := Lib.hid ((HXD.out.later b2).more (show 12 * k ≤ 12 * k + 12 by omega))
                have R4 := Lib.hid (HRD.out.later b2)
                have D4 := HDD
                have B5 : Hid (Below w.heap.size w w2) := Lib.hid (HBD.out.trans (b2.mono HBD.out.size))
                clear b2 HXD HRD HDD HBD x0 x1 x2 y0
                go_wp2_with fail
                refine (rixhas_any R4.out (by omega) u c).mono ?_
                rintro e w3 ⟨rfl, rfl⟩
                rw [HQ.out]
                have HE : Hid (IxHere w w2 w.heap.size xb kb (k + 1)) := ⟨L, _, _, (show 12 * (k + 1) = 12 * k + 12 by omega) ▸ X4.out, R4.out, D4.out, by omega, B5.out⟩
                clear X4 R4 D4 B5
                go_wp2_with fail
                go_meet
                exact HE
              · have g2 : (d == 2) = false := by simpa using e2
                by_cases e3 : d = 3
                · subst e3
                  obtain ⟨F1, v1, X1, R1, D1, hL1, B1⟩ := HT.out
                  have HXD := Lib.hid (X1.stay (w' := wr.drew) (fun _ _ => rfl))
                  have HRD := Lib.hid (R1.stay (w' := wr.drew) (fun _ _ => rfl))
                  have HDD := Lib.hid D1
                  have HBD : Hid (Below w.heap.size w wr.drew) := Lib.hid B1.drew
                  clear X1 R1 D1 B1 HT
                  go_wp2_with fail
                  refine (ixb_forget HXD.out (by omega) u (by omega) (by omega)).mono ?_
                  rintro e w2 ⟨F2, rfl, X2, B2, T2⟩
                  have R2 := Lib.hid (HRD.out.stay (fun b hb => T2.2.1 b (HRD.out.foot_lt hb) (fun hf => HDD.out b hf hb)))
                  have D2 := Lib.hid (ix_disj1 HDD.out T2 HRD.out)
                  have X3 := Lib.hid X2
                  have B3 := Lib.hid (HBD.out.trans B2)
                  clear X2 B2 T2 HXD HRD HDD HBD x0 x1 x2 y0
                  go_wp2_with fail
                  refine (rixforget_any R2.out (by omega) u).mono ?_
                  rintro e w3 ⟨v3, rfl, R3, B4, T4⟩
                  have X4 := Lib.hid ((X3.out.beside T4 D2.out).more (show 12 * k ≤ 12 * k + 12 by omega))
                  have D4 := Lib.hid (ix_disj2 D2.out T4 X3.out)
                  have R4 := Lib.hid R3
                  have B5 := Lib.hid (B3.out.trans B4)
                  have hL2 : (ixForget L u).length ≤ L.length := List.length_filter_le _ _
                  clear X3 D2 R2 R3 B3 B4 T4
                  generalize ixForget L u = L2 at X4 D4 R4 hL2
                  have HE : Hid (IxHere w w3 w.heap.size xb kb (k + 1)) := ⟨L2, _, _, (show 12 * (k + 1) = 12 * k + 12 by omega) ▸ X4.out, R4.out, D4.out, by omega, B5.out⟩
                  clear X4 R4 D4 B5
                  go_wp2_with fail
                  go_meet
                  exact HE
                · have g3 : (d == 3) = false := by simpa using e3
                  obtain ⟨F1, v1, X1, R1, D1, hL1, B1⟩ := HT.out
                  have HXD := Lib.hid (X1.stay (w' := wr.drew) (fun _ _ => rfl))
                  have HRD := Lib.hid (R1.stay (w' := wr.drew) (fun _ _ => rfl))
                  have HDD := Lib.hid D1
                  have HBD : Hid (Below w.heap.size w wr.drew) := Lib.hid B1.drew
                  clear X1 R1 D1 B1 HT
                  have X4 := Lib.hid (HXD.out.more (show 12 * k ≤ 12 * k + 12 by omega))
                  have R4 := HRD
                  have D4 := HDD
                  have B5 := HBD
                  clear HXD HRD HDD HBD
                  have HE : Hid (IxHere w wr.drew w.heap.size xb kb (k + 1)) := ⟨L, _, _, (show 12 * (k + 1) = 12 * k + 12 by omega) ▸ X4.out, R4.out, D4.out, by omega, B5.out⟩
                  clear X4 R4 D4 B5
                  go_wp2_with fail
                  go_meet
                  exact HE

        case rest =>
          obtain ⟨L3, F1, v1, X1, R1, D1, hL1, B1⟩ := hcut.out
          obtain ⟨av, cv, rfl⟩ := rix_shape R1
          have HX0 := Lib.hid X1
          have R0 := Lib.hid R1
          have HD := Lib.hid D1
          have HB := Lib.hid B1
          clear X1 R1 D1 B1 hcut HT x0 x1 x2
          go_wp2_with fail
          obtain ⟨BS, hBS⟩ : ∃ BS : List (Nat × List Value), BS = [(kb, [.slice av L3.length cv])] := ⟨_, rfl⟩
          have D0 := Lib.hid (show heldB wc BS from by rw [hBS]; exact heldB_cons (rix_cellsAt R0.out) (heldB_nil _))
          have hq0 : ∀ X, heldB X BS → X.cell? ⟨kb, 0, none⟩ = some (.slice av L3.length cv) := fun X hx => heldB_get (vs := [.slice av L3.length cv]) hx (by rw [hBS]; simp) rfl
          clear hBS
          have HX := Lib.hid (HX0.out.stay (w' := wc.drew) (fun _ _ => rfl))
          have HR := Lib.hid (R0.out.stay (w' := wc.drew) (fun _ _ => rfl))
          have K0 : Hid (Below wc.heap.size wc wc.drew) := Lib.hid (Below.refl _ _).drew
          refine wp_region_held_drew (S := (fun X => heldB X BS)) (by kernel_rfl) ?_ (fun hHeld => ?_)
          · exact heldB_up K0.out D0.out
          generalize wc.drew = z0 at K0 HX HR hHeld ⊢
          refine wpAnyH_take (i := 0) (oi := { dst := some 82, op := Op.move (Operand.tmp 3), type := 25, pos := "law.go:77", after := #[], guard := none }) (v := ?_) rfl (by as_aux_lemma => kernel_rfl) (by as_aux_lemma => kernel_rfl) (by as_aux_lemma => kernel_rfl) (fun _ _ _ h => h) (Or.inl ⟨by rfl, ?_⟩) (by assumption) ?_
          rotate_left
          · intro w' hSw
            try dsimp only at hSw
            go_simp
            try with_reducible rfl
          try simp only [Act.put, List.setIfInBounds_toArray, List.set_cons_zero, List.set_cons_succ]
          refine wpAnyH_take (i := 2) (oi := { dst := some 84, op := Op.move (Operand.tmp 4), type := 27, pos := "law.go:77", after := #[], guard := none }) (v := ?_) rfl (by as_aux_lemma => kernel_rfl) (by as_aux_lemma => kernel_rfl) (by as_aux_lemma => kernel_rfl) (fun _ _ _ h => h) (Or.inl ⟨by rfl, ?_⟩) (by assumption) ?_
          rotate_left
          · intro w' hSw
            try dsimp only at hSw
            go_simp
            try with_reducible rfl
          try simp only [Act.put, List.setIfInBounds_toArray, List.set_cons_zero, List.set_cons_succ]
          refine wpAnyH_take (i := 3) (oi := { dst := some 85, op := Op.nilCheck (Operand.tmp 84), type := 0, pos := "law.go:77", after := #[{ on := 2, ground := Ground.data }], guard := none }) (v := ?_) rfl (by as_aux_lemma => kernel_rfl) (by as_aux_lemma => kernel_rfl) (by as_aux_lemma => kernel_rfl) (fun _ _ _ h => h) (Or.inl ⟨by rfl, ?_⟩) (by assumption) ?_
          rotate_left
          · intro w' hSw
            try dsimp only at hSw
            go_simp
            try with_reducible rfl
          try simp only [Act.put, List.setIfInBounds_toArray, List.set_cons_zero, List.set_cons_succ]
          refine wpAnyH_take (i := 4) (oi := { dst := some 86, op := Op.fieldAddr 30 (Operand.tmp 85) 0, type := 0, pos := "law.go:77", after := #[{ on := 3, ground := Ground.data }], guard := none }) (v := ?_) rfl (by as_aux_lemma => kernel_rfl) (by as_aux_lemma => kernel_rfl) (by as_aux_lemma => kernel_rfl) (fun _ _ _ h => h) (Or.inl ⟨by rfl, ?_⟩) (by assumption) ?_
          rotate_left
          · intro w' hSw
            try dsimp only at hSw
            go_simp
            try with_reducible rfl
          try simp only [Act.put, List.setIfInBounds_toArray, List.set_cons_zero, List.set_cons_succ]
          refine wpAnyH_take (i := 5) (oi := { dst := some 87, op := Op.load 28 (Operand.tmp 86), type := 28, pos := "law.go:77", after := #[{ on := 4, ground := Ground.data }], guard := none }) (v := ?_) rfl (by as_aux_lemma => kernel_rfl) (by as_aux_lemma => kernel_rfl) (by as_aux_lemma => kernel_rfl) (fun _ _ _ h => h) (Or.inl ⟨by rfl, ?_⟩) (by assumption) ?_
          rotate_left
          · intro w' hSw
            try dsimp only at hSw
            go_simp
            try with_reducible rfl
          try simp only [Act.put, List.setIfInBounds_toArray, List.set_cons_zero, List.set_cons_succ]
          refine wpAnyH_take (i := 6) (oi := { dst := some 88, op := Op.call { callee := Callee.builtin Builtin.len, args := #[Operand.tmp 87], argTypes := #[28] }, type := 3, pos := "law.go:77", after := #[{ on := 5, ground := Ground.data }], guard := none }) (v := ?_) rfl (by as_aux_lemma => kernel_rfl) (by as_aux_lemma => kernel_rfl) (by as_aux_lemma => kernel_rfl) (fun _ _ _ h => h) (Or.inl ⟨by rfl, ?_⟩) (by assumption) ?_
          rotate_left
          · intro w' hSw
            try dsimp only at hSw
            go_simp
            try with_reducible rfl
          try simp only [Act.put, List.setIfInBounds_toArray, List.set_cons_zero, List.set_cons_succ]
          refine wpAnyH_ready (rs := [1]) (by as_aux_lemma => kernel_rfl) (by simp) ?_
          refine AllReadyH.cons (o := { dst := some 83, op := Op.call { callee := Callee.value (Operand.func 18), args := #[Operand.tmp 82], argTypes := #[25] }, type := 3, pos := "law.go:77", after := #[{ on := 0, ground := Ground.data }], guard := none }) rfl (fun Kx hK => ?_) AllReadyH.nil
          go_simp
          refine (ixb_lenB HX.out).mono ?_
          rintro e z1 ⟨rfl, bz1⟩
          have K1 := Lib.hid (below2Z K0.out bz1)
          have D1 := Lib.hid (heldB_up K1.out D0.out)
          replace HX := Lib.hid ((HX.out).later bz1)
          replace HR := Lib.hid ((HR.out).later bz1)
          clear bz1
          go_wp2_with fail
          refine hK.out _ _ ?_ (fun hHeld2 => ?_)
          · exact D1.out
          clear hK Kx hHeld
          have hHeld := hHeld2
          clear hHeld2
          try simp only [Act.put, List.setIfInBounds_toArray, List.set_cons_zero, List.set_cons_succ]
          refine wpAnyH_take (i := 7) (oi := { dst := some 89, op := Op.binOp BinOp.neq 3 (Operand.tmp 83) (Operand.tmp 88) 3, type := 4, pos := "law.go:77", after := #[{ on := 1, ground := Ground.data }, { on := 6, ground := Ground.data }], guard := none }) (v := ?_) rfl (by as_aux_lemma => kernel_rfl) (by as_aux_lemma => kernel_rfl) (by as_aux_lemma => kernel_rfl) (fun _ _ _ h => h) (Or.inl ⟨by rfl, ?_⟩) (by assumption) ?_
          rotate_left
          · intro w' hSw
            try dsimp only at hSw
            go_simp
            try with_reducible rfl
          try simp only [Act.put, List.setIfInBounds_toArray, List.set_cons_zero, List.set_cons_succ]
          refine wpAnyH_take (i := 8) (oi := { dst := some 90, op := Op.move (Operand.tmp 89), type := 4, pos := "law.go:77", after := #[{ on := 7, ground := Ground.data }, { on := 1, ground := Ground.chain }], guard := none }) (v := ?_) rfl (by as_aux_lemma => kernel_rfl) (by as_aux_lemma => kernel_rfl) (by as_aux_lemma => kernel_rfl) (fun _ _ _ h => h) (Or.inl ⟨by rfl, ?_⟩) (by assumption) ?_
          rotate_left
          · intro w' hSw
            try dsimp only at hSw
            go_simp
            try with_reducible rfl
          try simp only [Act.put, List.setIfInBounds_toArray, List.set_cons_zero, List.set_cons_succ]
          refine wpAnyH_take (i := 9) (oi := { dst := some 91, op := Op.move (Operand.tmp 3), type := 25, pos := "law.go:77", after := #[{ on := 8, ground := Ground.guard }], guard := some (8, false) }) (v := ?_) rfl (by as_aux_lemma => kernel_rfl) (by as_aux_lemma => kernel_rfl) (by as_aux_lemma => kernel_rfl) (fun _ _ _ h => h) (Or.inl ⟨by rfl, ?_⟩) (by assumption) ?_
          rotate_left
          · intro w' hSw
            try dsimp only at hSw
            go_simp
            try with_reducible rfl
          try simp only [Act.put, List.setIfInBounds_toArray, List.set_cons_zero, List.set_cons_succ]
          refine wpAnyH_take (i := 10) (oi := { dst := some 92, op := Op.move (Operand.tmp 7), type := 9, pos := "law.go:77", after := #[{ on := 8, ground := Ground.guard }], guard := some (8, false) }) (v := ?_) rfl (by as_aux_lemma => kernel_rfl) (by as_aux_lemma => kernel_rfl) (by as_aux_lemma => kernel_rfl) (fun _ _ _ h => h) (Or.inl ⟨by rfl, ?_⟩) (by assumption) ?_
          rotate_left
          · intro w' hSw
            try dsimp only at hSw
            go_simp
            try with_reducible rfl
          try simp only [Act.put, List.setIfInBounds_toArray, List.set_cons_zero, List.set_cons_succ]
          refine wpAnyH_take (i := 12) (oi := { dst := some 94, op := Op.move (Operand.tmp 4), type := 27, pos := "law.go:77", after := #[{ on := 8, ground := Ground.guard }], guard := some (8, false) }) (v := ?_) rfl (by as_aux_lemma => kernel_rfl) (by as_aux_lemma => kernel_rfl) (by as_aux_lemma => kernel_rfl) (fun _ _ _ h => h) (Or.inl ⟨by rfl, ?_⟩) (by assumption) ?_
          rotate_left
          · intro w' hSw
            try dsimp only at hSw
            go_simp
            try with_reducible rfl
          try simp only [Act.put, List.setIfInBounds_toArray, List.set_cons_zero, List.set_cons_succ]
          refine wpAnyH_take (i := 13) (oi := { dst := some 95, op := Op.move (Operand.tmp 7), type := 9, pos := "law.go:77", after := #[{ on := 8, ground := Ground.guard }], guard := some (8, false) }) (v := ?_) rfl (by as_aux_lemma => kernel_rfl) (by as_aux_lemma => kernel_rfl) (by as_aux_lemma => kernel_rfl) (fun _ _ _ h => h) (Or.inl ⟨by rfl, ?_⟩) (by assumption) ?_
          rotate_left
          · intro w' hSw
            try dsimp only at hSw
            go_simp
            try with_reducible rfl
          try simp only [Act.put, List.setIfInBounds_toArray, List.set_cons_zero, List.set_cons_succ]
          refine wpAnyH_ready (rs := [11]) (by as_aux_lemma => kernel_rfl) (by simp) ?_
          refine AllReadyH.cons (o := { dst := some 93, op := Op.call { callee := Callee.value (Operand.func 20), args := #[Operand.tmp 91, Operand.tmp 92], argTypes := #[25, 9] }, type := 38, pos := "law.go:77", after := #[{ on := 9, ground := Ground.data }, { on := 10, ground := Ground.data }, { on := 8, ground := Ground.chain }, { on := 8, ground := Ground.guard }], guard := some (8, false) }) rfl (fun Kx hK => ?_) AllReadyH.nil
          go_simp
          refine (ixb_watch HX.out c (by omega) (by omega) rfl).mono ?_
          rintro e z2 ⟨vp, rfl, ⟨ht, _⟩, bz2⟩
          have K2 := Lib.hid (below2Z K1.out bz2)
          have D2 := Lib.hid (heldB_up K2.out D0.out)
          replace HX := Lib.hid ((HX.out).later bz2)
          replace HR := Lib.hid ((HR.out).later bz2)
          have Tp := Lib.hid ht
          clear ht
          clear bz2
          go_wp2_with fail
          refine hK.out _ _ ?_ (fun hHeld2 => ?_)
          · exact D2.out
          clear hK Kx hHeld
          have hHeld := hHeld2
          clear hHeld2
          try simp only [Act.put, List.setIfInBounds_toArray, List.set_cons_zero, List.set_cons_succ]
          refine wpAnyH_ready (rs := [14]) (by as_aux_lemma => kernel_rfl) (by simp) ?_
          refine AllReadyH.cons (o := { dst := some 96, op := Op.call { callee := Callee.value (Operand.func 21), args := #[Operand.tmp 94, Operand.tmp 95], argTypes := #[27, 9] }, type := 38, pos := "law.go:77", after := #[{ on := 12, ground := Ground.data }, { on := 13, ground := Ground.data }, { on := 11, ground := Ground.chain }, { on := 8, ground := Ground.guard }], guard := some (8, false) }) rfl (fun Kx hK => ?_) AllReadyH.nil
          go_simp
          refine (rixwatch_any HR.out (by omega) c).mono ?_
          rintro e z3 ⟨up, rfl, ht, bz3⟩
          have K3 := Lib.hid (below2Z K2.out bz3)
          have D3 := Lib.hid (heldB_up K3.out D0.out)
          replace HX := Lib.hid ((HX.out).later bz3)
          replace HR := Lib.hid ((HR.out).later bz3)
          replace Tp := Lib.hid ((Tp.out).later bz3)
          have Sp := Lib.hid ht
          clear ht
          clear bz3
          go_wp2_with fail
          refine hK.out _ _ ?_ (fun hHeld2 => ?_)
          · exact D3.out
          clear hK Kx hHeld
          have hHeld := hHeld2
          clear hHeld2
          try simp only [Act.put, List.setIfInBounds_toArray, List.set_cons_zero, List.set_cons_succ]
          refine wpAnyH_ready (rs := [15]) (by as_aux_lemma => kernel_rfl) (by simp) ?_
          refine AllReadyH.cons (o := { dst := some 97, op := Op.call { callee := Callee.value (Operand.func 19), args := #[Operand.tmp 93, Operand.tmp 96], argTypes := #[38, 38] }, type := 4, pos := "law.go:77", after := #[{ on := 11, ground := Ground.data }, { on := 14, ground := Ground.data }, { on := 14, ground := Ground.chain }, { on := 8, ground := Ground.guard }], guard := some (8, false) }) rfl (fun Kx hK => ?_) AllReadyH.nil
          go_simp
          refine (same_yes Tp.out Sp.out (Nat.le_trans (ixSide_len _ _ _) (by omega))).mono ?_
          rintro e z4 ⟨rfl, bz4⟩
          have K4 := Lib.hid (below2Z K3.out bz4)
          have D4 := Lib.hid (heldB_up K4.out D0.out)
          replace HX := Lib.hid ((HX.out).later bz4)
          replace HR := Lib.hid ((HR.out).later bz4)
          clear Tp Sp
          clear bz4
          go_wp2_with fail
          refine hK.out _ _ ?_ (fun hHeld2 => ?_)
          · exact D4.out
          clear hK Kx hHeld
          have hHeld := hHeld2
          clear hHeld2
          try simp only [Act.put, List.setIfInBounds_toArray, List.set_cons_zero, List.set_cons_succ]
          refine wpAnyH_take (i := 16) (oi := { dst := some 98, op := Op.unOp UnOp.not 4 (Operand.tmp 97), type := 4, pos := "law.go:77", after := #[{ on := 15, ground := Ground.data }, { on := 8, ground := Ground.guard }], guard := some (8, false) }) (v := ?_) rfl (by as_aux_lemma => kernel_rfl) (by as_aux_lemma => kernel_rfl) (by as_aux_lemma => kernel_rfl) (fun _ _ _ h => h) (Or.inl ⟨by rfl, ?_⟩) (by assumption) ?_
          rotate_left
          · intro w' hSw
            try dsimp only at hSw
            go_simp
            try with_reducible rfl
          try simp only [Act.put, List.setIfInBounds_toArray, List.set_cons_zero, List.set_cons_succ]
          refine wpAnyH_take (i := 17) (oi := { dst := some 99, op := Op.pick (Operand.tmp 90) (Operand.const (Value.bool true)) (Operand.tmp 98), type := 4, pos := "law.go:77", after := #[{ on := 8, ground := Ground.data }, { on := 16, ground := Ground.data }], guard := none }) (v := ?_) rfl (by as_aux_lemma => kernel_rfl) (by as_aux_lemma => kernel_rfl) (by as_aux_lemma => kernel_rfl) (fun _ _ _ h => h) (Or.inl ⟨by rfl, ?_⟩) (by assumption) ?_
          rotate_left
          · intro w' hSw
            try dsimp only at hSw
            go_simp
            try with_reducible rfl
          try simp only [Act.put, List.setIfInBounds_toArray, List.set_cons_zero, List.set_cons_succ]
          refine wpAnyH_take (i := 18) (oi := { dst := some 100, op := Op.move (Operand.tmp 99), type := 4, pos := "law.go:77", after := #[{ on := 17, ground := Ground.data }, { on := 15, ground := Ground.chain }], guard := none }) (v := ?_) rfl (by as_aux_lemma => kernel_rfl) (by as_aux_lemma => kernel_rfl) (by as_aux_lemma => kernel_rfl) (fun _ _ _ h => h) (Or.inl ⟨by rfl, ?_⟩) (by assumption) ?_
          rotate_left
          · intro w' hSw
            try dsimp only at hSw
            go_simp
            try with_reducible rfl
          try simp only [Act.put, List.setIfInBounds_toArray, List.set_cons_zero, List.set_cons_succ]
          refine wpAnyH_take (i := 19) (oi := { dst := some 101, op := Op.move (Operand.tmp 3), type := 25, pos := "law.go:77", after := #[{ on := 18, ground := Ground.guard }], guard := some (18, false) }) (v := ?_) rfl (by as_aux_lemma => kernel_rfl) (by as_aux_lemma => kernel_rfl) (by as_aux_lemma => kernel_rfl) (fun _ _ _ h => h) (Or.inl ⟨by rfl, ?_⟩) (by assumption) ?_
          rotate_left
          · intro w' hSw
            try dsimp only at hSw
            go_simp
            try with_reducible rfl
          try simp only [Act.put, List.setIfInBounds_toArray, List.set_cons_zero, List.set_cons_succ]
          refine wpAnyH_take (i := 20) (oi := { dst := some 102, op := Op.move (Operand.tmp 6), type := 9, pos := "law.go:77", after := #[{ on := 18, ground := Ground.guard }], guard := some (18, false) }) (v := ?_) rfl (by as_aux_lemma => kernel_rfl) (by as_aux_lemma => kernel_rfl) (by as_aux_lemma => kernel_rfl) (fun _ _ _ h => h) (Or.inl ⟨by rfl, ?_⟩) (by assumption) ?_
          rotate_left
          · intro w' hSw
            try dsimp only at hSw
            go_simp
            try with_reducible rfl
          try simp only [Act.put, List.setIfInBounds_toArray, List.set_cons_zero, List.set_cons_succ]
          refine wpAnyH_take (i := 22) (oi := { dst := some 104, op := Op.move (Operand.tmp 4), type := 27, pos := "law.go:77", after := #[{ on := 18, ground := Ground.guard }], guard := some (18, false) }) (v := ?_) rfl (by as_aux_lemma => kernel_rfl) (by as_aux_lemma => kernel_rfl) (by as_aux_lemma => kernel_rfl) (fun _ _ _ h => h) (Or.inl ⟨by rfl, ?_⟩) (by assumption) ?_
          rotate_left
          · intro w' hSw
            try dsimp only at hSw
            go_simp
            try with_reducible rfl
          try simp only [Act.put, List.setIfInBounds_toArray, List.set_cons_zero, List.set_cons_succ]
          refine wpAnyH_take (i := 23) (oi := { dst := some 105, op := Op.move (Operand.tmp 6), type := 9, pos := "law.go:77", after := #[{ on := 18, ground := Ground.guard }], guard := some (18, false) }) (v := ?_) rfl (by as_aux_lemma => kernel_rfl) (by as_aux_lemma => kernel_rfl) (by as_aux_lemma => kernel_rfl) (fun _ _ _ h => h) (Or.inl ⟨by rfl, ?_⟩) (by assumption) ?_
          rotate_left
          · intro w' hSw
            try dsimp only at hSw
            go_simp
            try with_reducible rfl
          try simp only [Act.put, List.setIfInBounds_toArray, List.set_cons_zero, List.set_cons_succ]
          refine wpAnyH_ready (rs := [21]) (by as_aux_lemma => kernel_rfl) (by simp) ?_
          refine AllReadyH.cons (o := { dst := some 103, op := Op.call { callee := Callee.value (Operand.func 22), args := #[Operand.tmp 101, Operand.tmp 102], argTypes := #[25, 9] }, type := 38, pos := "law.go:77", after := #[{ on := 19, ground := Ground.data }, { on := 20, ground := Ground.data }, { on := 18, ground := Ground.chain }, { on := 18, ground := Ground.guard }], guard := some (18, false) }) rfl (fun Kx hK => ?_) AllReadyH.nil
          go_simp
          refine (ixb_cont HX.out u (by omega) (by omega) rfl).mono ?_
          rintro e z5 ⟨vq, rfl, ⟨ht, _⟩, bz5⟩
          have K5 := Lib.hid (below2Z K4.out bz5)
          have D5 := Lib.hid (heldB_up K5.out D0.out)
          replace HX := Lib.hid ((HX.out).later bz5)
          replace HR := Lib.hid ((HR.out).later bz5)
          have Tq := Lib.hid ht
          clear ht
          clear bz5
          go_wp2_with fail
          refine hK.out _ _ ?_ (fun hHeld2 => ?_)
          · exact D5.out
          clear hK Kx hHeld
          have hHeld := hHeld2
          clear hHeld2
          try simp only [Act.put, List.setIfInBounds_toArray, List.set_cons_zero, List.set_cons_succ]
          refine wpAnyH_ready (rs := [24]) (by as_aux_lemma => kernel_rfl) (by simp) ?_
          refine AllReadyH.cons (o := { dst := some 106, op := Op.call { callee := Callee.value (Operand.func 23), args := #[Operand.tmp 104, Operand.tmp 105], argTypes := #[27, 9] }, type := 38, pos := "law.go:77", after := #[{ on := 22, ground := Ground.data }, { on := 23, ground := Ground.data }, { on := 21, ground := Ground.chain }, { on := 18, ground := Ground.guard }], guard := some (18, false) }) rfl (fun Kx hK => ?_) AllReadyH.nil
          go_simp
          refine (rixcont_any HR.out (by omega) u).mono ?_
          rintro e z6 ⟨uq, rfl, ht, bz6⟩
          have K6 := Lib.hid (below2Z K5.out bz6)
          have D6 := Lib.hid (heldB_up K6.out D0.out)
          replace HX := Lib.hid ((HX.out).later bz6)
          replace HR := Lib.hid ((HR.out).later bz6)
          replace Tq := Lib.hid ((Tq.out).later bz6)
          have Sq := Lib.hid ht
          clear ht
          clear bz6
          go_wp2_with fail
          refine hK.out _ _ ?_ (fun hHeld2 => ?_)
          · exact D6.out
          clear hK Kx hHeld
          have hHeld := hHeld2
          clear hHeld2
          try simp only [Act.put, List.setIfInBounds_toArray, List.set_cons_zero, List.set_cons_succ]
          refine wpAnyH_ready (rs := [25]) (by as_aux_lemma => kernel_rfl) (by simp) ?_
          refine AllReadyH.cons (o := { dst := some 107, op := Op.call { callee := Callee.value (Operand.func 19), args := #[Operand.tmp 103, Operand.tmp 106], argTypes := #[38, 38] }, type := 4, pos := "law.go:77", after := #[{ on := 21, ground := Ground.data }, { on := 24, ground := Ground.data }, { on := 24, ground := Ground.chain }, { on := 18, ground := Ground.guard }], guard := some (18, false) }) rfl (fun Kx hK => ?_) AllReadyH.nil
          go_simp
          refine (same_yes Tq.out Sq.out (Nat.le_trans (ixSide_len _ _ _) (by omega))).mono ?_
          rintro e z7 ⟨rfl, bz7⟩
          have K7 := Lib.hid (below2Z K6.out bz7)
          have D7 := Lib.hid (heldB_up K7.out D0.out)
          replace HX := Lib.hid ((HX.out).later bz7)
          replace HR := Lib.hid ((HR.out).later bz7)
          clear Tq Sq
          clear bz7
          go_wp2_with fail
          refine hK.out _ _ ?_ (fun hHeld2 => ?_)
          · exact D7.out
          clear hK Kx hHeld
          have hHeld := hHeld2
          clear hHeld2
          try simp only [Act.put, List.setIfInBounds_toArray, List.set_cons_zero, List.set_cons_succ]
          refine wpAnyH_take (i := 26) (oi := { dst := some 108, op := Op.unOp UnOp.not 4 (Operand.tmp 107), type := 4, pos := "law.go:77", after := #[{ on := 25, ground := Ground.data }, { on := 18, ground := Ground.guard }], guard := some (18, false) }) (v := ?_) rfl (by as_aux_lemma => kernel_rfl) (by as_aux_lemma => kernel_rfl) (by as_aux_lemma => kernel_rfl) (fun _ _ _ h => h) (Or.inl ⟨by rfl, ?_⟩) (by assumption) ?_
          rotate_left
          · intro w' hSw
            try dsimp only at hSw
            go_simp
            try with_reducible rfl
          try simp only [Act.put, List.setIfInBounds_toArray, List.set_cons_zero, List.set_cons_succ]
          refine wpAnyH_take (i := 27) (oi := { dst := some 109, op := Op.pick (Operand.tmp 100) (Operand.const (Value.bool true)) (Operand.tmp 108), type := 4, pos := "law.go:77", after := #[{ on := 18, ground := Ground.data }, { on := 26, ground := Ground.data }], guard := none }) (v := ?_) rfl (by as_aux_lemma => kernel_rfl) (by as_aux_lemma => kernel_rfl) (by as_aux_lemma => kernel_rfl) (fun _ _ _ h => h) (Or.inl ⟨by rfl, ?_⟩) (by assumption) ?_
          rotate_left
          · intro w' hSw
            try dsimp only at hSw
            go_simp
            try with_reducible rfl
          try simp only [Act.put, List.setIfInBounds_toArray, List.set_cons_zero, List.set_cons_succ]
          refine wpAnyH_take (i := 28) (oi := { dst := some 110, op := Op.move (Operand.tmp 109), type := 4, pos := "law.go:77", after := #[{ on := 27, ground := Ground.data }, { on := 25, ground := Ground.chain }], guard := none }) (v := ?_) rfl (by as_aux_lemma => kernel_rfl) (by as_aux_lemma => kernel_rfl) (by as_aux_lemma => kernel_rfl) (fun _ _ _ h => h) (Or.inl ⟨by rfl, ?_⟩) (by assumption) ?_
          rotate_left
          · intro w' hSw
            try dsimp only at hSw
            go_simp
            try with_reducible rfl
          try simp only [Act.put, List.setIfInBounds_toArray, List.set_cons_zero, List.set_cons_succ]
          refine wpAnyH_take (i := 29) (oi := { dst := some 111, op := Op.move (Operand.tmp 3), type := 25, pos := "law.go:77", after := #[{ on := 28, ground := Ground.guard }], guard := some (28, false) }) (v := ?_) rfl (by as_aux_lemma => kernel_rfl) (by as_aux_lemma => kernel_rfl) (by as_aux_lemma => kernel_rfl) (fun _ _ _ h => h) (Or.inl ⟨by rfl, ?_⟩) (by assumption) ?_
          rotate_left
          · intro w' hSw
            try dsimp only at hSw
            go_simp
            try with_reducible rfl
          try simp only [Act.put, List.setIfInBounds_toArray, List.set_cons_zero, List.set_cons_succ]
          refine wpAnyH_take (i := 30) (oi := { dst := some 112, op := Op.move (Operand.tmp 6), type := 9, pos := "law.go:77", after := #[{ on := 28, ground := Ground.guard }], guard := some (28, false) }) (v := ?_) rfl (by as_aux_lemma => kernel_rfl) (by as_aux_lemma => kernel_rfl) (by as_aux_lemma => kernel_rfl) (fun _ _ _ h => h) (Or.inl ⟨by rfl, ?_⟩) (by assumption) ?_
          rotate_left
          · intro w' hSw
            try dsimp only at hSw
            go_simp
            try with_reducible rfl
          try simp only [Act.put, List.setIfInBounds_toArray, List.set_cons_zero, List.set_cons_succ]
          refine wpAnyH_take (i := 32) (oi := { dst := some 114, op := Op.move (Operand.tmp 4), type := 27, pos := "law.go:77", after := #[{ on := 28, ground := Ground.guard }], guard := some (28, false) }) (v := ?_) rfl (by as_aux_lemma => kernel_rfl) (by as_aux_lemma => kernel_rfl) (by as_aux_lemma => kernel_rfl) (fun _ _ _ h => h) (Or.inl ⟨by rfl, ?_⟩) (by assumption) ?_
          rotate_left
          · intro w' hSw
            try dsimp only at hSw
            go_simp
            try with_reducible rfl
          try simp only [Act.put, List.setIfInBounds_toArray, List.set_cons_zero, List.set_cons_succ]
          refine wpAnyH_take (i := 33) (oi := { dst := some 115, op := Op.move (Operand.tmp 6), type := 9, pos := "law.go:77", after := #[{ on := 28, ground := Ground.guard }], guard := some (28, false) }) (v := ?_) rfl (by as_aux_lemma => kernel_rfl) (by as_aux_lemma => kernel_rfl) (by as_aux_lemma => kernel_rfl) (fun _ _ _ h => h) (Or.inl ⟨by rfl, ?_⟩) (by assumption) ?_
          rotate_left
          · intro w' hSw
            try dsimp only at hSw
            go_simp
            try with_reducible rfl
          try simp only [Act.put, List.setIfInBounds_toArray, List.set_cons_zero, List.set_cons_succ]
          refine wpAnyH_ready (rs := [31]) (by as_aux_lemma => kernel_rfl) (by simp) ?_
          refine AllReadyH.cons (o := { dst := some 113, op := Op.call { callee := Callee.value (Operand.func 20), args := #[Operand.tmp 111, Operand.tmp 112], argTypes := #[25, 9] }, type := 38, pos := "law.go:77", after := #[{ on := 29, ground := Ground.data }, { on := 30, ground := Ground.data }, { on := 28, ground := Ground.chain }, { on := 28, ground := Ground.guard }], guard := some (28, false) }) rfl (fun Kx hK => ?_) AllReadyH.nil
          go_simp
          refine (ixb_watch HX.out u (by omega) (by omega) rfl).mono ?_
          rintro e z8 ⟨vs, rfl, ⟨ht, _⟩, bz8⟩
          have K8 := Lib.hid (below2Z K7.out bz8)
          have D8 := Lib.hid (heldB_up K8.out D0.out)
          replace HX := Lib.hid ((HX.out).later bz8)
          replace HR := Lib.hid ((HR.out).later bz8)
          have Ts := Lib.hid ht
          clear ht
          clear bz8
          go_wp2_with fail
          refine hK.out _ _ ?_ (fun hHeld2 => ?_)
          · exact D8.out
          clear hK Kx hHeld
          have hHeld := hHeld2
          clear hHeld2
          try simp only [Act.put, List.setIfInBounds_toArray, List.set_cons_zero, List.set_cons_succ]
          refine wpAnyH_ready (rs := [34]) (by as_aux_lemma => kernel_rfl) (by simp) ?_
          refine AllReadyH.cons (o := { dst := some 116, op := Op.call { callee := Callee.value (Operand.func 21), args := #[Operand.tmp 114, Operand.tmp 115], argTypes := #[27, 9] }, type := 38, pos := "law.go:77", after := #[{ on := 32, ground := Ground.data }, { on := 33, ground := Ground.data }, { on := 31, ground := Ground.chain }, { on := 28, ground := Ground.guard }], guard := some (28, false) }) rfl (fun Kx hK => ?_) AllReadyH.nil
          go_simp
          refine (rixwatch_any HR.out (by omega) u).mono ?_
          rintro e z9 ⟨us, rfl, ht, bz9⟩
          have K9 := Lib.hid (below2Z K8.out bz9)
          have D9 := Lib.hid (heldB_up K9.out D0.out)
          replace HX := Lib.hid ((HX.out).later bz9)
          replace HR := Lib.hid ((HR.out).later bz9)
          replace Ts := Lib.hid ((Ts.out).later bz9)
          have Ss := Lib.hid ht
          clear ht
          clear bz9
          go_wp2_with fail
          refine hK.out _ _ ?_ (fun hHeld2 => ?_)
          · exact D9.out
          clear hK Kx hHeld
          have hHeld := hHeld2
          clear hHeld2
          try simp only [Act.put, List.setIfInBounds_toArray, List.set_cons_zero, List.set_cons_succ]
          refine wpAnyH_ready (rs := [35]) (by as_aux_lemma => kernel_rfl) (by simp) ?_
          refine AllReadyH.cons (o := { dst := some 117, op := Op.call { callee := Callee.value (Operand.func 19), args := #[Operand.tmp 113, Operand.tmp 116], argTypes := #[38, 38] }, type := 4, pos := "law.go:77", after := #[{ on := 31, ground := Ground.data }, { on := 34, ground := Ground.data }, { on := 34, ground := Ground.chain }, { on := 28, ground := Ground.guard }], guard := some (28, false) }) rfl (fun Kx hK => ?_) AllReadyH.nil
          go_simp
          refine (same_yes Ts.out Ss.out (Nat.le_trans (ixSide_len _ _ _) (by omega))).mono ?_
          rintro e z10 ⟨rfl, bz10⟩
          have K10 := Lib.hid (below2Z K9.out bz10)
          have D10 := Lib.hid (heldB_up K10.out D0.out)
          replace HX := Lib.hid ((HX.out).later bz10)
          replace HR := Lib.hid ((HR.out).later bz10)
          clear Ts Ss
          clear bz10
          go_wp2_with fail
          refine hK.out _ _ ?_ (fun hHeld2 => ?_)
          · exact D10.out
          clear hK Kx hHeld
          have hHeld := hHeld2
          clear hHeld2
          try simp only [Act.put, List.setIfInBounds_toArray, List.set_cons_zero, List.set_cons_succ]
          refine wpAnyH_take (i := 36) (oi := { dst := some 118, op := Op.unOp UnOp.not 4 (Operand.tmp 117), type := 4, pos := "law.go:77", after := #[{ on := 35, ground := Ground.data }, { on := 28, ground := Ground.guard }], guard := some (28, false) }) (v := ?_) rfl (by as_aux_lemma => kernel_rfl) (by as_aux_lemma => kernel_rfl) (by as_aux_lemma => kernel_rfl) (fun _ _ _ h => h) (Or.inl ⟨by rfl, ?_⟩) (by assumption) ?_
          rotate_left
          · intro w' hSw
            try dsimp only at hSw
            go_simp
            try with_reducible rfl
          try simp only [Act.put, List.setIfInBounds_toArray, List.set_cons_zero, List.set_cons_succ]
          refine wpAnyH_take (i := 37) (oi := { dst := some 119, op := Op.pick (Operand.tmp 110) (Operand.const (Value.bool true)) (Operand.tmp 118), type := 4, pos := "law.go:77", after := #[{ on := 28, ground := Ground.data }, { on := 36, ground := Ground.data }], guard := none }) (v := ?_) rfl (by as_aux_lemma => kernel_rfl) (by as_aux_lemma => kernel_rfl) (by as_aux_lemma => kernel_rfl) (fun _ _ _ h => h) (Or.inl ⟨by rfl, ?_⟩) (by assumption) ?_
          rotate_left
          · intro w' hSw
            try dsimp only at hSw
            go_simp
            try with_reducible rfl
          try simp only [Act.put, List.setIfInBounds_toArray, List.set_cons_zero, List.set_cons_succ]
          refine wpAnyH_done (by kernel_rfl) ?_ _
          have HB2 : Hid (Below w.heap.size w z10) := Lib.hid (HB.out.trans ((K10.out).mono HB.out.size))
          go_wp2_with fail
          go_roundw
          case rel => exact ⟨k + 1, by omega, by go_num, Lib.hid ⟨L3, _, _, HX.out, HR.out, HD.out, hL1, HB2.out⟩⟩
          case measure => simp [intOf]; omega

      · obtain rfl : k = l.length := by omega
        obtain ⟨L, F1, v1, X1, R1, D1, hL1, B1⟩ := HH.out
        have HB9 := Lib.hid B1
        clear X1 R1 D1 B1
        go_wp2_with fail
        refine (HL.out _).mono ?_
        rintro e w2 ⟨rfl, hb⟩
        go_wp2_with fail
        go_ret
        exact ⟨rfl, HB9.out.trans (hb.mono HB9.out.size)⟩

end Go.Proofs.Ytlckphdmflofgaa
end

section
/-
  THE FRAME OF THE PROOF OF IndexScripts: for every input the law returns true, and each argument reads behind the call as it read before. No condition.
-/
namespace Go.Proofs.Ytlckphdmflofgaa.indexScripts
open Go.ChangeShapes Go.WideShapes Go.ChangeAt Go.RowKit
open Go.ChangeMaps (open_string shut_string)
set_option linter.unusedVariables false

theorem own : ownKnob Try.prog.godebug = none := by kernel_rfl
theorem laidOut : laidOutB Try.prog = true := by kernel_rfl

set_option maxRecDepth 100000 in
theorem lifted (os : Os) (started : os.Started) (H : Type) (enc : TypeId × Value → H) :
    ReturnsInHanded {} Try.checked os 3 .any (Rows.indexScriptsSpec.pre6 enc Try.prog Try.f3 Rows.indexScriptsRow.domain false) (Rows.indexScriptsSpec.post enc Try.prog Try.f3 false true false false) := by
  refine returnsInHanded_of_change (C := Try.checked) own started (by kernel_rfl) Try.func3
    (ChangeSpec.witness6 (enc := enc) (C := Try.checked) false ⟨#[], #[.slice none 0 0], []⟩ 8 (by kernel_rfl) (by kernel_rfl) (by kernel_rfl) (by kernel_rfl)) ?_
  intro W base args ds gs before hval0 hW hcnd _
  have hval : ∀ (j : Nat) t v, Try.f3.params[j]? = some t → args[j]? = some v → Value.okWide Try.prog W .any base t v := hval0
  have hW' := hW
  obtain ⟨p, q, hA0, hV, rfl, hfz, hnd⟩ := hW
  have hA : DataW.TrodAll enc Try.prog W 0 (fun _ => true) true Try.f3.params.toList args.toList ds p := hA0
  rw [Try.params3] at hA hval
  obtain ⟨v0, vs0, d0, ds0, p0, q0, hargs, rfl, rfl, h0, r0⟩ := trodAll_cons hA
  obtain ⟨rfl, rfl, rfl⟩ := trodAll_nil r0
  obtain rfl : args = #[v0] := by cases args; simp_all
  obtain ⟨rfl, rfl⟩ := trodVars_none hV
  have k0 := h0
  have lt0 : ∀ x ∈ p0, x.block < W.heap.size := by obtain ⟨m, hm⟩ := k0; exact DataW.trod_lt m _ _ _ hm
  obtain ⟨l0, w0⟩ := open_iops (hval 0 22 v0 rfl rfl) h0
  clear hA0 hval0
  refine (walkIndexScripts (w := W) w0).mono fun e W' ⟨he, bel⟩ => ?_
  subst he
  exact ⟨_, rfl, _, _, _, [], _, [], hW', trodAll_mk1 (shut_bool Try.underlying4 _), (trodAll_cons_mk (Below.trod laidOut (by kernel_rfl) (of_decide_eq_true (by kernel_rfl)) k0 bel lt0) trodAll_mk0), rfl, bel.frame _, fun h => by cases h⟩

theorem over : Rows.indexScriptsRow.holds Try.pinned (OpenSpec.ofChange Rows.indexScriptsSpec) :=
  OpenClaim.holds_of_wide 3 Try.f3 rfl rfl rfl rfl rfl rfl rfl ⟨rfl, rfl, rfl, rfl, rfl⟩ rfl rfl rfl rfl rfl (by kernel_rfl) Try.func3 (by kernel_rfl)
    (of_decide_eq_true (by kernel_rfl)) (by unfold Func.isWrapper; first | (rw [if_pos (by decide +kernel)]; kernel_rfl) | (rw [if_neg (by decide +kernel)]; exact ⟨rfl, rfl⟩))
    (fun os started H enc _ => lifted os started H enc)

/-- THE STATEMENT. -/
theorem proved : Rows.IndexScriptsSaid := over
#print axioms proved
end Go.Proofs.Ytlckphdmflofgaa.indexScripts
end
