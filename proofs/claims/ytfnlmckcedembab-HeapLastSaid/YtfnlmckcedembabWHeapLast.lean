/-
  THE WALK OF HeapLast.
-/
import Derived.Test.YtfnlmckcedembabHeaMet
import Derived.Test.YtfnlmckcedembabWHeapSorts
namespace Go.Proofs.Ytfnlmckcedembab
open Go.RowKit

theorem HpAt.lt3 {w : World} {base B : Nat} {v : Value} {M : Nat} {L : List Sl} (h : HpAt w base B v M L) : B < w.heap.size ∧ M < w.heap.size ∧ ∀ g n c, v = .slice (some ⟨g, 0, none⟩) n c → g < w.heap.size := by
  obtain ⟨m, h1, _, _⟩ := h
  exact ⟨h1.hat.lt, h1.hat.places.lt, fun g n c e => (h1.hat.own.gblock e).1⟩

set_option maxHeartbeats 6400000 in
set_option maxRecDepth 100000 in
theorem walkHeapLast {w : World} {v : Value} {l : List HOp} (hv : OpsAt w v l) :
    Calls Try.prog 8 #[v] w fun e w' => e = .returned (.bool true) ∧ Below w.heap.size w w' := by
  have HV := Lib.hid hv
  have HVr := Lib.hid hv.1
  have HVw := Lib.hid hv.2
  obtain ⟨a, cap, rfl, hm⟩ := hv.1.open'
  clear hv
  by_cases hl : l.length ≤ 100
  · have t0 : decide (100 < (l.length : Int)) = false := by simp; omega
    go_enter Try.func8, Try.ntmps8
    go_wp2_with fail
    refine (some_any HV.out hl).mono ?_
    rintro e w1 ⟨Ba, ua, Ma, rfl, h1, b1⟩
    have H1 := Lib.hid h1
    have B1 := Lib.hid b1
    clear h1 b1
    go_wp2_with fail
    refine (hp_new w1).mono ?_
    rintro e w2 ⟨Bb, ub, Mb, rfl, h2, b2⟩
    have hmk := fun w => run_makeMap (P := Try.prog) 51 w
    have b3 := bl_allocZ b2 (.map #[] 0)
    have H3 := Lib.hid (h2.later (bl_newZ w2 (.map #[] 0)))
    have BL3 := Lib.hid b3
    have F3 := Lib.hid (h2.far (Nat.le_refl _))
    have M3 := Lib.hid (metAt_made w2)
    have hMm : w1.heap.size ≤ w2.heap.size := b2.size
    have hw1 : IntKind.i64.wrap ((l.length : Int) - 1) = (l.length : Int) - 1 := IntWalk.i64_in _ (by omega)
    clear b2 h2 b3
    go_wp2_with fail
    generalize hW : w2.alloc (.map #[] 0) = w3 at H3 BL3 M3 ⊢
    clear hW
    obtain ⟨Mm, hMe⟩ : ∃ M, w2.heap.size = M := ⟨_, rfl⟩
    rw [hMe] at M3 F3 hMm ⊢
    clear hMe hw1
    go_loopw [6] (fun i wr => ∃ (k : Nat) (z : Int) (f : Int → Bool) (R : List Sl) (u : Value) (km : Nat), k ≤ l.length ∧ i = .int .i64 z ∧ z = (k : Int) - 1 ∧ km ≤ l.length - k ∧ Hid (BackAt l k f R) ∧ Hid (HpAt wr w1.heap.size Bb u Mb R) ∧ Hid (MetAt wr Mm f km) ∧ Hid (¬ Foot Bb Mb u Mm) ∧ Hid (R.length ≤ l.length - k) ∧ Hid (Below w1.heap.size w1 wr)) (fun i _ => (intOf i + 1).toNat)
    case atStart => exact ⟨l.length, _, _, [], ub, 0, by omega, rfl, rfl, by omega, backAt_end l, H3, M3, F3, by show _ ≤ _; simp, BL3⟩
    case round =>
      clear H3 M3 F3 BL3
      obtain ⟨k, z, f, R, u, km, hk, rfl, hz, hkm, HBK0, HP, HMT, HFar, HRL0, BL⟩ := hrel
      by_cases hk0 : k = 0
      · subst hk0
        have tz : decide (0 ≤ z) = false := by simp; omega
        clear hz
        have HPerm := Lib.hid (backAt_perm HBK0.out)
        have HA := Lib.hid (H1.out.later BL.out)
        have BW := Lib.hid (B1.out.trans (BL.out.mono B1.out.size))
        have HN2 : Hid (R.length = (runS l).length) := HPerm.out.length_eq
        by_cases hL : (runS l).length = 0
        · have hR0 : R = [] := List.length_eq_zero_iff.1 (by rw [HPerm.out.length_eq]; exact hL)
          have hLn : runS l = [] := List.length_eq_zero_iff.1 hL
          have HAT := Lib.hid (show HpAt wr w.heap.size Ba ua Ma [] by have := HA.out; rwa [hLn] at this)
          have HPT : Hid (∀ w', HpAt w' w1.heap.size Bb u Mb R → HpAt w' w1.heap.size Bb u Mb []) := fun w' h => by rwa [hR0] at h
          clear hL hLn hR0
          have heq := slot_eql 0 0 0 0 0 0 0 0
          rw [slSame_iff.2 rfl] at heq
          have hgd : Try.prog.eqGuardType Try.prog.depth 33 = false := by kernel_rfl
          go_wp2_with fail
          refine (hp_top_none HAT.out).mono ?_
          rintro e w5 ⟨rfl, b5⟩
          have b5' := bl_allocZ b5 (.cells #[.int .i64 0, .int .i64 0, .int .i64 0, .int .i64 0] 33)
          have B5 := Lib.hid (below2Z BW.out b5')
          have P5 := Lib.hid (HP.out.later b5')
          have A5 := Lib.hid (HA.out.later b5')
          have X5 := Lib.hid (cellsAt_made (w := w5) (cs := #[.int .i64 0, .int .i64 0, .int .i64 0, .int .i64 0]) (vs := slVals ⟨0, 0, 0, 0⟩) rfl 33 rfl)
          clear b5 b5'
          go_wp2_with fail
          generalize hW5 : w5.alloc (.cells #[.int .i64 0, .int .i64 0, .int .i64 0, .int .i64 0] 33) = w6 at B5 P5 A5 X5 ⊢
          clear hW5
          generalize w5.heap.size = X at X5 ⊢
          refine (hp_top_none (HPT.out _ P5.out)).mono ?_
          rintro e w7 ⟨rfl, b7⟩
          have b7' := bl_allocZ b7 (.cells #[.int .i64 0, .int .i64 0, .int .i64 0, .int .i64 0] 33)
          have B7 := Lib.hid (below2Z B5.out b7')
          have P7 := Lib.hid (P5.out.later b7')
          have A7 := Lib.hid (A5.out.later b7')
          have X6 := Lib.hid (X5.out.later b7)
          have X7 := Lib.hid (X5.out.later b7')
          have Y7 := Lib.hid (cellsAt_made (w := w7) (cs := #[.int .i64 0, .int .i64 0, .int .i64 0, .int .i64 0]) (vs := slVals ⟨0, 0, 0, 0⟩) rfl 33 rfl)
          obtain ⟨x0, x1, x2, x3⟩ := cells4 X7.out
          obtain ⟨v0, v1, v2, v3⟩ := cells4 X6.out
          obtain ⟨y0, y1, y2, y3⟩ := cells4 Y7.out
          simp only [Nat.zero_add] at x0 x1 x2 x3 y0 y1 y2 y3 v0 v1 v2 v3
          clear b7 b7'
          go_wp2_with fail
          refine (hp_len A7.out (n := (runS l).length) rfl).mono ?_
          rintro e w8 ⟨rfl, rfl⟩
          go_wp2_with fail
          refine (hp_len P7.out (n := (runS l).length) HN2.out).mono ?_
          rintro e w8 ⟨rfl, rfl⟩
          clear x0 x1 x2 x3 y0 y1 y2 y3 v0 v1 v2 v3
          go_wp2_with fail
          refine (live10 _).mono ?_
          rintro e w9 ⟨rfl, b9⟩
          have B9 := Lib.hid (below2Z B7.out b9)
          clear b9
          go_wp2_with fail
          go_ret
          exact ⟨rfl, B9.out⟩
        · obtain ⟨⟨i, r0, r1, r2⟩, ht⟩ := top_exists HA.out (by omega)
          have HT := Lib.hid ht
          have HTR : Hid (IsTop R ⟨i, r0, r1, r2⟩) := ⟨HPerm.out.mem_iff.2 ht.1, fun x hx => ht.2 x (HPerm.out.mem_iff.1 hx)⟩
          clear hL ht
          have heq := slot_eql i r0 r1 r2 i r0 r1 r2
          rw [slSame_iff.2 rfl] at heq
          have hgd : Try.prog.eqGuardType Try.prog.depth 33 = false := by kernel_rfl
          go_wp2_with fail
          refine (hp_top HA.out HT.out).mono ?_
          rintro e w5 ⟨rfl, b5⟩
          have b5' := bl_allocZ b5 (.cells #[.int .i64 i, .int .i64 r0, .int .i64 r1, .int .i64 r2] 33)
          have B5 := Lib.hid (below2Z BW.out b5')
          have P5 := Lib.hid (HP.out.later b5')
          have A5 := Lib.hid (HA.out.later b5')
          have X5 := Lib.hid (cellsAt_made (w := w5) (cs := #[.int .i64 i, .int .i64 r0, .int .i64 r1, .int .i64 r2]) (vs := slVals ⟨i, r0, r1, r2⟩) rfl 33 rfl)
          clear b5 b5'
          go_wp2_with fail
          generalize hW5 : w5.alloc (.cells #[.int .i64 i, .int .i64 r0, .int .i64 r1, .int .i64 r2] 33) = w6 at B5 P5 A5 X5 ⊢
          clear hW5
          generalize w5.heap.size = X at X5 ⊢
          refine (hp_top P5.out HTR.out).mono ?_
          rintro e w7 ⟨rfl, b7⟩
          have b7' := bl_allocZ b7 (.cells #[.int .i64 i, .int .i64 r0, .int .i64 r1, .int .i64 r2] 33)
          have B7 := Lib.hid (below2Z B5.out b7')
          have P7 := Lib.hid (P5.out.later b7')
          have A7 := Lib.hid (A5.out.later b7')
          have X6 := Lib.hid (X5.out.later b7)
          have X7 := Lib.hid (X5.out.later b7')
          have Y7 := Lib.hid (cellsAt_made (w := w7) (cs := #[.int .i64 i, .int .i64 r0, .int .i64 r1, .int .i64 r2]) (vs := slVals ⟨i, r0, r1, r2⟩) rfl 33 rfl)
          obtain ⟨x0, x1, x2, x3⟩ := cells4 X7.out
          obtain ⟨v0, v1, v2, v3⟩ := cells4 X6.out
          obtain ⟨y0, y1, y2, y3⟩ := cells4 Y7.out
          simp only [Nat.zero_add] at x0 x1 x2 x3 y0 y1 y2 y3 v0 v1 v2 v3
          clear b7 b7'
          go_wp2_with fail
          refine (hp_len A7.out (n := (runS l).length) rfl).mono ?_
          rintro e w8 ⟨rfl, rfl⟩
          go_wp2_with fail
          refine (hp_len P7.out (n := (runS l).length) HN2.out).mono ?_
          rintro e w8 ⟨rfl, rfl⟩
          clear x0 x1 x2 x3 y0 y1 y2 y3 v0 v1 v2 v3
          go_wp2_with fail
          refine (live10 _).mono ?_
          rintro e w9 ⟨rfl, b9⟩
          have B9 := Lib.hid (below2Z B7.out b9)
          clear b9
          go_wp2_with fail
          go_ret
          exact ⟨rfl, B9.out⟩
      · obtain ⟨j, rfl⟩ : ∃ j, k = j + 1 := ⟨k - 1, by omega⟩
        obtain rfl : z = (j : Int) := by omega
        clear hz
        have hjl : j < l.length := by omega
        obtain ⟨b, off, rfl, hc⟩ := HVr.out.row (B1.out.trans (BL.out.mono B1.out.size)) j hjl
        have hbw : b < w.heap.size := by
          obtain ⟨b', off', e', hc'⟩ := HVr.out.row (Below.refl _ _) j hjl
          injection e' with e'
          injection e' with e1 e2 _
          subst e1 e2
          exact World.block_lt_of_cell? w _ (hc' 0 _ rfl)
        have hbw1 : b < w1.heap.size := Nat.lt_of_lt_of_le hbw B1.out.size
        obtain ⟨⟨t, id, r0, r1, r2⟩, hr⟩ : ∃ r, l.getD j HOp.zero = r := ⟨_, rfl⟩
        have hid : (Lit.int .i64 id).wf = true := by
          have hmem : l.getD j HOp.zero ∈ l := by rw [List.getD_eq_getElem?_getD, List.getElem?_eq_getElem hjl]; exact List.getElem_mem hjl
          have := HVw.out _ hmem
          rwa [hr] at this
        have hnx := backAt_next hjl HBK0.out hr
        rw [hr] at hc
        obtain ⟨c0, c1, c2, c3, c4⟩ := cells5o hc
        simp only at c0 c1 c2 c3 c4 hnx
        clear hr hc
        cases hf : f id with
        | true =>
          rw [if_neg (by rw [hf]; simp)] at hnx
          have HBK := Lib.hid hnx
          have hlook := HMT.out.look id hid hf
          obtain ⟨w8, hrun, hm8, hturn⟩ := HMT.out.add (by omega) id hid
          have hb8 := hturn.grown
          have HB8 : Hid (HpAt w8 w1.heap.size Bb u Mb R) := HP.out.spared ⟨hb8.block Bb (HP.out.lt3).1 (fun e => HFar.out (.inl (Option.some.inj e).symm)), hb8.block Mb (HP.out.lt3).2.1 (fun e => HFar.out (.inr (.inl (Option.some.inj e).symm))), fun g n c e => hb8.block g ((HP.out.lt3).2.2 g n c e) (fun e' => HFar.out (.inr (.inr ⟨n, c, by rw [Option.some.inj e'] at e; exact e⟩)))⟩
          have BL8 : Hid (Below w1.heap.size w1 w8) := BL.out.grown hb8 BL.out.size (fun k hk => by obtain rfl := Option.some.inj hk; exact hMm)
          have HM8 := Lib.hid hm8
          have HRL : Hid (R.length ≤ l.length - j) := by show _ ≤ _; have := HRL0.out; omega
          clear hm8 hturn hb8 hnx hf
          go_wp2_with fail
          go_roundw
          case rel => exact ⟨j, (j : Int) - 1, _, R, u, km + 1, by omega, by go_num, rfl, by omega, HBK, HB8, HM8, HFar, HRL, BL8⟩
          case measure => simp [intOf]
        | false =>
          have hlook := HMT.out.look id hid hf
          by_cases ht : t = 1
          · subst ht
            rw [if_neg (by simp)] at hnx
            have HBK := Lib.hid hnx
            have t1 : ((1 : Int) != 1) = false := by simp
            obtain ⟨w8, hrun, hm8, hturn⟩ := HMT.out.add (by omega) id hid
            have hb8 := hturn.grown
            have HB8 : Hid (HpAt w8 w1.heap.size Bb u Mb R) := HP.out.spared ⟨hb8.block Bb (HP.out.lt3).1 (fun e => HFar.out (.inl (Option.some.inj e).symm)), hb8.block Mb (HP.out.lt3).2.1 (fun e => HFar.out (.inr (.inl (Option.some.inj e).symm))), fun g n c e => hb8.block g ((HP.out.lt3).2.2 g n c e) (fun e' => HFar.out (.inr (.inr ⟨n, c, by rw [Option.some.inj e'] at e; exact e⟩)))⟩
            have BL8 : Hid (Below w1.heap.size w1 w8) := BL.out.grown hb8 BL.out.size (fun k hk => by obtain rfl := Option.some.inj hk; exact hMm)
            have HM8 := Lib.hid hm8
            have HRL : Hid (R.length ≤ l.length - j) := by show _ ≤ _; have := HRL0.out; omega
            clear hm8 hturn hb8 hnx hf
            go_wp2_with fail
            go_roundw
            case rel => exact ⟨j, (j : Int) - 1, _, R, u, km + 1, by omega, by go_num, rfl, by omega, HBK, HB8, HM8, HFar, HRL, BL8⟩
            case measure => simp [intOf]
          · have t1 : (t != 1) = true := by rw [bne_iff_ne]; exact ht
            rw [if_pos ⟨hf, ht⟩] at hnx
            have HBK := Lib.hid hnx
            obtain ⟨q, hq⟩ : ∃ q, (spot R id).isNone = q := ⟨_, rfl⟩
            have HQ := Lib.hid hq
            have HD2 := Lib.hid (show HpAt wr.drew w1.heap.size Bb u Mb R from HpAt.spared HP.out ⟨rfl, rfl, fun _ _ _ _ => rfl⟩)
            have HL3 : Hid (R.length < 1000) := by show _ < _; have := HRL0.out; omega
            have C1 := Lib.hid (show wr.drew.cell? ⟨b, off + j * 5 + 1, none⟩ = some (.int .i64 id) from c1)
            have C2 := Lib.hid (show wr.drew.cell? ⟨b, off + j * 5 + 2, none⟩ = some (.int .i64 r0) from c2)
            have C3 := Lib.hid (show wr.drew.cell? ⟨b, off + j * 5 + 3, none⟩ = some (.int .i64 r1) from c3)
            have C4 := Lib.hid (show wr.drew.cell? ⟨b, off + j * 5 + 4, none⟩ = some (.int .i64 r2) from c4)
            have hMlt : Mm < wr.drew.heap.size := HMT.out.lt
            have HMlt := Lib.hid hMlt
            clear hq hnx hf ht hMlt
            go_wp2_with fail
            go_region_held (fun w' => w'.cell? ⟨b, off + j * 5 + 1, none⟩ = some (.int .i64 id) ∧ w'.cell? ⟨b, off + j * 5 + 2, none⟩ = some (.int .i64 r0) ∧ w'.cell? ⟨b, off + j * 5 + 3, none⟩ = some (.int .i64 r1) ∧ w'.cell? ⟨b, off + j * 5 + 4, none⟩ = some (.int .i64 r2)) ((first | exact ⟨C1.out, C2.out, C3.out, C4.out⟩ | exact ⟨k1, k2, k3, k4⟩))
              ((go_at_call 28; refine (hp_put HD2.out HL3.out id r0 r1 r2 hid HQ.out).mono ?_; rintro e w5 ⟨u5, rfl, h5, t5⟩; have k1 := (t5.turn.below.cell (p := ⟨b, off + j * 5 + 1, none⟩) hbw1).trans C1.out; have k2 := (t5.turn.below.cell (p := ⟨b, off + j * 5 + 2, none⟩) hbw1).trans C2.out; have k3 := (t5.turn.below.cell (p := ⟨b, off + j * 5 + 3, none⟩) hbw1).trans C3.out; have k4 := (t5.turn.below.cell (p := ⟨b, off + j * 5 + 4, none⟩) hbw1).trans C4.out))
            have HP5 := Lib.hid h5
            have BL5 : Hid (Below w1.heap.size w1 w5) := (BL.out.drew).trans t5.turn.below
            have HF5 := Lib.hid (t5.far HMlt.out HFar.out).1
            have HM5 := Lib.hid (MetAt.kept (w := wr) (w' := w5) HMT.out (t5.far HMlt.out HFar.out).2)
            have HRL : Hid ((slPut R (HOp.sl ⟨t, id, r0, r1, r2⟩)).length ≤ l.length - j) := by show _ ≤ _; rw [slPut_len]; have := HRL0.out; split <;> omega
            obtain ⟨w8, hrun, hm8, hturn⟩ := HM5.out.add (by omega) id hid
            have hb8 := hturn.grown
            have HB8 : Hid (HpAt w8 w1.heap.size Bb u5 Mb (slPut R (HOp.sl ⟨t, id, r0, r1, r2⟩))) := HP5.out.spared ⟨hb8.block Bb (HP5.out.lt3).1 (fun e => HF5.out (.inl (Option.some.inj e).symm)), hb8.block Mb (HP5.out.lt3).2.1 (fun e => HF5.out (.inr (.inl (Option.some.inj e).symm))), fun g n c e => hb8.block g ((HP5.out.lt3).2.2 g n c e) (fun e' => HF5.out (.inr (.inr ⟨n, c, by rw [Option.some.inj e'] at e; exact e⟩)))⟩
            have BL8 : Hid (Below w1.heap.size w1 w8) := BL5.out.grown hb8 BL5.out.size (fun k hk => by obtain rfl := Option.some.inj hk; exact hMm)
            have HM8 := Lib.hid hm8
            clear h5 t5 hm8 hturn hb8 c0 c1 c2 c3 c4 k2 k3 k4
            go_wp2_with fail
            go_roundw
            case rel => exact ⟨j, (j : Int) - 1, _, _, u5, km + 1, by omega, by go_num, rfl, by omega, HBK, HB8, HM8, HF5, HRL, BL8⟩
            case measure => simp [intOf]
  · have t0 : decide (100 < (l.length : Int)) = true := by simp; omega
    go_enter Try.func8, Try.ntmps8
    go_wp2_with fail
    refine (live10 _).mono ?_
    rintro e w8 ⟨rfl, b8⟩
    have B8 := Lib.hid b8
    clear b8
    go_wp2_with fail
    go_ret
    exact ⟨rfl, B8.out⟩

end Go.Proofs.Ytfnlmckcedembab
