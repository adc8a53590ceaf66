/-
  THE WALK OF HeapShape.
-/
import Derived.Test.YtfnlmckcedembabHeaMet
import Derived.Test.YtfnlmckcedembabHeaLive
namespace Go.Proofs.Ytfnlmckcedembab
open Go.RowKit

theorem rkSame_self (a b c : Int) : rkSame a b c a b c = true := by simp [rkSame]

set_option maxHeartbeats 6400000 in
set_option maxRecDepth 100000 in
theorem walkHeapShape {w : World} {v : Value} {l : List HOp} (hv : OpsAt w v l) :
    Calls Try.prog 4 #[v] w fun e w' => e = .returned (.bool true) ∧ Below w.heap.size w w' := by
  have HV := Lib.hid hv
  obtain ⟨a, cap, rfl, hm⟩ := hv.1.open'
  clear hv
  by_cases hl : l.length ≤ 100
  · have t0 : decide (100 < (l.length : Int)) = false := by simp; omega
    go_enter Try.func4, Try.ntmps4
    go_wp2_with fail
    refine (some_any HV.out hl).mono ?_
    rintro e w1 ⟨B, u, M, rfl, ⟨m, hok, hh, hp⟩, b1⟩
    have H1 := Lib.hid hok
    have HHP := Lib.hid hh
    have B1 := Lib.hid b1
    have hml := hok.few
    clear hok hh hp b1
    go_wp2_with fail
    refine (slots_any H1.out).mono ?_
    rintro e w2 ⟨sv, rfl, ho2, b2⟩
    obtain ⟨sa, sc, rfl⟩ := own_len ho2
    have hmk := fun w => run_makeMap (P := Try.prog) 51 w
    have HS2 := Lib.hid (ho2.rd slOK)
    have H2 := Lib.hid (H1.out.later b2)
    have B2 := Lib.hid (below2Z B1.out b2)
    have b3 := bl_newZ w2 (.map #[] 0)
    have HS3 := Lib.hid (HS2.out.later b3)
    have H3 := Lib.hid (H2.out.later b3)
    have B3 := Lib.hid (below2Z B2.out b3)
    have M3 := Lib.hid (metAt_made w2)
    have BL3 := Lib.hid b3
    clear ho2 b2 b3
    go_wp2_with fail
    generalize hW : w2.alloc (.map #[] 0) = w3 at HS3 H3 B3 M3 BL3 ⊢
    clear hW
    obtain ⟨Mm, hMe⟩ : ∃ M, w2.heap.size = M := ⟨_, rfl⟩
    have HMe := Lib.hid hMe
    rw [hMe] at M3 ⊢
    go_loopw [6] (fun i wr => ∃ (k : Nat) (f : Int → Bool) (km : Nat), k ≤ m.length ∧ i = .int .i64 k ∧ km ≤ k ∧ Hid (∀ id, f id = true → ∃ j, j < k ∧ (at0 m j).id = id) ∧ Hid (MetAt wr Mm f km) ∧ Hid (Below w2.heap.size w2 wr)) (fun i _ => m.length - (intOf i).toNat)
    case atStart => exact ⟨0, fun _ => false, 0, by omega, rfl, by omega, (fun id h => by cases h), M3, BL3⟩
    case round =>
      clear HS3 H3 B3 M3 BL3
      obtain ⟨k, f, km, hk, rfl, hkm, HF, HMT, HB3⟩ := hrel
      have HH := Lib.hid (H2.out.later HB3.out)
      have HS := Lib.hid (HS2.out.later HB3.out)
      have BW := Lib.hid (below2Z B2.out HB3.out)
      by_cases hlt : k < m.length
      · obtain ⟨b, off, rfl, hc⟩ := HS.out.row (Below.refl _ _) k hlt
        have hbM : ¬ b = Mm := by
          obtain ⟨b', off', e', hc'⟩ := HS2.out.row (Below.refl _ _) k hlt
          injection e' with e'
          injection e' with e1 e2 _
          subst e1 e2
          have hlt2 := World.block_lt_of_cell? w2 _ (hc' 0 _ rfl)
          simp only at hlt2
          have := HMe.out
          omega
        obtain ⟨⟨i, r0, r1, r2⟩, ht⟩ : ∃ s, at0 m k = s := ⟨_, rfl⟩
        rw [show m.getD k Sl.zero = at0 m k from rfl, ht] at hc
        obtain ⟨c0, c1, c2, c3⟩ := cells4 hc
        simp only at c0 c1 c2 c3
        have hif : (Lit.int .i64 i).wf = true := by have := H1.out.fits.at0 hlt; rw [ht] at this; exact this
        have HSp : Hid (spot m i = some k) := by show _ = _; have := spot_of H1.out.once hlt; rw [ht] at this; exact this
        have hf : Hid (f i = false) := by
          show _ = _
          rw [Bool.eq_false_iff]
          intro h
          obtain ⟨j, hj, he⟩ := HF.out i h
          have := once_inj H1.out.once (i := j) (j := k) (by omega) hlt (by rw [he, ht])
          omega
        have HF2 : Hid (∀ id, (decide (id = i) || f id) = true → ∃ j, j < k + 1 ∧ (at0 m j).id = id) := by
          show ∀ _, _
          intro id h
          by_cases e : id = i
          · exact ⟨k, by omega, by rw [ht, e]⟩
          · have : f id = true := by simpa [e] using h
            obtain ⟨j, hj, he⟩ := HF.out id this
            exact ⟨j, by omega, he⟩
        have hte := Lib.hid ht
        clear ht hc
        by_cases h0 : 0 < k
        · have hp := par_lt h0
          have t1 : decide (0 < (k : Int)) = true := by simp; omega
          obtain ⟨⟨y, y0, y1, y2⟩, hy⟩ : ∃ s, at0 m (par k) = s := ⟨_, rfl⟩
          have hbt : slBet ⟨i, r0, r1, r2⟩ ⟨y, y0, y1, y2⟩ = false := by have := HHP.out k h0 hlt; rw [hte.out, hy] at this; exact this
          have hbe := better_any i r0 r1 r2 y y0 y1 y2
          rw [hbt] at hbe
          have HBe := Lib.hid hbe
          have HY := Lib.hid hy
          clear hbt hbe hy
          go_wp2_with fail
          refine (get_yes HH.out i hif HSp.out hte.out).mono ?_
          rintro e w5 ⟨rfl, b5⟩
          have b5' := bl_allocZ b5 (.cells #[.int .i64 r0, .int .i64 r1, .int .i64 r2] 31)
          have B5 := Lib.hid (below2Z HB3.out b5')
          have S5 := Lib.hid (HS.out.later b5')
          have M5 := Lib.hid (HMT.out.later b5')
          obtain ⟨x0, x1, x2⟩ : _ ∧ _ ∧ _ := ⟨cellsAt_made (w := w5) (cs := #[.int .i64 r0, .int .i64 r1, .int .i64 r2]) (vs := [.int .i64 r0, .int .i64 r1, .int .i64 r2]) rfl 31 rfl 0 _ rfl, cellsAt_made (w := w5) (cs := #[.int .i64 r0, .int .i64 r1, .int .i64 r2]) (vs := [.int .i64 r0, .int .i64 r1, .int .i64 r2]) rfl 31 rfl 1 _ rfl, cellsAt_made (w := w5) (cs := #[.int .i64 r0, .int .i64 r1, .int .i64 r2]) (vs := [.int .i64 r0, .int .i64 r1, .int .i64 r2]) rfl 31 rfl 2 _ rfl⟩
          simp only [Nat.zero_add] at x0 x1 x2
          clear b5 b5' c0 c1 c2 c3
          go_wp2_with fail
          generalize hW5 : w5.alloc (.cells #[.int .i64 r0, .int .i64 r1, .int .i64 r2] 31) = w6 at B5 S5 M5 x0 x1 x2 ⊢
          clear hW5
          generalize w5.heap.size = X at x0 x1 x2 ⊢
          obtain ⟨b', off', e', hc'⟩ := S5.out.row (Below.refl _ _) k hlt
          injection e' with e'
          injection e' with e1 e2 _
          subst e1 e2
          rw [show m.getD k Sl.zero = at0 m k from rfl, hte.out] at hc'
          obtain ⟨c0, c1, c2, c3⟩ := cells4 hc'
          simp only at c0 c1 c2 c3
          have p0 := cell_regrown x0
          have p1 := cell_regrown x1
          have p2 := cell_regrown x2
          have o0 := cell_regrown c0
          have o1 := cell_regrown c1
          have o2 := cell_regrown c2
          have o3 := cell_regrown c3
          have hlook : ∀ d os, (Instr.lookup 51 (.map (some Mm)) (.int .i64 i) false).run Try.prog (Sort.grow (redrawn w6 d) os) = .ok (.bool false) (Sort.grow (redrawn w6 d) os) := fun d os => (M5.out.later (below_regrown _ _ _)).look i hif hf.out
          have hneq := rank_neq r0 r1 r2 r0 r1 r2
          rw [show rkSame r0 r1 r2 r0 r1 r2 = true by simp [rkSame]] at hneq

          obtain ⟨b', off', e', hd'⟩ := S5.out.row (Below.refl _ _) (par k) (by omega)
          injection e' with e'
          injection e' with e1 e2 _
          subst e1 e2
          rw [show m.getD (par k) Sl.zero = at0 m (par k) from rfl, HY.out] at hd'
          obtain ⟨d0, d1, d2, d3⟩ := cells4 hd'
          simp only at d0 d1 d2 d3
          have s0 := cell_regrown d0
          have s1 := cell_regrown d1
          have s2 := cell_regrown d2
          have s3 := cell_regrown d3
          have hk0 : (0 : Int) ≤ (k : Int) := by omega
          have hk1 : (k : Int) < (m.length : Int) := by omega
          have hq0 : (0 : Int) ≤ (par k : Int) := by omega
          have hq1 : (par k : Int) < (m.length : Int) := by omega
          have hwk : IntKind.i64.wrap ((k : Int) - 1) = (k : Int) - 1 := IntWalk.i64_in _ (by omega)
          have hdv : ((k : Int) - 1).tdiv 2 = (par k : Int) := by rw [Int.tdiv_eq_ediv_of_nonneg (by omega)]; unfold par; omega
          have hwp : IntKind.i64.wrap (par k : Int) = (par k : Int) := IntWalk.i64_in _ (by omega)
          clear d0 d1 d2 d3 hd'
          go_wp2_with fail
          refine wp_region_quiet_below (by kernel_rfl) (by kernel_rfl) ?_
          repeat (go_big_quiet_step (with_reducible exact rgB HBe.out _ _ _))

          refine wpQuiet_nil ?_
          intro w7 hw7
          have b7 := regrownZ hw7
          have B7 := Lib.hid (below2Z B5.out b7)
          have M7 := Lib.hid (M5.out.later b7)
          have c9 := cellLaterZ c0 b7
          clear hw7 b7 s0 s1 s2 s3 p0 p1 p2 o0 o1 o2 o3 x0 x1 x2 c0 c1 c2 c3 hlook hneq hc'
          obtain ⟨w8, hrun, hm8, hturn⟩ := M7.out.add (by omega) i hif
          have c10 : w8.cell? ⟨b, off + k * 4, none⟩ = some (.int .i64 i) := (World.cell?_of_block (hturn.grown.block b (World.block_lt_of_cell? w7 _ c9) (fun e => hbM (Option.some.inj e)))).trans c9
          have BL8 : Hid (Below w2.heap.size w2 w8) := B7.out.grown hturn.grown B7.out.size (fun k hk => by obtain rfl := Option.some.inj hk; exact Nat.le_of_eq HMe.out)
          have HM8 := Lib.hid hm8
          clear hturn hm8 c10
          go_wp2_with fail
          go_roundw
          case rel => exact ⟨k + 1, _, km + 1, by omega, by go_num, by omega, HF2, HM8, BL8⟩
          case measure => simp [intOf]; omega
        · have t1 : decide (0 < (k : Int)) = false := by simp; omega
          have hk0 : (0 : Int) ≤ (k : Int) := by omega
          have hk1 : (k : Int) < (m.length : Int) := by omega
          go_wp2_with fail
          refine (get_yes HH.out i hif HSp.out hte.out).mono ?_
          rintro e w5 ⟨rfl, b5⟩
          have b5' := bl_allocZ b5 (.cells #[.int .i64 r0, .int .i64 r1, .int .i64 r2] 31)
          have B5 := Lib.hid (below2Z HB3.out b5')
          have S5 := Lib.hid (HS.out.later b5')
          have M5 := Lib.hid (HMT.out.later b5')
          obtain ⟨x0, x1, x2⟩ : _ ∧ _ ∧ _ := ⟨cellsAt_made (w := w5) (cs := #[.int .i64 r0, .int .i64 r1, .int .i64 r2]) (vs := [.int .i64 r0, .int .i64 r1, .int .i64 r2]) rfl 31 rfl 0 _ rfl, cellsAt_made (w := w5) (cs := #[.int .i64 r0, .int .i64 r1, .int .i64 r2]) (vs := [.int .i64 r0, .int .i64 r1, .int .i64 r2]) rfl 31 rfl 1 _ rfl, cellsAt_made (w := w5) (cs := #[.int .i64 r0, .int .i64 r1, .int .i64 r2]) (vs := [.int .i64 r0, .int .i64 r1, .int .i64 r2]) rfl 31 rfl 2 _ rfl⟩
          simp only [Nat.zero_add] at x0 x1 x2
          clear b5 b5' c0 c1 c2 c3
          go_wp2_with fail
          generalize hW5 : w5.alloc (.cells #[.int .i64 r0, .int .i64 r1, .int .i64 r2] 31) = w6 at B5 S5 M5 x0 x1 x2 ⊢
          clear hW5
          generalize w5.heap.size = X at x0 x1 x2 ⊢
          obtain ⟨b', off', e', hc'⟩ := S5.out.row (Below.refl _ _) k hlt
          injection e' with e'
          injection e' with e1 e2 _
          subst e1 e2
          rw [show m.getD k Sl.zero = at0 m k from rfl, hte.out] at hc'
          obtain ⟨c0, c1, c2, c3⟩ := cells4 hc'
          simp only at c0 c1 c2 c3
          have p0 := cell_regrown x0
          have p1 := cell_regrown x1
          have p2 := cell_regrown x2
          have o0 := cell_regrown c0
          have o1 := cell_regrown c1
          have o2 := cell_regrown c2
          have o3 := cell_regrown c3
          have hlook : ∀ d os, (Instr.lookup 51 (.map (some Mm)) (.int .i64 i) false).run Try.prog (Sort.grow (redrawn w6 d) os) = .ok (.bool false) (Sort.grow (redrawn w6 d) os) := fun d os => (M5.out.later (below_regrown _ _ _)).look i hif hf.out
          have hneq := rank_neq r0 r1 r2 r0 r1 r2
          rw [show rkSame r0 r1 r2 r0 r1 r2 = true by simp [rkSame]] at hneq
          go_wp2_with fail
          refine wp_region_quiet_below (by kernel_rfl) (by kernel_rfl) ?_
          repeat (go_big_quiet_step (fail))

          refine wpQuiet_nil ?_
          intro w7 hw7
          have b7 := regrownZ hw7
          have B7 := Lib.hid (below2Z B5.out b7)
          have M7 := Lib.hid (M5.out.later b7)
          have c9 := cellLaterZ c0 b7
          clear hw7 b7 p0 p1 p2 o0 o1 o2 o3 x0 x1 x2 c0 c1 c2 c3 hlook hneq hc'
          obtain ⟨w8, hrun, hm8, hturn⟩ := M7.out.add (by omega) i hif
          have c10 : w8.cell? ⟨b, off + k * 4, none⟩ = some (.int .i64 i) := (World.cell?_of_block (hturn.grown.block b (World.block_lt_of_cell? w7 _ c9) (fun e => hbM (Option.some.inj e)))).trans c9
          have BL8 : Hid (Below w2.heap.size w2 w8) := B7.out.grown hturn.grown B7.out.size (fun k hk => by obtain rfl := Option.some.inj hk; exact Nat.le_of_eq HMe.out)
          have HM8 := Lib.hid hm8
          clear hturn hm8 c10
          go_wp2_with fail
          go_roundw
          case rel => exact ⟨k + 1, _, km + 1, by omega, by go_num, by omega, HF2, HM8, BL8⟩
          case measure => simp [intOf]; omega
      · obtain rfl : k = m.length := by omega
        obtain ⟨⟨i, r0, r1, r2⟩, ht⟩ : ∃ s, at0 m 0 = s := ⟨_, rfl⟩
        by_cases h0 : 0 < m.length
        · have hq : decide (0 < m.length) = true := by simpa using h0
          have HT := Lib.hid (top_any HH.out ht hq)
          have t1 : ((m.length : Int) == 0) = false := by rw [beq_eq_false_iff_ne]; omega
          have hte := Lib.hid ht
          clear ht hq
          go_wp2_with fail
          refine HT.out.mono ?_
          rintro e w5 ⟨rfl, b5⟩
          have b5' := bl_allocZ b5 (.cells #[.int .i64 i, .int .i64 r0, .int .i64 r1, .int .i64 r2] 33)
          have B5 := Lib.hid (below2Z BW.out b5')
          have S5 := Lib.hid (HS.out.later b5')
          have H5 := Lib.hid (HH.out.later b5')
          obtain ⟨x0, x1, x2, x3⟩ := cells4 (cellsAt_made (w := w5) (cs := #[.int .i64 i, .int .i64 r0, .int .i64 r1, .int .i64 r2]) (vs := slVals ⟨i, r0, r1, r2⟩) rfl 33 rfl)
          simp only [Nat.zero_add] at x0 x1 x2 x3
          clear b5 b5'
          go_wp2_with fail
          generalize hW5 : w5.alloc (.cells #[.int .i64 i, .int .i64 r0, .int .i64 r1, .int .i64 r2] 33) = w6 at B5 S5 H5 x0 x1 x2 x3 ⊢
          clear hW5
          generalize w5.heap.size = X at x0 x1 x2 x3 ⊢
          obtain ⟨b, off, rfl, hc⟩ := S5.out.row (Below.refl _ _) 0 h0
          rw [show m.getD 0 Sl.zero = at0 m 0 from rfl, hte.out] at hc
          obtain ⟨c0, c1, c2, c3⟩ := cells4 hc
          simp only [Nat.zero_mul, Nat.add_zero] at c0 c1 c2 c3
          have p0 := cell_regrown x0
          have p1 := cell_regrown x1
          have p2 := cell_regrown x2
          have p3 := cell_regrown x3
          have o0 := cell_regrown c0
          have o1 := cell_regrown c1
          have o2 := cell_regrown c2
          have o3 := cell_regrown c3
          have heq := slot_eql i r0 r1 r2 i r0 r1 r2
          rw [slSame_iff.2 rfl] at heq
          have hgd : Try.prog.eqGuardType Try.prog.depth 33 = false := by kernel_rfl
          have HLe : Hid (∀ d os, Calls Try.prog 21 #[.pointer (some ⟨B, 0, none⟩)] (Sort.grow (redrawn w6 d) os) fun e w'' => e = .returned (.int .i64 m.length) ∧ ∃ p : Regrown, w'' = Sort.grow (redrawn w6 p.d) p.os) := fun d os => Calls.regrown_of ((len_any (H5.out.later (below_regrown _ _ _))).mono fun _ _ ⟨he, hw⟩ => ⟨he, hw ▸ Below.refl _ _⟩)
          clear hc x0 x1 x2 x3 c0 c1 c2 c3
          have hi0 : (0 : Int) < (m.length : Int) := by omega
          go_wp2_with fail
          refine wp_region_quiet_below (by kernel_rfl) (by kernel_rfl) ?_
          repeat (go_big_quiet_step (first | with_reducible exact HLe.out _ _ | with_reducible exact rgB live10 _ _ _))
          refine wpQuiet_nil ?_
          intro w7 hw7
          have B7 := Lib.hid (below2Z B5.out (regrownZ hw7))
          clear hw7 p0 p1 p2 p3 o0 o1 o2 o3 heq
          go_wp2_with fail
          go_ret
          exact ⟨rfl, B7.out⟩
        · have hq : decide (0 < m.length) = false := by simpa using h0
          have HT := Lib.hid (top_any HH.out ht hq)
          have HLe := Lib.hid (fun (w' : World) (h : Below wr.heap.size wr w') => len_any (HH.out.later h))
          have t1 : ((m.length : Int) == 0) = true := by rw [beq_iff_eq]; omega
          clear ht hq
          go_wp2_with fail
          refine HT.out.mono ?_
          rintro e w5 ⟨rfl, b5⟩
          have b5' := bl_allocZ b5 (.cells #[.int .i64 i, .int .i64 r0, .int .i64 r1, .int .i64 r2] 33)
          have B5 := Lib.hid (below2Z BW.out b5')
          have BB := Lib.hid b5'
          clear b5 b5'
          go_wp2_with fail
          refine (HLe.out _ BB.out).mono ?_
          rintro e w6 ⟨rfl, rfl⟩
          go_wp2_with fail
          refine (live10 _).mono ?_
          rintro e w8 ⟨rfl, b8⟩
          have B8 := Lib.hid (below2Z B5.out b8)
          clear b8
          go_wp2_with fail
          go_ret
          exact ⟨rfl, B8.out⟩
  · have t0 : decide (100 < (l.length : Int)) = true := by simp; omega
    go_enter Try.func4, Try.ntmps4
    go_wp2_with fail
    refine (live10 _).mono ?_
    rintro e w8 ⟨rfl, b8⟩
    have B8 := Lib.hid b8
    clear b8
    go_wp2_with fail
    go_ret
    exact ⟨rfl, B8.out⟩

end Go.Proofs.Ytfnlmckcedembab
