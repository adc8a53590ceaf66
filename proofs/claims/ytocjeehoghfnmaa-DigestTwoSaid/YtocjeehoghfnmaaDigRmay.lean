/-
  THE CONTRACT OF THE DOCUMENT'S May (of a table).
-/
import Derived.Test.YtocjeehoghfnmaaDigMay
namespace Go.Proofs.Ytocjeehoghfnmaa
open Go.RowKit

theorem wrap_add (k n : Nat) (h : k + n ≤ 9223372036854775807) : IntKind.i64.wrap ((k : Int) + (n : Int)) = (k : Int) + (n : Int) := IntWalk.i64_in _ (by omega)

set_option maxHeartbeats 3200000 in
set_option maxRecDepth 100000 in
theorem rdimay_any {w : World} {v : Value} {t : List Row} (hv : Tab w v t) (hs : Short t) :
    Calls Try.prog 20 #[v] w fun e w' => e = .returned (.bool (diMay t)) ∧ Below w.heap.size w w' := by
  have HV := Lib.hid hv
  have HS := Lib.hid hs
  obtain ⟨a, cap, rfl, hm⟩ := hv.open'
  clear hv hs
  by_cases h : 32 < t.length
  · have HR := Lib.hid (diMay_long h)
    go_enter Try.func20, Try.ntmps20
    go_wp2_with fail
    go_ret
    exact ⟨by rw [HR.out]; rfl, Below.refl _ _⟩
  · go_enter Try.func20, Try.ntmps20
    go_wp2_with fail
    go_loopw [3] (fun i wr => ∃ k : Nat, k ≤ t.length ∧ i = .int .i64 k ∧ Hid (Below w.heap.size w wr) ∧ Hid ((List.range k).all (rowAt t) = true)) (fun i _ => t.length - (intOf i).toNat)
    case atStart => exact ⟨0, by omega, rfl, Below.refl _ _, by show _ = _; simp⟩
    case round =>
      obtain ⟨k, hk, rfl, HN, HA⟩ := hrel
      by_cases hlt : k < t.length
      · obtain ⟨b, off, rfl, h0, h1, h2, h3, h4⟩ := HV.out.row HN.out k hlt
        obtain ⟨hl1, hl2⟩ := HS.out.get hlt
        obtain ⟨⟨c, ⟨x, y, z, st⟩⟩, hr⟩ : ∃ r, t.getD k Row.zero = r := ⟨_, rfl⟩
        rw [hr] at h0 h1 h2 h3 h4 hl1 hl2
        have HRr := Lib.hid hr
        simp only at h0 h1 h2 h3 h4 hl1 hl2
        have g0 := cell_regrown h0
        have g1 := cell_regrown h1
        have g2 := cell_regrown h2
        have g3 := cell_regrown h3
        have g4 := cell_regrown h4
        clear hr h0 h1 h2 h3 h4
        cases hi : idIs c with
        | false =>
          have HR : Hid (diMay t = false) := diMay_off hlt (rowAt_is HRr.out hi)
          have HI := Lib.hid (ris_eq c hl1 (r := false) (Lib.hid hi))
          clear hi
          go_wp2_with fail
          refine wp_region_quiet_below (by kernel_rfl) (by kernel_rfl) ?_
          repeat (go_big_quiet_step (with_reducible exact rgS HI.out _ _ _))
          refine wpQuiet_nil ?_
          intro w5 hw5
          have hb5 := regrown_belowD hw5
          have HN5 := Lib.hid (below2' HN.out hb5)
          clear hw5 hb5 g0 g1 g2 g3 g4
          go_wp2_with fail
          go_ret
          exact ⟨by rw [HR.out]; rfl, HN5.out⟩
        | true =>
          have HI := Lib.hid (ris_eq c hl1 (r := true) (Lib.hid hi))
          cases hm2 : vaMay ⟨x, y, z, st⟩ with
          | false =>
            have HR : Hid (diMay t = false) := diMay_off hlt (rowAt_may HRr.out hm2)
            have HM := Lib.hid (rmay_eq x y z st hl2 (r := false) (Lib.hid hm2))
            clear hi hm2
            go_wp2_with fail
            refine wp_region_quiet_below (by kernel_rfl) (by kernel_rfl) ?_
            repeat (go_big_quiet_step (first | with_reducible exact rgS HI.out _ _ _ | with_reducible exact rgB HM.out _ _ _))
            refine wpQuiet_nil ?_
            intro w5 hw5
            have hb5 := regrown_belowD hw5
            have HN5 := Lib.hid (below2' HN.out hb5)
            clear hw5 hb5 g0 g1 g2 g3 g4
            go_wp2_with fail
            go_ret
            exact ⟨by rw [HR.out]; rfl, HN5.out⟩
          | true =>
            have HM := Lib.hid (rmay_eq x y z st hl2 (r := true) (Lib.hid hm2))
            rcases Nat.eq_zero_or_pos k with rfl | hpos
            · have HA2 : Hid ((List.range 1).all (rowAt t) = true) := by show _ = _; exact range_all_succ HA.out (rowAt_first HRr.out hi hm2)
              clear hi hm2
              simp only [Nat.zero_mul, Nat.add_zero] at g0 g1 g2 g3 g4
              go_wp2_with fail
              refine wp_region_quiet_below (by kernel_rfl) (by kernel_rfl) ?_
              repeat (go_big_quiet_step (first | with_reducible exact rgS HI.out _ _ _ | with_reducible exact rgB HM.out _ _ _))
              refine wpQuiet_nil ?_
              intro w5 hw5
              have hb5 := regrown_belowD hw5
              have HN5 := Lib.hid (below2' HN.out hb5)
              clear hw5 hb5 g0 g1 g2 g3 g4
              go_wp2_with fail
              go_roundw
              case rel => exact ⟨1, by omega, by go_num, HN5, HA2⟩
              case measure => simp [intOf]; omega
            · obtain ⟨j, rfl⟩ : ∃ j, k = j + 1 := ⟨k - 1, by omega⟩
              obtain ⟨b2, o2, e2, i0, _, _, _, _⟩ := HV.out.row HN.out j (by omega)
              injection e2 with e2
              injection e2 with e3 e4 _
              subst e3 e4
              have HX := rowAt_next HRr.out hi hm2
              obtain ⟨yy, hy⟩ : ∃ yy, (t.getD j Row.zero).c = yy := ⟨_, rfl⟩
              rw [hy] at i0 HX
              have g5 := cell_regrown i0
              clear hy i0 hi hm2
              cases hle : idLess yy c with
              | false =>
                have HR : Hid (diMay t = false) := diMay_off hlt (HX.trans hle)
                have HLe := Lib.hid (rless_eq yy c (r := false) (Lib.hid hle))
                clear hle HX hpos
                go_wp2_with fail
                refine wp_region_quiet_below (by kernel_rfl) (by kernel_rfl) ?_
                repeat (go_big_quiet_step (first | with_reducible exact rgS HI.out _ _ _ | with_reducible exact rgB HM.out _ _ _ | with_reducible exact rgS HLe.out _ _ _))
                refine wpQuiet_nil ?_
                intro w5 hw5
                have hb5 := regrown_belowD hw5
                have HN5 := Lib.hid (below2' HN.out hb5)
                clear hw5 hb5 g0 g1 g2 g3 g4 g5
                go_wp2_with fail
                go_ret
                exact ⟨by rw [HR.out]; rfl, HN5.out⟩
              | true =>
                have HA2 : Hid ((List.range (j + 1 + 1)).all (rowAt t) = true) := by show _ = _; exact range_all_succ HA.out (HX.trans hle)
                have HLe := Lib.hid (rless_eq yy c (r := true) (Lib.hid hle))
                clear hle HX hpos
                go_wp2_with fail
                refine wp_region_quiet_below (by kernel_rfl) (by kernel_rfl) ?_
                repeat (go_big_quiet_step (first | with_reducible exact rgS HI.out _ _ _ | with_reducible exact rgB HM.out _ _ _ | with_reducible exact rgS HLe.out _ _ _))
                refine wpQuiet_nil ?_
                intro w5 hw5
                have hb5 := regrown_belowD hw5
                have HN5 := Lib.hid (below2' HN.out hb5)
                clear hw5 hb5 g0 g1 g2 g3 g4 g5
                go_wp2_with fail
                go_roundw
                case rel => exact ⟨j + 1 + 1, by omega, by go_num, HN5, HA2⟩
                case measure => simp [intOf]; omega
      · obtain rfl : k = t.length := by omega
        have HR : Hid (diMay t = true) := by show _ = _; exact diMay_on h HA.out
        go_wp2_with fail
        go_ret
        exact ⟨by rw [HR.out]; rfl, HN.out⟩

theorem rdimay_eq {w : World} {v : Value} {t : List Row} (hv : Tab w v t) (hs : Short t) {r : Bool} (h : Hid (diMay t = r)) :
    Calls Try.prog 20 #[v] w fun e w' => e = .returned (.bool r) ∧ Below w.heap.size w w' := by
  have := rdimay_any hv hs
  rwa [h.out] at this

end Go.Proofs.Ytocjeehoghfnmaa
