/-
  TEXTS OF THE PROOF, one behind the other: RosPair, RosRise, RosOver, RosDoP, RosPairP, RosPairE, RosMayC.
-/
import Derived.Test.YtfkadkopolenbaaGR12
import Derived.Test.YtfkadkopolenbaaGR01
import Derived.Test.YtfkadkopolenbaaGR13

section

/-
  LAYER 8, THE CODE: whether an entry has a counterpart that it may face.
-/
namespace Go.Proofs.Ytfkadkopolenbaa
open Go.RowKit

set_option maxHeartbeats 1600000 in
set_option maxRecDepth 100000 in
theorem paired_no {w : World} {v : Value} {l : List Ent} (hv : Ents w v l) (hr : Rise l) (eo ec : List UInt8) (x1 x2 x3 x4 x5 : Bool) (hno : (l.any fun e => entIs e ⟨ec, eo, ⟨false, false, false, false, false⟩⟩) = false) :
    Calls Try.prog 52 #[v, .agg #[.string ⟨eo.toArray⟩, .string ⟨ec.toArray⟩, .bool x1, .bool x2, .bool x3, .bool x4, .bool x5]] w fun e w' => e = .returned (.bool false) ∧ Below w.heap.size w w' := by
  have B0 : Hid (Below w.heap.size w (w.alloc (.cells #[.string ⟨eo.toArray⟩, .string ⟨ec.toArray⟩, .bool x1, .bool x2, .bool x3, .bool x4, .bool x5] 49))) := Lib.hid ((Below.refl _ _).alloc (Nat.le_refl _) _)
  have HV := Lib.hid (hv.later B0.out)
  have HX := Lib.hid (cells7_made w ⟨eo, ec, ⟨x1, x2, x3, x4, x5⟩⟩ 49)
  have HE := Lib.hid (entry_any ec eo)
  obtain ⟨a, cap, rfl, hm⟩ := hv.open'
  go_enter Try.func52, Try.ntmps52
  go_wp2_with fail
  refine (HE.out _).mono ?_
  rintro e w1 ⟨rfl, b1⟩
  go_wp2_with fail
  refine (find_no (HV.out.later b1) hr ec eo false false false false false hno).mono ?_
  rintro e w2 ⟨rfl, b2⟩
  have B2 := Lib.hid (below2S B0.out (below2S b1 b2))
  clear b1 b2
  go_wp2_with fail
  go_ret
  refine ⟨rfl, ?_⟩
  repeat (first | exact B2.out | refine Below.setCell ?_ (by first | (simp; done) | (simp; omega)) _ | (refine Below.alloc ?_ (by first | exact B2.out.size | (simp; done) | (simp; omega)) _))

set_option maxHeartbeats 1600000 in
set_option maxRecDepth 100000 in
theorem paired_yes {w : World} {v : Value} {l : List Ent} (hv : Ents w v l) (hr : Rise l) (eo ec : List UInt8) (x1 x2 x3 x4 x5 : Bool) {fo fc : List UInt8} {i1 i2 i3 i4 i5 : Bool} (hlt : entPlace l ⟨ec, eo, ⟨false, false, false, false, false⟩⟩ < l.length) (he : l.getD (entPlace l ⟨ec, eo, ⟨false, false, false, false, false⟩⟩) Ent.zero = ⟨fo, fc, ⟨i1, i2, i3, i4, i5⟩⟩) (hs : entIs ⟨fo, fc, ⟨i1, i2, i3, i4, i5⟩⟩ ⟨ec, eo, ⟨false, false, false, false, false⟩⟩ = true) :
    Calls Try.prog 52 #[v, .agg #[.string ⟨eo.toArray⟩, .string ⟨ec.toArray⟩, .bool x1, .bool x2, .bool x3, .bool x4, .bool x5]] w fun e w' => e = .returned (.bool (suMay ⟨x1, x2, x3, x4, x5⟩ ⟨i1, i2, i3, i4, i5⟩ && !(suEmpty ⟨x1, x2, x3, x4, x5⟩ && suEmpty ⟨i1, i2, i3, i4, i5⟩))) ∧ Below w.heap.size w w' := by
  have B0 : Hid (Below w.heap.size w (w.alloc (.cells #[.string ⟨eo.toArray⟩, .string ⟨ec.toArray⟩, .bool x1, .bool x2, .bool x3, .bool x4, .bool x5] 49))) := Lib.hid ((Below.refl _ _).alloc (Nat.le_refl _) _)
  obtain ⟨m, hm0⟩ : ∃ m, suMay ⟨x1, x2, x3, x4, x5⟩ ⟨i1, i2, i3, i4, i5⟩ = m := ⟨_, rfl⟩
  obtain ⟨z, hz0⟩ : ∃ z, suEmpty ⟨x1, x2, x3, x4, x5⟩ = z := ⟨_, rfl⟩
  obtain ⟨y, hy0⟩ : ∃ y, suEmpty ⟨i1, i2, i3, i4, i5⟩ = y := ⟨_, rfl⟩
  rw [hm0, hz0, hy0]
  have HM := Lib.hid (smay_bl _ _ _ _ _ _ _ _ _ _ hm0)
  have HZ := Lib.hid (sempty_eq _ _ _ _ _ hz0)
  have HY := Lib.hid (sempty_eq _ _ _ _ _ hy0)
  clear hm0 hz0 hy0
  have HV := Lib.hid (hv.later B0.out)
  have HX := Lib.hid (cells7_made w ⟨eo, ec, ⟨x1, x2, x3, x4, x5⟩⟩ 49)
  have HE := Lib.hid (entry_any ec eo)
  obtain ⟨a, cap, rfl, hm⟩ := hv.open'
  cases m <;> cases z
  all_goals
    go_enter Try.func52, Try.ntmps52
    go_wp2_with fail
    refine (HE.out _).mono ?_
    rintro e w1 ⟨rfl, b1⟩
    go_wp2_with fail
    refine (find_yes (HV.out.later b1) hr ec eo false false false false false hlt he hs).mono ?_
    rintro e w2 ⟨rfl, b2⟩
    have b3 := below2S (below2S b1 b2) ((Below.refl _ _).alloc (Nat.le_refl _) (.cells #[.string ⟨fo.toArray⟩, .string ⟨fc.toArray⟩, .bool i1, .bool i2, .bool i3, .bool i4, .bool i5] 49))
    have B3 := Lib.hid (below2S B0.out b3)
    have X3 := Lib.hid (HX.out.later b3)
    have Y3 := Lib.hid (cells7_made w2 ⟨fo, fc, ⟨i1, i2, i3, i4, i5⟩⟩ 49)
    obtain ⟨c0, c1, c2, c3, c4, c5, c6⟩ := X3.out
    obtain ⟨d0, d1, d2, d3, d4, d5, d6⟩ := Y3.out
    simp only [Nat.zero_add] at c0 c1 c2 c3 c4 c5 c6 d0 d1 d2 d3 d4 d5 d6
    clear b1 b2 b3
    go_wp2_with fail
    refine (HM.out _).mono ?_
    rintro e w4 ⟨rfl, b4⟩
    have B4 := Lib.hid (below2S B3.out b4)
    have X4 := Lib.hid (X3.out.later b4)
    have Y4 := Lib.hid (Y3.out.later b4)
    obtain ⟨c0, c1, c2, c3, c4, c5, c6⟩ := X4.out
    obtain ⟨d0, d1, d2, d3, d4, d5, d6⟩ := Y4.out
    simp only [Nat.zero_add] at c0 c1 c2 c3 c4 c5 c6 d0 d1 d2 d3 d4 d5 d6
    clear b4
    go_wp2_with fail
  · go_ret
    exact ⟨rfl, B4.out⟩
  · go_ret
    exact ⟨rfl, B4.out⟩
  · refine (HZ.out _).mono ?_
    rintro e w5 ⟨rfl, b5⟩
    have B5 := Lib.hid (below2S B4.out b5)
    clear b5
    go_wp2_with fail
    go_ret
    exact ⟨rfl, B5.out⟩
  · refine (HZ.out _).mono ?_
    rintro e w5 ⟨rfl, b5⟩
    have B5 := Lib.hid (below2S B4.out b5)
    obtain ⟨d0, d1, d2, d3, d4, d5, d6⟩ := Y4.out.later b5
    simp only [Nat.zero_add] at d0 d1 d2 d3 d4 d5 d6
    clear b5
    go_wp2_with fail
    refine (HY.out _).mono ?_
    rintro e w6 ⟨rfl, b6⟩
    have B6 := Lib.hid (below2S B5.out b6)
    clear b6
    go_wp2_with fail
    go_ret
    exact ⟨rfl, B6.out⟩

end Go.Proofs.Ytfkadkopolenbaa

end

section

/-
  LAYER 8, THE CODE: whether entries are of names, and rise.
-/
namespace Go.Proofs.Ytfkadkopolenbaa
open Go.RowKit

/-- One entry is of two names, and stands behind the one ahead. -/
def riseAt (l : List Ent) (i : Nat) : Bool :=
  idIs (l.getD i Ent.zero).o && (idIs (l.getD i Ent.zero).c && (!decide ((l.getD i Ent.zero).o = (l.getD i Ent.zero).c) && (decide (i = 0) || entLt (l.getD (i - 1) Ent.zero) (l.getD i Ent.zero))))

def riseB (l : List Ent) : Bool := (List.range l.length).all (riseAt l)

theorem riseB_off {l : List Ent} {k : Nat} (hk : k < l.length) (h : riseAt l k = false) : riseB l = false := by
  rw [Bool.eq_false_iff]
  intro h'
  unfold riseB at h'
  rw [List.all_eq_true] at h'
  rw [h' k (by simpa using hk)] at h
  cases h

theorem rise_next {l : List Ent} {k : Nat} (h : (List.range k).all (riseAt l) = true) (hk : riseAt l k = true) : (List.range (k + 1)).all (riseAt l) = true := by
  rw [List.range_succ, List.all_append, h]
  simp [hk]

theorem riseB_at {l : List Ent} (h : riseB l = true) {k : Nat} (hk : k < l.length) : riseAt l k = true := by
  unfold riseB at h
  rw [List.all_eq_true] at h
  exact h k (by simpa using hk)

/-- What rises one by one rises. -/
theorem riseB_rise {l : List Ent} (h : riseB l = true) : Rise l := by
  have step : ∀ k, k + 1 < l.length → entLt (l.getD k Ent.zero) (l.getD (k + 1) Ent.zero) = true := by
    intro k hk
    have := riseB_at h hk
    unfold riseAt at this
    simp only [Bool.and_eq_true, Bool.or_eq_true, decide_eq_true_eq] at this
    rcases this.2.2.2 with h0 | h0
    · omega
    · rwa [show k + 1 - 1 = k by omega] at h0
  have far : ∀ d i, i + (d + 1) < l.length → entLt (l.getD i Ent.zero) (l.getD (i + (d + 1)) Ent.zero) = true := by
    intro d
    induction d with
    | zero => intro i hi; exact step i hi
    | succ d ih =>
      intro i hi
      exact entLt_trans (ih i (by omega)) (step (i + (d + 1)) (by omega))
  refine List.pairwise_iff_getElem.2 fun i j hi hj hij => ?_
  obtain ⟨d, rfl⟩ : ∃ d, j = i + (d + 1) := ⟨j - i - 1, by omega⟩
  have := far d i hj
  rwa [getD_at hi, getD_at hj] at this

theorem entI_ge {a b : Ent} {n : Int} (h : entI a b = n) : decide (0 ≤ n) = !entLt a b := by
  have hl := entI_lt a b
  rw [h] at hl
  cases hc : entLt a b with
  | true => rw [hc] at hl; have : n < 0 := by rw [hl]
            simp; omega
  | false => rw [hc] at hl; have : ¬ n < 0 := by rw [hl]; decide
             simp; omega

set_option maxHeartbeats 3200000 in
set_option maxRecDepth 100000 in
theorem rises_any {w : World} {v : Value} {l : List Ent} (hv : Ents w v l) (hs : ShortE l) :
    Calls Try.prog 50 #[v] w fun e w' => e = .returned (.bool (riseB l)) ∧ Below w.heap.size w w' := by
  have HV := Lib.hid hv
  have HS := Lib.hid hs
  obtain ⟨a, cap, rfl, hm⟩ := hv.open'
  clear hv hs
  go_enter Try.func50, Try.ntmps50
  go_wp2_with fail
  go_loopw [7] (fun i wr => ∃ k : Nat, k ≤ l.length ∧ i = .int .i64 k ∧ Hid (Below w.heap.size w wr) ∧ Hid ((List.range k).all (riseAt l) = true)) (fun i _ => l.length - (intOf i).toNat)
  case atStart => exact ⟨0, by omega, rfl, Below.refl _ _, by show _ = _; simp⟩
  case round =>
    obtain ⟨k, hk, rfl, HB, HA⟩ := hrel
    by_cases hlt : k < l.length
    · obtain ⟨b, off, rfl, h0, h1, h2, h3, h4, h5, h6⟩ := HV.out.row HB.out k hlt
      obtain ⟨hl1, hl2⟩ := HS.out.get hlt
      obtain ⟨⟨eo, ec, ⟨i1, i2, i3, i4, i5⟩⟩, hr⟩ : ∃ r, l.getD k Ent.zero = r := ⟨_, rfl⟩
      rw [hr] at h0 h1 h2 h3 h4 h5 h6 hl1 hl2
      simp only at h0 h1 h2 h3 h4 h5 h6 hl1 hl2
      have B1 := Lib.hid (bl_allocS HB.out (.cells #[.string ⟨eo.toArray⟩, .string ⟨ec.toArray⟩, .bool i1, .bool i2, .bool i3, .bool i4, .bool i5] 49))
      have C1 := Lib.hid (cells7_made wr ⟨eo, ec, ⟨i1, i2, i3, i4, i5⟩⟩ 49)
      cases hi : idIs eo with
      | false =>
        have HR : Hid (riseB l = false) := by show _ = _; exact riseB_off hlt (by unfold riseAt; rw [hr]; simp only; simp [hi])
        have HI := Lib.hid (is_eq eo hl1 (r := false) (Lib.hid hi))
        clear hi hr
        go_wp2_with fail
        refine (HI.out _).mono ?_
        rintro e w2 ⟨rfl, b2⟩
        have B2 := Lib.hid (below2S B1.out b2)
        clear b2
        go_wp2_with fail
        go_ret
        exact ⟨by rw [HR.out]; rfl, B2.out⟩
      | true =>
        have HI := Lib.hid (is_eq eo hl1 (r := true) (Lib.hid hi))
        cases hj : idIs ec with
        | false =>
          have HR : Hid (riseB l = false) := by show _ = _; exact riseB_off hlt (by unfold riseAt; rw [hr]; simp only; simp [hi, hj])
          have HJ := Lib.hid (is_eq ec hl2 (r := false) (Lib.hid hj))
          clear hi hj hr
          go_wp2_with fail
          refine (HI.out _).mono ?_
          rintro e w2 ⟨rfl, b2⟩
          have B2 := Lib.hid (below2S B1.out b2)
          obtain ⟨c0, c1, c2, c3, c4, c5, c6⟩ := C1.out.later b2
          simp only [Nat.zero_add] at c0 c1 c2 c3 c4 c5 c6
          clear b2
          go_wp2_with fail
          refine (HJ.out _).mono ?_
          rintro e w3 ⟨rfl, b3⟩
          have B3 := Lib.hid (below2S B2.out b3)
          clear b3 c0 c1 c2 c3 c4 c5 c6
          go_wp2_with fail
          go_ret
          exact ⟨by rw [HR.out]; rfl, B3.out⟩
        | true =>
          have HJ := Lib.hid (is_eq ec hl2 (r := true) (Lib.hid hj))
          by_cases hoc : eo = ec
          · subst hoc
            have HR : Hid (riseB l = false) := by show _ = _; exact riseB_off hlt (by unfold riseAt; rw [hr]; simp)
            clear hi hj hr
            go_wp2_with fail
            refine (HI.out _).mono ?_
            rintro e w2 ⟨rfl, b2⟩
            have B2 := Lib.hid (below2S B1.out b2)
            have C2 := Lib.hid (C1.out.later b2)
            obtain ⟨c0, c1, c2, c3, c4, c5, c6⟩ := C2.out
            simp only [Nat.zero_add] at c0 c1 c2 c3 c4 c5 c6
            have HB2 := Lib.hid b2
            clear b2
            go_wp2_with fail
            refine (HJ.out _).mono ?_
            rintro e w3 ⟨rfl, b3⟩
            have B3 := Lib.hid (below2S B2.out b3)
            have C3 := Lib.hid (C2.out.later b3)
            have HB3 := Lib.hid b3
            clear b3 c0 c1 c2 c3 c4 c5 c6
            obtain ⟨c0, c1, c2, c3, c4, c5, c6⟩ := C3.out
            simp only [Nat.zero_add] at c0 c1 c2 c3 c4 c5 c6
            go_wp2_with fail
            go_ret
            exact ⟨by rw [HR.out]; rfl, B3.out⟩
          · have toc : (eo == ec) = false := by rw [beq_eq_false_iff_ne]; exact hoc
            rcases Nat.eq_zero_or_pos k with rfl | hpos
            · have HA2 : Hid ((List.range (0 + 1)).all (riseAt l) = true) := by show _ = _; exact rise_next HA.out (by unfold riseAt; rw [hr]; simp [hi, hj, hoc])
              clear hi hj hr hoc
              simp only [Nat.zero_mul, Nat.add_zero] at h0 h1 h2 h3 h4 h5 h6
              go_wp2_with fail
              refine (HI.out _).mono ?_
              rintro e w2 ⟨rfl, b2⟩
              have B2 := Lib.hid (below2S B1.out b2)
              have C2 := Lib.hid (C1.out.later b2)
              obtain ⟨c0, c1, c2, c3, c4, c5, c6⟩ := C2.out
              simp only [Nat.zero_add] at c0 c1 c2 c3 c4 c5 c6
              have HB2 := Lib.hid b2
              clear b2
              go_wp2_with fail
              refine (HJ.out _).mono ?_
              rintro e w3 ⟨rfl, b3⟩
              have B3 := Lib.hid (below2S B2.out b3)
              have C3 := Lib.hid (C2.out.later b3)
              have HB3 := Lib.hid b3
              clear b3 c0 c1 c2 c3 c4 c5 c6
              obtain ⟨c0, c1, c2, c3, c4, c5, c6⟩ := C3.out
              simp only [Nat.zero_add] at c0 c1 c2 c3 c4 c5 c6
              go_wp2_with fail
              have q0 := cell_regrown c0
              have q1 := cell_regrown c1
              have q2 := cell_regrown c2
              have q3 := cell_regrown c3
              have q4 := cell_regrown c4
              have q5 := cell_regrown c5
              have q6 := cell_regrown c6
              clear c0 c1 c2 c3 c4 c5 c6
              refine wp_region_quiet_below (by kernel_rfl) (by kernel_rfl) ?_
              repeat (go_big_quiet_step (fail))
              refine wpQuiet_nil ?_
              intro w5 hw5
              have B5 := Lib.hid (below2S B3.out (regrown_belowP hw5))
              clear hw5 q0 q1 q2 q3 q4 q5 q6
              go_wp2_with fail
              go_roundw
              case rel => exact ⟨1, by omega, by go_num, B5, HA2⟩
              case measure => simp [intOf]; omega
            · obtain ⟨j, rfl⟩ : ∃ j, k = j + 1 := ⟨k - 1, by omega⟩
              obtain ⟨b2, off2, e2, hP⟩ := HV.out.row HB.out j (by omega)
              injection e2 with e2
              injection e2 with e3 e4 _
              subst e3 e4
              obtain ⟨⟨po, pc, ⟨j1, j2, j3, j4, j5⟩⟩, hr2⟩ : ∃ r, l.getD j Ent.zero = r := ⟨_, rfl⟩
              rw [hr2] at hP
              have HP := Lib.hid hP
              have HCmp := Lib.hid (rcompare_any po pc eo ec j1 j2 j3 j4 j5 i1 i2 i3 i4 i5)
              obtain ⟨n, hn⟩ : ∃ n, entI ⟨po, pc, ⟨j1, j2, j3, j4, j5⟩⟩ ⟨eo, ec, ⟨i1, i2, i3, i4, i5⟩⟩ = n := ⟨_, rfl⟩
              have hge := entI_ge hn
              rw [hn] at HCmp
              clear hn hP
              cases hc : entLt ⟨po, pc, ⟨j1, j2, j3, j4, j5⟩⟩ ⟨eo, ec, ⟨i1, i2, i3, i4, i5⟩⟩ with
              | true =>
                rw [hc] at hge
                simp only [Bool.not_true] at hge
                have HA2 : Hid ((List.range (j + 1 + 1)).all (riseAt l) = true) := by show _ = _; exact rise_next HA.out (by unfold riseAt; rw [hr, show j + 1 - 1 = j by omega, hr2]; simp [hi, hj, hoc, hc])
                clear hi hj hr hoc hr2 hc
                go_wp2_with fail
                refine (HI.out _).mono ?_
                rintro e w2 ⟨rfl, b2⟩
                have B2 := Lib.hid (below2S B1.out b2)
                have C2 := Lib.hid (C1.out.later b2)
                obtain ⟨c0, c1, c2, c3, c4, c5, c6⟩ := C2.out
                simp only [Nat.zero_add] at c0 c1 c2 c3 c4 c5 c6
                have HB2 := Lib.hid b2
                clear b2
                go_wp2_with fail
                refine (HJ.out _).mono ?_
                rintro e w3 ⟨rfl, b3⟩
                have B3 := Lib.hid (below2S B2.out b3)
                have C3 := Lib.hid (C2.out.later b3)
                have HB3 := Lib.hid b3
                clear b3 c0 c1 c2 c3 c4 c5 c6
                obtain ⟨c0, c1, c2, c3, c4, c5, c6⟩ := C3.out
                simp only [Nat.zero_add] at c0 c1 c2 c3 c4 c5 c6
                go_wp2_with fail
                obtain ⟨p0, p1, p2, p3, p4, p5, p6⟩ := cells7_regrown (HP.out.later (below2S (below2S ((Below.refl _ _).alloc (Nat.le_refl _) _) HB2.out) HB3.out))
                have q0 := cell_regrown c0
                have q1 := cell_regrown c1
                have q2 := cell_regrown c2
                have q3 := cell_regrown c3
                have q4 := cell_regrown c4
                have q5 := cell_regrown c5
                have q6 := cell_regrown c6
                clear c0 c1 c2 c3 c4 c5 c6
                refine wp_region_quiet_below (by kernel_rfl) (by kernel_rfl) ?_
                repeat (go_big_quiet_step (with_reducible exact rgB HCmp.out _ _ _))
                refine wpQuiet_nil ?_
                intro w5 hw5
                have B5 := Lib.hid (below2S B3.out (regrown_belowP hw5))
                clear hw5 p0 p1 p2 p3 p4 p5 p6 q0 q1 q2 q3 q4 q5 q6
                go_wp2_with fail
                go_roundw
                case rel => exact ⟨j + 1 + 1, by omega, by go_num, B5, HA2⟩
                case measure => simp [intOf]; omega
              | false =>
                rw [hc] at hge
                simp only [Bool.not_false] at hge
                have HR : Hid (riseB l = false) := by show _ = _; exact riseB_off hlt (by unfold riseAt; rw [hr, show j + 1 - 1 = j by omega, hr2]; simp [hc])
                clear hi hj hr hoc hr2 hc
                go_wp2_with fail
                refine (HI.out _).mono ?_
                rintro e w2 ⟨rfl, b2⟩
                have B2 := Lib.hid (below2S B1.out b2)
                have C2 := Lib.hid (C1.out.later b2)
                obtain ⟨c0, c1, c2, c3, c4, c5, c6⟩ := C2.out
                simp only [Nat.zero_add] at c0 c1 c2 c3 c4 c5 c6
                have HB2 := Lib.hid b2
                clear b2
                go_wp2_with fail
                refine (HJ.out _).mono ?_
                rintro e w3 ⟨rfl, b3⟩
                have B3 := Lib.hid (below2S B2.out b3)
                have C3 := Lib.hid (C2.out.later b3)
                have HB3 := Lib.hid b3
                clear b3 c0 c1 c2 c3 c4 c5 c6
                obtain ⟨c0, c1, c2, c3, c4, c5, c6⟩ := C3.out
                simp only [Nat.zero_add] at c0 c1 c2 c3 c4 c5 c6
                go_wp2_with fail
                obtain ⟨p0, p1, p2, p3, p4, p5, p6⟩ := cells7_regrown (HP.out.later (below2S (below2S ((Below.refl _ _).alloc (Nat.le_refl _) _) HB2.out) HB3.out))
                have q0 := cell_regrown c0
                have q1 := cell_regrown c1
                have q2 := cell_regrown c2
                have q3 := cell_regrown c3
                have q4 := cell_regrown c4
                have q5 := cell_regrown c5
                have q6 := cell_regrown c6
                clear c0 c1 c2 c3 c4 c5 c6
                refine wp_region_quiet_below (by kernel_rfl) (by kernel_rfl) ?_
                repeat (go_big_quiet_step (with_reducible exact rgB HCmp.out _ _ _))
                refine wpQuiet_nil ?_
                intro w5 hw5
                have B5 := Lib.hid (below2S B3.out (regrown_belowP hw5))
                clear hw5 p0 p1 p2 p3 p4 p5 p6 q0 q1 q2 q3 q4 q5 q6
                go_wp2_with fail
                go_ret
                exact ⟨by rw [HR.out]; rfl, B5.out⟩
    · obtain rfl : k = l.length := by omega
      have HR : Hid (riseB l = true) := HA
      go_wp2_with fail
      go_ret
      exact ⟨by rw [HR.out]; rfl, HB.out⟩

end Go.Proofs.Ytfkadkopolenbaa

end

section

/-
  LAYER 8, THE CODE: whether an entry is one more than its Owner may have.
-/
namespace Go.Proofs.Ytfkadkopolenbaa
open Go.RowKit

set_option maxHeartbeats 1600000 in
set_option maxRecDepth 100000 in
theorem over_any {w : World} {v : Value} {l : List Ent} (hv : Ents w v l) {k : Nat} (hk : k < l.length) :
    Calls Try.prog 51 #[v, .int .i64 k] w fun e w' => e = .returned (.bool (roOver l k)) ∧ Below w.heap.size w w' := by
  have HV := Lib.hid hv
  obtain ⟨a, cap, rfl, hm⟩ := hv.open'
  clear hv
  by_cases h16 : 16 ≤ k
  · obtain ⟨b, off, rfl, hA⟩ := HV.out.row (Below.refl _ _) (k - 16) (by omega)
    obtain ⟨b2, off2, e2, hB⟩ := HV.out.row (Below.refl _ _) k hk
    injection e2 with e2
    injection e2 with e3 e4 _
    subst e3 e4
    obtain ⟨x, hx⟩ : ∃ x, (l.getD (k - 16) Ent.zero).o = x := ⟨_, rfl⟩
    obtain ⟨y, hy⟩ : ∃ y, (l.getD k Ent.zero).o = y := ⟨_, rfl⟩
    have g0 := cell_regrown hA.1
    have g1 := cell_regrown hB.1
    rw [hx] at g0
    rw [hy] at g1
    have HR : Hid (roOver l k = (x == y)) := by
      show _ = _
      unfold roOver
      rw [hx, hy, show decide (16 ≤ k) = true by simpa using h16, Bool.true_and]
      by_cases h : x = y <;> simp [h]
    obtain ⟨r, hr⟩ : ∃ r, (x == y) = r := ⟨_, rfl⟩
    rw [HR.out, hr]
    have t1 : decide (16 ≤ (k : Int)) = true := by simp; omega
    have e16 : (16 : Int) ≤ (k : Int) := by omega
    have hj1 : (k : Int) - 16 < (l.length : Int) := by omega
    have hj0 : (0 : Int) ≤ (k : Int) - 16 := by omega
    have hj2 : (k : Int) < (l.length : Int) := by omega
    have hw : IntKind.i64.wrap ((k : Int) - 16) = (k : Int) - 16 := IntWalk.i64_in _ (by omega)
    have hn : ((k : Int) - 16).toNat = k - 16 := by omega
    clear hx hy HR hA hB
    go_enter Try.func51, Try.ntmps51
    go_wp2_with fail
    refine wp_region_quiet_below (by kernel_rfl) (by kernel_rfl) ?_
    repeat (go_big_quiet_step (fail))
    refine wpQuiet_nil ?_
    intro w5 hw5
    have B5 := Lib.hid (regrown_belowP hw5)
    clear hw5 g0 g1
    go_wp2_with fail
    go_ret
    exact ⟨rfl, B5.out⟩
  · have HR : Hid (roOver l k = false) := by show _ = _; unfold roOver; simp [h16]
    have t1 : decide (16 ≤ (k : Int)) = false := by simp; omega
    clear h16
    rw [HR.out]
    go_enter Try.func51, Try.ntmps51
    go_wp2_with fail
    refine wp_region_quiet_below (by kernel_rfl) (by kernel_rfl) ?_
    repeat (go_big_quiet_step (fail))
    refine wpQuiet_nil ?_
    intro w5 hw5
    have B5 := Lib.hid (regrown_belowP hw5)
    clear hw5
    go_wp2_with fail
    go_ret
    exact ⟨rfl, B5.out⟩

end Go.Proofs.Ytfkadkopolenbaa

end

section

/-
  LAYER 8, PLAIN: of rosters that may be come rosters that may be; nobody else's items turn.
-/
namespace Go.Proofs.Ytfkadkopolenbaa

/-- What rosters may be, entry by entry. -/
def RoM (l : List Ent) : Prop := Rise l ∧ ∀ e ∈ l, idIs e.o = true ∧ idIs e.c = true ∧ e.o ≠ e.c ∧ (roOf l e.o).length ≤ 16 ∧ ∃ f ∈ l, f.o = e.c ∧ f.c = e.o ∧ suMay e.it f.it = true ∧ (suEmpty e.it && suEmpty f.it) = false

theorem roIt_mem {l : List Ent} (hr : Rise l) {f : Ent} (hf : f ∈ l) : roIt l f.o f.c = f.it := by
  unfold roIt
  cases h : l.find? (fun e => entIs e ⟨f.o, f.c, It.zero⟩) with
  | none =>
    exact absurd (entIs_iff.2 ⟨rfl, rfl⟩ : entIs f ⟨f.o, f.c, It.zero⟩ = true) ((List.find?_eq_none.1 h) f hf)
  | some e =>
    have h1 := List.find?_some h
    have h2 := List.mem_of_find?_eq_some h
    have h3 : entIs e f = true := entIs_iff.2 (entIs_iff.1 h1)
    rw [rise_mem entOrd hr h2 hf h3]

theorem roIt_none {l : List Ent} {o c : List UInt8} (h : ∀ e ∈ l, ¬ (e.o = o ∧ e.c = c)) : roIt l o c = It.zero := by
  unfold roIt
  rw [List.find?_eq_none.2 (fun e he => by
    intro h'
    exact h e he (entIs_iff.1 h'))]

theorem roAny {l : List Ent} {o c : List UInt8} : (l.any fun x => entIs x ⟨o, c, It.zero⟩) = true ↔ ∃ f ∈ l, f.o = o ∧ f.c = c := by
  rw [List.any_eq_true]
  constructor
  · rintro ⟨f, hf, h⟩
    exact ⟨f, hf, entIs_iff.1 h⟩
  · rintro ⟨f, hf, h⟩
    exact ⟨f, hf, entIs_iff.2 h⟩

theorem roPaired_iff {l : List Ent} (hr : Rise l) (e : Ent) : roPaired l e = true ↔ ∃ f ∈ l, f.o = e.c ∧ f.c = e.o ∧ suMay e.it f.it = true ∧ (suEmpty e.it && suEmpty f.it) = false := by
  unfold roPaired
  rw [Bool.and_eq_true, roAny]
  constructor
  · rintro ⟨⟨f, hf, h1, h2⟩, h⟩
    rw [← h1, ← h2, roIt_mem hr hf, Bool.and_eq_true, Bool.not_eq_true'] at h
    exact ⟨f, hf, h1, h2, h.1, h.2⟩
  · rintro ⟨f, hf, h1, h2, h3, h4⟩
    refine ⟨⟨f, hf, h1, h2⟩, ?_⟩
    rw [← h1, ← h2, roIt_mem hr hf, h3, h4]
    rfl

theorem roMay_iff {l : List Ent} : roMayC l = true ↔ RoM l := by
  rw [← roMay_same]
  unfold roMayD RoM
  rw [List.all_eq_true]
  constructor
  · intro h
    have hr : Rise l := roRise_rise (by
      rw [List.all_eq_true]
      intro i hi
      have := h i hi
      unfold roDocAt at this
      rw [Bool.and_eq_true] at this
      exact this.1)
    refine ⟨hr, fun e he => ?_⟩
    obtain ⟨i, hi, rfl⟩ := List.getElem_of_mem he
    have := h i (List.mem_range.2 hi)
    unfold roDocAt roRiseAt at this
    rw [getD_at hi] at this
    simp only [Bool.and_eq_true, decide_eq_true_eq, Bool.not_eq_true', decide_eq_false_iff_not] at this
    exact ⟨this.1.1, this.1.2.1, this.1.2.2.1, this.2.1, (roPaired_iff hr _).1 this.2.2⟩
  · rintro ⟨hr, h⟩ i hi
    have hi' := List.mem_range.1 hi
    obtain ⟨h1, h2, h3, h4, h5⟩ := h _ (List.getElem_mem hi')
    unfold roDocAt roRiseAt
    rw [getD_at hi', h1, h2, (roPaired_iff hr _).2 h5]
    simp only [h3, h4, decide_true, decide_false, Bool.not_false, Bool.true_and, Bool.and_true]
    by_cases h0 : i = 0
    · simp [h0]
    · have h6 : entLt (l.getD (i - 1) Ent.zero) l[i] = true := by
        rw [getD_at (by omega)]
        exact rise_get hr hi' (by omega)
      rw [h6]
      simp

/-- How many entries one owner has. -/
def cntO (l : List Ent) (p : List UInt8) : Nat := (l.filter (ofOwner p)).length

theorem cnt_put {l : List Ent} (x : Ent) (p : List UInt8) : cntO (putO entLt entIs l x) p = cntO l p + (if (l.any fun e => entIs e x) = true then 0 else if x.o = p then 1 else 0) := by
  unfold cntO putO
  cases h : findO entIs l x with
  | some i =>
    obtain ⟨hi, he, _⟩ := findO_some h
    have ha : (l.any fun e => entIs e x) = true := by rw [List.any_eq_true]; exact ⟨_, List.getElem_mem hi, he⟩
    rw [if_pos ha]
    show ((l.set i x).filter (ofOwner p)).length = _
    rw [List.set_eq_take_append_cons_drop, if_pos hi]
    conv => rhs; rw [← List.take_append_drop i l, List.drop_eq_getElem_cons hi]
    rw [List.filter_append, List.filter_append, List.filter_cons, List.filter_cons]
    have : ofOwner p x = ofOwner p l[i] := by unfold ofOwner; rw [(entIs_iff.1 he).1]
    rw [this]
    cases ofOwner p l[i] <;> simp
  | none =>
    have ha : (l.any fun e => entIs e x) = false := by rw [List.any_eq_false]; intro e he; rw [findO_none h e he]; simp
    rw [ha, if_neg (by simp)]
    show ((putS l _ x).filter (ofOwner p)).length = _
    unfold putS
    conv => rhs; rw [← List.take_append_drop (placeO entLt l x) l]
    rw [List.filter_append, List.filter_append, List.filter_append, List.length_append, List.length_append, List.length_append]
    have : ([x].filter (ofOwner p)).length = if x.o = p then 1 else 0 := by
      unfold ofOwner
      by_cases hx : x.o = p
      · simp [hx]
      · simp [hx]
    rw [this]
    omega

theorem cnt_drop (l : List Ent) (x : Ent) (p : List UInt8) : cntO (dropO entIs l x) p ≤ cntO l p := by
  unfold cntO dropO
  rw [List.filter_filter]
  have : l.filter (fun a => ofOwner p a && !entIs a x) = (l.filter (ofOwner p)).filter (fun a => !entIs a x) := by rw [List.filter_filter]; congr 1; funext a; exact Bool.and_comm _ _
  rw [this]
  exact List.length_filter_le _ _

theorem roOf_cnt (l : List Ent) (p : List UInt8) : (roOf l p).length = cntO l p := roOf_len l p

theorem roDo_ok {l m : List Ent} {k : Int} {u o : List UInt8} (h : roDo l k u o = (m, 0)) : RoM l ∧ idIs u = true ∧ idIs o = true ∧ u ≠ o ∧ 1 ≤ k ∧ k ≤ 6 ∧
    ∃ a b, suAct (roIt l u o) (roIt l o u) k = (a, b, 0) ∧ ((∃ f ∈ l, f.o = u ∧ f.c = o) ∨ ((roOf l u).length < 16 ∧ (roOf l o).length < 16)) ∧
    m = roSet (roSet l ⟨u, o, a⟩ (!(suEmpty a && suEmpty b))) ⟨o, u, b⟩ (!(suEmpty a && suEmpty b)) := by
  unfold roDo at h
  split at h
  · next hc =>
    simp only [Bool.and_eq_true, Bool.not_eq_true', decide_eq_true_eq, decide_eq_false_iff_not] at hc
    obtain ⟨⟨a, b⟩, e, hx⟩ : ∃ p e, suAct (roIt l u o) (roIt l o u) k = (p.1, p.2, e) := ⟨(_, _), _, rfl⟩
    simp only at hx
    rw [hx] at h
    simp only at h
    split at h
    · next he => simp only [Prod.mk.injEq] at h; exact absurd h.2 he
    · next he =>
      have he : e = 0 := by simpa using he
      subst he
      split at h
      · simp at h
      · next hf =>
        simp only [Prod.mk.injEq, and_true] at h
        refine ⟨roMay_iff.1 hc.1, hc.2.1, hc.2.2.1, hc.2.2.2.1, hc.2.2.2.2.1, hc.2.2.2.2.2, a, b, hx, ?_, h.symm⟩
        simp only [Bool.and_eq_true, Bool.not_eq_true', Bool.or_eq_true, decide_eq_true_eq] at hf
        by_cases ha : (l.any fun x => entIs x ⟨u, o, It.zero⟩) = true
        · exact .inl (roAny.1 ha)
        · exact .inr (by
            rw [Bool.not_eq_true] at ha
            have : ¬ (16 ≤ (roOf l u).length ∨ 16 ≤ (roOf l o).length) := fun h' => hf ⟨ha, h'⟩
            omega)
  · simp at h

/-- Who stands in it then. -/
theorem roSet_mem {l : List Ent} (hr : Rise l) {u o : List UInt8} (huo : u ≠ o) (a b : It) (keep : Bool) (y : Ent) :
    y ∈ roSet (roSet l ⟨u, o, a⟩ keep) ⟨o, u, b⟩ keep ↔ (keep = true ∧ (y = ⟨u, o, a⟩ ∨ y = ⟨o, u, b⟩)) ∨ (y ∈ l ∧ ¬ (y.o = u ∧ y.c = o) ∧ ¬ (y.o = o ∧ y.c = u)) := by
  have e1 : ∀ z : Ent, ∀ p q : List UInt8, ∀ i : It, entIs z ⟨p, q, i⟩ = false ↔ ¬ (z.o = p ∧ z.c = q) := fun z p q i => by
    rw [Bool.eq_false_iff, Ne, entIs_iff]
  cases keep with
  | true =>
    rw [roSet_keep (roSet_rise hr _ _), mem_putO entOrd (roSet_rise hr _ _), roSet_keep hr, mem_putO entOrd hr, e1, e1]
    constructor
    · rintro (h | ⟨h | ⟨h1, h2⟩, h3⟩)
      · exact .inl ⟨rfl, .inr h⟩
      · exact .inl ⟨rfl, .inl h⟩
      · exact .inr ⟨h1, h2, h3⟩
    · rintro (⟨_, h | h⟩ | ⟨h1, h2, h3⟩)
      · exact .inr ⟨.inl h, by rw [h]; exact fun h' => huo h'.1⟩
      · exact .inl h
      · exact .inr ⟨.inr ⟨h1, h2⟩, h3⟩
  | false =>
    rw [roSet_drop, mem_dropO, roSet_drop, mem_dropO, e1, e1]
    constructor
    · rintro ⟨⟨h1, h2⟩, h3⟩
      exact .inr ⟨h1, h2, h3⟩
    · rintro (⟨h, _⟩ | ⟨h1, h2, h3⟩)
      · cases h
      · exact ⟨⟨h1, h2⟩, h3⟩

/-- P8.4: of rosters that may be come rosters that may be. -/
theorem roDo_may {l m : List Ent} {k : Int} {u o : List UInt8} (h : roDo l k u o = (m, 0)) : RoM m := by
  obtain ⟨⟨hr, hl⟩, hu, ho, huo, hk1, hk6, a, b, hx, hfull, rfl⟩ := roDo_ok h
  have hmay := (suAct_may hx).1
  have hmay' : suMay b a = true := (suMay_comm b a).trans hmay
  obtain ⟨keep, hk⟩ : ∃ keep, (!(suEmpty a && suEmpty b)) = keep := ⟨_, rfl⟩
  rw [hk]
  have hmem := roSet_mem hr huo a b keep
  have hrm : Rise (roSet (roSet l ⟨u, o, a⟩ keep) ⟨o, u, b⟩ keep) := roSet_rise (roSet_rise hr _ _) _ _
  have hpair : (∃ f ∈ l, f.o = u ∧ f.c = o) → ∃ f ∈ l, f.o = o ∧ f.c = u := by
    rintro ⟨f, hf, h1, h2⟩
    obtain ⟨_, _, _, _, g, hg, g1, g2, _⟩ := hl f hf
    exact ⟨g, hg, by rw [g1, h2], by rw [g2, h1]⟩
  have hcnt : ∀ p, (∃ y ∈ l, y.o = p) ∨ (keep = true ∧ (p = u ∨ p = o)) → (roOf (roSet (roSet l ⟨u, o, a⟩ keep) ⟨o, u, b⟩ keep) p).length ≤ 16 := by
    intro p hp
    rw [roOf_cnt]
    have hin : (∃ y ∈ l, y.o = p) → cntO l p ≤ 16 := by
      rintro ⟨y, hy, rfl⟩
      have := (hl y hy).2.2.2.1
      rwa [roOf_cnt] at this
    cases keep with
    | false =>
      rw [roSet_drop, roSet_drop]
      rcases hp with hp | ⟨hp, _⟩
      · exact Nat.le_trans (cnt_drop _ _ _) (Nat.le_trans (cnt_drop _ _ _) (hin hp))
      · cases hp
    | true =>
      rw [roSet_keep (roSet_rise hr _ _), cnt_put, roSet_keep hr, cnt_put]
      by_cases hthere : ∃ f ∈ l, f.o = u ∧ f.c = o
      · have a1 : (l.any fun e => entIs e ⟨u, o, a⟩) = true := by
          obtain ⟨f, hf, h1⟩ := hthere
          rw [List.any_eq_true]
          exact ⟨f, hf, entIs_iff.2 h1⟩
        have a2 : ((putO entLt entIs l ⟨u, o, a⟩).any fun e => entIs e ⟨o, u, b⟩) = true := by
          obtain ⟨f, hf, h1, h2⟩ := hpair hthere
          rw [List.any_eq_true]
          refine ⟨f, (mem_putO entOrd hr _ _).2 (.inr ⟨hf, ?_⟩), entIs_iff.2 ⟨h1, h2⟩⟩
          rw [Bool.eq_false_iff, Ne, entIs_iff]
          exact fun h' => huo (h'.1.symm.trans h1)
        rw [a1, a2]
        simp only [if_true, Nat.add_zero]
        rcases hp with hp | ⟨_, rfl | rfl⟩
        · exact hin hp
        · obtain ⟨f, hf, h1, _⟩ := hthere
          exact hin ⟨f, hf, h1⟩
        · obtain ⟨f, hf, h1, _⟩ := hpair hthere
          exact hin ⟨f, hf, h1⟩
      · have hlt := hfull.resolve_left hthere
        rw [roOf_cnt, roOf_cnt] at hlt
        have hb1 : ∀ (q : Bool), (if q = true then 0 else if (⟨u, o, a⟩ : Ent).o = p then 1 else 0) ≤ (if u = p then 1 else 0 : Nat) := fun q => by cases q <;> simp
        have hb2 : ∀ (q : Bool), (if q = true then 0 else if (⟨o, u, b⟩ : Ent).o = p then 1 else 0) ≤ (if o = p then 1 else 0 : Nat) := fun q => by cases q <;> simp
        have c1 := hb1 (l.any fun e => entIs e ⟨u, o, a⟩)
        have c2 := hb2 ((putO entLt entIs l ⟨u, o, a⟩).any fun e => entIs e ⟨o, u, b⟩)
        refine Nat.le_trans (Nat.add_le_add (Nat.add_le_add_left c1 _) c2) ?_
        by_cases hpu : u = p
        · subst hpu
          rw [if_pos rfl, if_neg (fun e => huo e.symm)]
          omega
        · by_cases hpo : o = p
          · subst hpo
            rw [if_neg hpu, if_pos rfl]
            omega
          · rw [if_neg hpu, if_neg hpo]
            rcases hp with hp | ⟨_, rfl | rfl⟩
            · exact hin hp
            · exact absurd rfl hpu
            · exact absurd rfl hpo
  refine ⟨hrm, fun y hy => ?_⟩
  have hne : keep = true → (suEmpty a && suEmpty b) = false := fun hkt => by rw [hkt, Bool.not_eq_true'] at hk; exact hk
  rcases (hmem y).1 hy with ⟨hkt, rfl | rfl⟩ | ⟨h1, h2, h3⟩
  · exact ⟨hu, ho, huo, hcnt _ (.inr ⟨hkt, .inl rfl⟩), ⟨o, u, b⟩, (hmem _).2 (.inl ⟨hkt, .inr rfl⟩), rfl, rfl, hmay, hne hkt⟩
  · exact ⟨ho, hu, fun e => huo e.symm, hcnt _ (.inr ⟨hkt, .inr rfl⟩), ⟨u, o, a⟩, (hmem _).2 (.inl ⟨hkt, .inl rfl⟩), rfl, rfl, hmay', by rw [Bool.and_comm]; exact hne hkt⟩
  · obtain ⟨i1, i2, i3, i4, f, hf, f1, f2, f3, f4⟩ := hl y h1
    refine ⟨i1, i2, i3, hcnt _ (.inl ⟨y, h1, rfl⟩), f, (hmem f).2 (.inr ⟨hf, ?_, ?_⟩), f1, f2, f3, f4⟩
    · rintro ⟨g1, g2⟩
      exact h3 ⟨f2.symm.trans g2, f1.symm.trans g1⟩
    · rintro ⟨g1, g2⟩
      exact h2 ⟨f2.symm.trans g2, f1.symm.trans g1⟩

/-- .. what anyone else has on anyone stays. -/
theorem roDo_other {l m : List Ent} {k : Int} {u o : List UInt8} (h : roDo l k u o = (m, 0)) {p q : List UInt8} (h1 : ¬ (p = u ∧ q = o)) (h2 : ¬ (p = o ∧ q = u)) : roIt m p q = roIt l p q := by
  have hm := (roDo_may h).1
  obtain ⟨⟨hr, hl⟩, hu, ho, huo, hk1, hk6, a, b, hx, hfull, rfl⟩ := roDo_ok h
  have hmem := roSet_mem hr huo a b (!(suEmpty a && suEmpty b))
  by_cases hf : ∃ f ∈ l, f.o = p ∧ f.c = q
  · obtain ⟨f, hf, rfl, rfl⟩ := hf
    rw [roIt_mem hr hf, roIt_mem hm ((hmem f).2 (.inr ⟨hf, h1, h2⟩))]
  · rw [roIt_none (fun e he h' => hf ⟨e, he, h'⟩), roIt_none]
    intro e he h'
    rcases (hmem e).1 he with ⟨_, rfl | rfl⟩ | ⟨h3, _⟩
    · exact h1 ⟨h'.1.symm, h'.2.symm⟩
    · exact h2 ⟨h'.1.symm, h'.2.symm⟩
    · exact hf ⟨e, h3, h'⟩

theorem roDo_err {l m : List Ent} {k : Int} {u o : List UInt8} {e : Nat} (h : roDo l k u o = (m, e)) (he : e ≠ 0) : m = l := by
  unfold roDo at h
  split at h
  · obtain ⟨⟨a, b⟩, e', hx⟩ : ∃ p e, suAct (roIt l u o) (roIt l o u) k = (p.1, p.2, e) := ⟨(_, _), _, rfl⟩
    simp only at hx
    rw [hx] at h
    simp only at h
    split at h
    · simp only [Prod.mk.injEq] at h; exact h.1.symm
    · split at h
      · simp only [Prod.mk.injEq] at h; exact h.1.symm
      · simp only [Prod.mk.injEq] at h; exact absurd h.2.symm he
  · simp only [Prod.mk.injEq] at h; exact h.1.symm

end Go.Proofs.Ytfkadkopolenbaa

end

section

/-
  LAYER 8, PLAIN: has an entry its counterpart? Told from what stands at the counterpart's place.
-/
namespace Go.Proofs.Ytfkadkopolenbaa

theorem roPaired_off {l : List Ent} {eo ec : List UInt8} {x : It} (hany : (l.any fun e => entIs e ⟨ec, eo, ⟨false, false, false, false, false⟩⟩) = false) : roPaired l ⟨eo, ec, x⟩ = false := by
  show ((l.any fun x => entIs x ⟨ec, eo, ⟨false, false, false, false, false⟩⟩) && _) = false
  rw [hany, Bool.false_and]

theorem roPaired_on {l : List Ent} (hr : Rise l) {eo ec fo fc : List UInt8} {x i : It} (hany : (l.any fun e => entIs e ⟨ec, eo, ⟨false, false, false, false, false⟩⟩) = true)
    (hlt : entPlace l ⟨ec, eo, ⟨false, false, false, false, false⟩⟩ < l.length) (he : l.getD (entPlace l ⟨ec, eo, ⟨false, false, false, false, false⟩⟩) Ent.zero = ⟨fo, fc, i⟩)
    (hs : entIs ⟨fo, fc, i⟩ ⟨ec, eo, ⟨false, false, false, false, false⟩⟩ = true) : roPaired l ⟨eo, ec, x⟩ = (suMay x i && !(suEmpty x && suEmpty i)) := by
  have hm : (⟨fo, fc, i⟩ : Ent) ∈ l := by rw [← he, getD_at hlt]; exact List.getElem_mem hlt
  have hit := roIt_mem hr hm
  obtain ⟨ho, hc⟩ := entIs_iff.1 hs
  simp only at ho hc hit
  subst ho hc
  unfold roPaired
  simp only []
  rw [hit, show (l.any fun x => entIs x ⟨fo, fc, It.zero⟩) = true from hany, Bool.true_and]

/-- Where the counterpart stands. -/
theorem roPair_place {l : List Ent} (hr : Rise l) {eo ec : List UInt8} (hany : (l.any fun e => entIs e ⟨ec, eo, ⟨false, false, false, false, false⟩⟩) = true) :
    entPlace l ⟨ec, eo, ⟨false, false, false, false, false⟩⟩ < l.length ∧ entIs (l.getD (entPlace l ⟨ec, eo, ⟨false, false, false, false, false⟩⟩) Ent.zero) ⟨ec, eo, ⟨false, false, false, false, false⟩⟩ = true := by
  have ht := (entPlace_there hr ⟨ec, eo, ⟨false, false, false, false, false⟩⟩).trans hany
  rw [Bool.and_eq_true, decide_eq_true_eq] at ht
  exact ht

end Go.Proofs.Ytfkadkopolenbaa

end

section

/-
  LAYER 8: isPaired against one plain function.
-/
namespace Go.Proofs.Ytfkadkopolenbaa
open Go.RowKit

theorem paired_any {w : World} {v : Value} {l : List Ent} (hv : Ents w v l) (hr : Rise l) (eo ec : List UInt8) (x1 x2 x3 x4 x5 : Bool) {r : Bool} (h : Hid (roPaired l ⟨eo, ec, ⟨x1, x2, x3, x4, x5⟩⟩ = r)) :
    Calls Try.prog 52 #[v, .agg #[.string ⟨eo.toArray⟩, .string ⟨ec.toArray⟩, .bool x1, .bool x2, .bool x3, .bool x4, .bool x5]] w fun e w' => e = .returned (.bool r) ∧ Below w.heap.size w w' := by
  cases hany : (l.any fun e => entIs e ⟨ec, eo, ⟨false, false, false, false, false⟩⟩) with
  | false =>
    have hR := roPaired_off (x := ⟨x1, x2, x3, x4, x5⟩) hany
    rw [h.out] at hR
    subst hR
    exact paired_no hv hr eo ec x1 x2 x3 x4 x5 hany
  | true =>
    obtain ⟨hlt, hs⟩ := roPair_place hr hany
    obtain ⟨⟨fo, fc, ⟨i1, i2, i3, i4, i5⟩⟩, he⟩ : ∃ r, l.getD (entPlace l ⟨ec, eo, ⟨false, false, false, false, false⟩⟩) Ent.zero = r := ⟨_, rfl⟩
    rw [he] at hs
    have hP := paired_yes hv hr eo ec x1 x2 x3 x4 x5 hlt he hs
    have hR := roPaired_on (x := ⟨x1, x2, x3, x4, x5⟩) hr hany hlt he hs
    rw [h.out] at hR
    rw [← hR] at hP
    exact hP

end Go.Proofs.Ytfkadkopolenbaa

end

section

/-
  LAYER 8, THE CODE: whether rosters may be.
-/
namespace Go.Proofs.Ytfkadkopolenbaa
open Go.RowKit

theorem roMayC_off {l : List Ent} {k : Nat} (hk : k < l.length) (h : roCodeAt l k = false) : roMayC l = false := by
  rw [Bool.eq_false_iff]
  intro h'
  unfold roMayC at h'
  rw [Bool.and_eq_true, List.all_eq_true, List.all_eq_true] at h'
  rw [h'.2 k (by simpa using hk)] at h
  cases h

theorem roCode_next {l : List Ent} {k : Nat} (h : (List.range k).all (roCodeAt l) = true) (hk : roCodeAt l k = true) : (List.range (k + 1)).all (roCodeAt l) = true := by
  rw [List.range_succ, List.all_append, h]
  simp [hk]

set_option maxHeartbeats 3200000 in
set_option maxRecDepth 100000 in
theorem romay_any {w : World} {v : Value} {l : List Ent} (hv : Ents w v l) (hs : ShortE l) {r : Bool} (h : Hid (roMayC l = r)) :
    Calls Try.prog 17 #[v] w fun e w' => e = .returned (.bool r) ∧ Below w.heap.size w w' := by
  have HV := Lib.hid hv
  have HS := Lib.hid hs
  have HI := Lib.hid (rises_any hv hs)
  obtain ⟨a, cap, rfl, hm⟩ := hv.open'
  clear hv hs
  cases hri : riseB l with
  | false =>
    have HR : roMayC l = false := by
      show (riseB l && _) = false
      rw [hri, Bool.false_and]
    rw [h.out] at HR
    subst HR
    rw [hri] at HI
    clear hri
    go_enter Try.func17, Try.ntmps17
    go_wp2_with fail
    refine HI.out.mono ?_
    rintro e w1 ⟨rfl, b1⟩
    have B1 := Lib.hid b1
    clear b1
    go_wp2_with fail
    go_ret
    exact ⟨rfl, B1.out⟩
  | true =>
    have HRise := Lib.hid (riseB_rise hri)
    have HRB := Lib.hid hri
    rw [hri] at HI
    clear hri
    go_enter Try.func17, Try.ntmps17
    go_wp2_with fail
    refine HI.out.mono ?_
    rintro e w1 ⟨rfl, b1⟩
    have B1 := Lib.hid b1
    clear b1
    go_wp2_with fail
    go_loopw [10] (fun i wr => ∃ k : Nat, k ≤ l.length ∧ i = .int .i64 k ∧ Hid (Below w.heap.size w wr) ∧ Hid ((List.range k).all (roCodeAt l) = true)) (fun i _ => l.length - (intOf i).toNat)
    case atStart => exact ⟨0, by omega, rfl, B1, by show _ = _; simp⟩
    case round =>
      obtain ⟨k, hk, rfl, HB, HA⟩ := hrel
      by_cases hlt : k < l.length
      · obtain ⟨b, off, rfl, h0, h1, h2, h3, h4, h5, h6⟩ := HV.out.row HB.out k hlt
        obtain ⟨⟨eo, ec, ⟨i1, i2, i3, i4, i5⟩⟩, hr⟩ : ∃ r, l.getD k Ent.zero = r := ⟨_, rfl⟩
        rw [hr] at h0 h1 h2 h3 h4 h5 h6
        simp only at h0 h1 h2 h3 h4 h5 h6
        have B2 := Lib.hid (bl_allocS HB.out (.cells #[.string ⟨eo.toArray⟩, .string ⟨ec.toArray⟩, .bool i1, .bool i2, .bool i3, .bool i4, .bool i5] 49))
        have C1 := Lib.hid (cells7_made wr ⟨eo, ec, ⟨i1, i2, i3, i4, i5⟩⟩ 49)
        have HO := Lib.hid (over_any (HV.out.later B2.out) hlt)
        cases ho : roOver l k with
        | true =>
          have HR : roMayC l = false := roMayC_off hlt (by unfold roCodeAt; rw [ho]; rfl)
          rw [h.out] at HR
          subst HR
          rw [ho] at HO
          clear ho hr
          go_wp2_with fail
          refine HO.out.mono ?_
          rintro e w3 ⟨rfl, b3⟩
          have B3 := Lib.hid (below2S B2.out b3)
          clear b3
          go_wp2_with fail
          go_ret
          exact ⟨rfl, B3.out⟩
        | false =>
          rw [ho] at HO
          obtain ⟨q, hq⟩ : ∃ q, roPaired l ⟨eo, ec, ⟨i1, i2, i3, i4, i5⟩⟩ = q := ⟨_, rfl⟩
          have hAt : roCodeAt l k = q := by
            unfold roCodeAt
            rw [ho, hr, hq]
            rfl
          have HAt := Lib.hid hAt
          have HQ := Lib.hid hq
          clear hAt hq ho hr
          go_wp2_with fail
          refine HO.out.mono ?_
          rintro e w3 ⟨rfl, b3⟩
          have B3 := Lib.hid (below2S B2.out b3)
          obtain ⟨c0, c1, c2, c3, c4, c5, c6⟩ := C1.out.later b3
          simp only [Nat.zero_add] at c0 c1 c2 c3 c4 c5 c6
          clear b3
          go_wp2_with fail
          refine (paired_any (HV.out.later B3.out) HRise.out eo ec i1 i2 i3 i4 i5 HQ).mono ?_
          rintro e w4 ⟨rfl, b4⟩
          have B4 := Lib.hid (below2S B3.out b4)
          clear b4 c0 c1 c2 c3 c4 c5 c6
          cases q with
          | true =>
            have HA2 := Lib.hid (roCode_next HA.out HAt.out)
            go_wp2_with fail
            go_roundw
            case rel => exact ⟨k + 1, by omega, by go_num, B4, HA2⟩
            case measure => simp [intOf]; omega
          | false =>
            have HR : roMayC l = false := roMayC_off hlt HAt.out
            rw [h.out] at HR
            subst HR
            go_wp2_with fail
            go_ret
            exact ⟨rfl, B4.out⟩
      · obtain rfl : k = l.length := by omega
        have HR : roMayC l = true := by
          unfold roMayC
          rw [HA.out, Bool.and_true]
          exact HRB.out
        rw [h.out] at HR
        subst HR
        go_wp2_with fail
        go_ret
        exact ⟨rfl, HB.out⟩

end Go.Proofs.Ytfkadkopolenbaa

end
