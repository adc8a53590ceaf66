/-
  TEXTS OF THE PROOF, one behind the other: RosRise, RosOver, RosPairP, RosPairE, RosMayC, IdRow, RosOf, EntWith, RosDoC.
-/
import Derived.Test.YtndicdomdndjaaaP07
import Derived.Test.YtndicdomdndjaaaP01
import Derived.Laws.AppendOwnNone
import Derived.Laws.OwnMore
import Derived.Test.YtndicdomdndjaaaP06
import Derived.Deep.RegionHeld3

set_option linter.unusedVariables false

section

/-
  LAYER 8, THE CODE: whether entries are of names, and rise.
-/
namespace Go.Proofs.Ytndicdomdndjaaa
open Go.RowKit

/-- One entry is of two names, and stands behind the one ahead. -/
def riseAt (l : List Ent) (i : Nat) : Bool :=
  idIs (l.getD i Ent.zero).o && (idIs (l.getD i Ent.zero).c && (!decide ((l.getD i Ent.zero).o = (l.getD i Ent.zero).c) && (decide (i = 0) || entLt (l.getD (i - 1) Ent.zero) (l.getD i Ent.zero))))

def riseB (l : List Ent) : Bool := (List.range l.length).all (riseAt l)

theorem riseB_off {l : List Ent} {k : Nat} (hk : k < l.length) (h : riseAt l k = false) : riseB l = false := by
  rw [Bool.eq_false_iff]
  intro h'
  unfold riseB at h'
  rw [List.all_eq_true] at h'
  rw [h' k (by simpa using hk)] at h
  cases h

theorem rise_next {l : List Ent} {k : Nat} (h : (List.range k).all (riseAt l) = true) (hk : riseAt l k = true) : (List.range (k + 1)).all (riseAt l) = true := by
  rw [List.range_succ, List.all_append, h]
  simp [hk]

theorem riseB_at {l : List Ent} (h : riseB l = true) {k : Nat} (hk : k < l.length) : riseAt l k = true := by
  unfold riseB at h
  rw [List.all_eq_true] at h
  exact h k (by simpa using hk)

/-- What rises one by one rises. -/
theorem riseB_rise {l : List Ent} (h : riseB l = true) : Rise l := by
  have step : ∀ k, k + 1 < l.length → entLt (l.getD k Ent.zero) (l.getD (k + 1) Ent.zero) = true := by
    intro k hk
    have := riseB_at h hk
    unfold riseAt at this
    simp only [Bool.and_eq_true, Bool.or_eq_true, decide_eq_true_eq] at this
    rcases this.2.2.2 with h0 | h0
    · omega
    · rwa [show k + 1 - 1 = k by omega] at h0
  have far : ∀ d i, i + (d + 1) < l.length → entLt (l.getD i Ent.zero) (l.getD (i + (d + 1)) Ent.zero) = true := by
    intro d
    induction d with
    | zero => intro i hi; exact step i hi
    | succ d ih =>
      intro i hi
      exact entLt_trans (ih i (by omega)) (step (i + (d + 1)) (by omega))
  refine List.pairwise_iff_getElem.2 fun i j hi hj hij => ?_
  obtain ⟨d, rfl⟩ : ∃ d, j = i + (d + 1) := ⟨j - i - 1, by omega⟩
  have := far d i hj
  rwa [getD_at hi, getD_at hj] at this

theorem entI_ge {a b : Ent} {n : Int} (h : entI a b = n) : decide (0 ≤ n) = !entLt a b := by
  have hl := entI_lt a b
  rw [h] at hl
  cases hc : entLt a b with
  | true => rw [hc] at hl; have : n < 0 := by rw [hl]
            simp; omega
  | false => rw [hc] at hl; have : ¬ n < 0 := by rw [hl]; decide
             simp; omega

set_option maxHeartbeats 3200000 in
set_option maxRecDepth 100000 in
theorem rises_any {w : World} {v : Value} {l : List Ent} (hv : Ents w v l) (hs : ShortE l) :
    Calls Try.prog 76 #[v] w fun e w' => e = .returned (.bool (riseB l)) ∧ Below w.heap.size w w' := by
  have HV := Lib.hid hv
  have HS := Lib.hid hs
  obtain ⟨a, cap, rfl, hm⟩ := hv.open'
  clear hv hs
  go_enter Try.func76, Try.ntmps76
  go_wp2_with fail
  go_loopw [7] (fun i wr => ∃ k : Nat, k ≤ l.length ∧ i = .int .i64 k ∧ Hid (Below w.heap.size w wr) ∧ Hid ((List.range k).all (riseAt l) = true)) (fun i _ => l.length - (intOf i).toNat)
  case atStart => exact ⟨0, by omega, rfl, Below.refl _ _, by show _ = _; simp⟩
  case round =>
    obtain ⟨k, hk, rfl, HB, HA⟩ := hrel
    by_cases hlt : k < l.length
    · obtain ⟨b, off, rfl, h0, h1, h2, h3, h4, h5, h6⟩ := HV.out.row HB.out k hlt
      obtain ⟨hl1, hl2⟩ := HS.out.get hlt
      obtain ⟨⟨eo, ec, ⟨i1, i2, i3, i4, i5⟩⟩, hr⟩ : ∃ r, l.getD k Ent.zero = r := ⟨_, rfl⟩
      rw [hr] at h0 h1 h2 h3 h4 h5 h6 hl1 hl2
      simp only at h0 h1 h2 h3 h4 h5 h6 hl1 hl2
      have B1 := Lib.hid (bl_allocS HB.out (.cells #[.string ⟨eo.toArray⟩, .string ⟨ec.toArray⟩, .bool i1, .bool i2, .bool i3, .bool i4, .bool i5] 78))
      have C1 := Lib.hid (cells7_made wr ⟨eo, ec, ⟨i1, i2, i3, i4, i5⟩⟩ 78)
      cases hi : idIs eo with
      | false =>
        have HR : Hid (riseB l = false) := by show _ = _; exact riseB_off hlt (by unfold riseAt; rw [hr]; simp only; simp [hi])
        have HI := Lib.hid (is_eq eo hl1 (r := false) (Lib.hid hi))
        clear hi hr
        go_wp2_with fail
        refine (HI.out _).mono ?_
        rintro e w2 ⟨rfl, b2⟩
        have B2 := Lib.hid (below2S B1.out b2)
        clear b2
        go_wp2_with fail
        go_ret
        exact ⟨by rw [HR.out]; rfl, B2.out⟩
      | true =>
        have HI := Lib.hid (is_eq eo hl1 (r := true) (Lib.hid hi))
        cases hj : idIs ec with
        | false =>
          have HR : Hid (riseB l = false) := by show _ = _; exact riseB_off hlt (by unfold riseAt; rw [hr]; simp only; simp [hi, hj])
          have HJ := Lib.hid (is_eq ec hl2 (r := false) (Lib.hid hj))
          clear hi hj hr
          go_wp2_with fail
          refine (HI.out _).mono ?_
          rintro e w2 ⟨rfl, b2⟩
          have B2 := Lib.hid (below2S B1.out b2)
          obtain ⟨c0, c1, c2, c3, c4, c5, c6⟩ := C1.out.later b2
          simp only [Nat.zero_add] at c0 c1 c2 c3 c4 c5 c6
          clear b2
          go_wp2_with fail
          refine (HJ.out _).mono ?_
          rintro e w3 ⟨rfl, b3⟩
          have B3 := Lib.hid (below2S B2.out b3)
          clear b3 c0 c1 c2 c3 c4 c5 c6
          go_wp2_with fail
          go_ret
          exact ⟨by rw [HR.out]; rfl, B3.out⟩
        | true =>
          have HJ := Lib.hid (is_eq ec hl2 (r := true) (Lib.hid hj))
          by_cases hoc : eo = ec
          · subst hoc
            have HR : Hid (riseB l = false) := by show _ = _; exact riseB_off hlt (by unfold riseAt; rw [hr]; simp)
            clear hi hj hr
            go_wp2_with fail
            refine (HI.out _).mono ?_
            rintro e w2 ⟨rfl, b2⟩
            have B2 := Lib.hid (below2S B1.out b2)
            have C2 := Lib.hid (C1.out.later b2)
            obtain ⟨c0, c1, c2, c3, c4, c5, c6⟩ := C2.out
            simp only [Nat.zero_add] at c0 c1 c2 c3 c4 c5 c6
            have HB2 := Lib.hid b2
            clear b2
            go_wp2_with fail
            refine (HJ.out _).mono ?_
            rintro e w3 ⟨rfl, b3⟩
            have B3 := Lib.hid (below2S B2.out b3)
            have C3 := Lib.hid (C2.out.later b3)
            have HB3 := Lib.hid b3
            clear b3 c0 c1 c2 c3 c4 c5 c6
            obtain ⟨c0, c1, c2, c3, c4, c5, c6⟩ := C3.out
            simp only [Nat.zero_add] at c0 c1 c2 c3 c4 c5 c6
            go_wp2_with fail
            go_ret
            exact ⟨by rw [HR.out]; rfl, B3.out⟩
          · have toc : (eo == ec) = false := by rw [beq_eq_false_iff_ne]; exact hoc
            rcases Nat.eq_zero_or_pos k with rfl | hpos
            · have HA2 : Hid ((List.range (0 + 1)).all (riseAt l) = true) := by show _ = _; exact rise_next HA.out (by unfold riseAt; rw [hr]; simp [hi, hj, hoc])
              clear hi hj hr hoc
              simp only [Nat.zero_mul, Nat.add_zero] at h0 h1 h2 h3 h4 h5 h6
              go_wp2_with fail
              refine (HI.out _).mono ?_
              rintro e w2 ⟨rfl, b2⟩
              have B2 := Lib.hid (below2S B1.out b2)
              have C2 := Lib.hid (C1.out.later b2)
              obtain ⟨c0, c1, c2, c3, c4, c5, c6⟩ := C2.out
              simp only [Nat.zero_add] at c0 c1 c2 c3 c4 c5 c6
              have HB2 := Lib.hid b2
              clear b2
              go_wp2_with fail
              refine (HJ.out _).mono ?_
              rintro e w3 ⟨rfl, b3⟩
              have B3 := Lib.hid (below2S B2.out b3)
              have C3 := Lib.hid (C2.out.later b3)
              have HB3 := Lib.hid b3
              clear b3 c0 c1 c2 c3 c4 c5 c6
              obtain ⟨c0, c1, c2, c3, c4, c5, c6⟩ := C3.out
              simp only [Nat.zero_add] at c0 c1 c2 c3 c4 c5 c6
              go_wp2_with fail
              have q0 := cell_regrown c0
              have q1 := cell_regrown c1
              have q2 := cell_regrown c2
              have q3 := cell_regrown c3
              have q4 := cell_regrown c4
              have q5 := cell_regrown c5
              have q6 := cell_regrown c6
              clear c0 c1 c2 c3 c4 c5 c6
              refine wp_region_quiet_below (by kernel_rfl) (by kernel_rfl) ?_
              repeat (go_big_quiet_step (fail))
              refine wpQuiet_nil ?_
              intro w5 hw5
              have B5 := Lib.hid (below2S B3.out (regrown_belowP hw5))
              clear hw5 q0 q1 q2 q3 q4 q5 q6
              go_wp2_with fail
              go_roundw
              case rel => exact ⟨1, by omega, by go_num, B5, HA2⟩
              case measure => simp [intOf]; omega
            · obtain ⟨j, rfl⟩ : ∃ j, k = j + 1 := ⟨k - 1, by omega⟩
              obtain ⟨b2, off2, e2, hP⟩ := HV.out.row HB.out j (by omega)
              injection e2 with e2
              injection e2 with e3 e4 _
              subst e3 e4
              obtain ⟨⟨po, pc, ⟨j1, j2, j3, j4, j5⟩⟩, hr2⟩ : ∃ r, l.getD j Ent.zero = r := ⟨_, rfl⟩
              rw [hr2] at hP
              have HP := Lib.hid hP
              have HCmp := Lib.hid (rcompare_any po pc eo ec j1 j2 j3 j4 j5 i1 i2 i3 i4 i5)
              obtain ⟨n, hn⟩ : ∃ n, entI ⟨po, pc, ⟨j1, j2, j3, j4, j5⟩⟩ ⟨eo, ec, ⟨i1, i2, i3, i4, i5⟩⟩ = n := ⟨_, rfl⟩
              have hge := entI_ge hn
              rw [hn] at HCmp
              clear hn hP
              cases hc : entLt ⟨po, pc, ⟨j1, j2, j3, j4, j5⟩⟩ ⟨eo, ec, ⟨i1, i2, i3, i4, i5⟩⟩ with
              | true =>
                rw [hc] at hge
                simp only [Bool.not_true] at hge
                have HA2 : Hid ((List.range (j + 1 + 1)).all (riseAt l) = true) := by show _ = _; exact rise_next HA.out (by unfold riseAt; rw [hr, show j + 1 - 1 = j by omega, hr2]; simp [hi, hj, hoc, hc])
                clear hi hj hr hoc hr2 hc
                go_wp2_with fail
                refine (HI.out _).mono ?_
                rintro e w2 ⟨rfl, b2⟩
                have B2 := Lib.hid (below2S B1.out b2)
                have C2 := Lib.hid (C1.out.later b2)
                obtain ⟨c0, c1, c2, c3, c4, c5, c6⟩ := C2.out
                simp only [Nat.zero_add] at c0 c1 c2 c3 c4 c5 c6
                have HB2 := Lib.hid b2
                clear b2
                go_wp2_with fail
                refine (HJ.out _).mono ?_
                rintro e w3 ⟨rfl, b3⟩
                have B3 := Lib.hid (below2S B2.out b3)
                have C3 := Lib.hid (C2.out.later b3)
                have HB3 := Lib.hid b3
                clear b3 c0 c1 c2 c3 c4 c5 c6
                obtain ⟨c0, c1, c2, c3, c4, c5, c6⟩ := C3.out
                simp only [Nat.zero_add] at c0 c1 c2 c3 c4 c5 c6
                go_wp2_with fail
                obtain ⟨p0, p1, p2, p3, p4, p5, p6⟩ := cells7_regrown (HP.out.later (below2S (below2S ((Below.refl _ _).alloc (Nat.le_refl _) _) HB2.out) HB3.out))
                have q0 := cell_regrown c0
                have q1 := cell_regrown c1
                have q2 := cell_regrown c2
                have q3 := cell_regrown c3
                have q4 := cell_regrown c4
                have q5 := cell_regrown c5
                have q6 := cell_regrown c6
                clear c0 c1 c2 c3 c4 c5 c6
                refine wp_region_quiet_below (by kernel_rfl) (by kernel_rfl) ?_
                repeat (go_big_quiet_step (with_reducible exact rgB HCmp.out _ _ _))
                refine wpQuiet_nil ?_
                intro w5 hw5
                have B5 := Lib.hid (below2S B3.out (regrown_belowP hw5))
                clear hw5 p0 p1 p2 p3 p4 p5 p6 q0 q1 q2 q3 q4 q5 q6
                go_wp2_with fail
                go_roundw
                case rel => exact ⟨j + 1 + 1, by omega, by go_num, B5, HA2⟩
                case measure => simp [intOf]; omega
              | false =>
                rw [hc] at hge
                simp only [Bool.not_false] at hge
                have HR : Hid (riseB l = false) := by show _ = _; exact riseB_off hlt (by unfold riseAt; rw [hr, show j + 1 - 1 = j by omega, hr2]; simp [hc])
                clear hi hj hr hoc hr2 hc
                go_wp2_with fail
                refine (HI.out _).mono ?_
                rintro e w2 ⟨rfl, b2⟩
                have B2 := Lib.hid (below2S B1.out b2)
                have C2 := Lib.hid (C1.out.later b2)
                obtain ⟨c0, c1, c2, c3, c4, c5, c6⟩ := C2.out
                simp only [Nat.zero_add] at c0 c1 c2 c3 c4 c5 c6
                have HB2 := Lib.hid b2
                clear b2
                go_wp2_with fail
                refine (HJ.out _).mono ?_
                rintro e w3 ⟨rfl, b3⟩
                have B3 := Lib.hid (below2S B2.out b3)
                have C3 := Lib.hid (C2.out.later b3)
                have HB3 := Lib.hid b3
                clear b3 c0 c1 c2 c3 c4 c5 c6
                obtain ⟨c0, c1, c2, c3, c4, c5, c6⟩ := C3.out
                simp only [Nat.zero_add] at c0 c1 c2 c3 c4 c5 c6
                go_wp2_with fail
                obtain ⟨p0, p1, p2, p3, p4, p5, p6⟩ := cells7_regrown (HP.out.later (below2S (below2S ((Below.refl _ _).alloc (Nat.le_refl _) _) HB2.out) HB3.out))
                have q0 := cell_regrown c0
                have q1 := cell_regrown c1
                have q2 := cell_regrown c2
                have q3 := cell_regrown c3
                have q4 := cell_regrown c4
                have q5 := cell_regrown c5
                have q6 := cell_regrown c6
                clear c0 c1 c2 c3 c4 c5 c6
                refine wp_region_quiet_below (by kernel_rfl) (by kernel_rfl) ?_
                repeat (go_big_quiet_step (with_reducible exact rgB HCmp.out _ _ _))
                refine wpQuiet_nil ?_
                intro w5 hw5
                have B5 := Lib.hid (below2S B3.out (regrown_belowP hw5))
                clear hw5 p0 p1 p2 p3 p4 p5 p6 q0 q1 q2 q3 q4 q5 q6
                go_wp2_with fail
                go_ret
                exact ⟨by rw [HR.out]; rfl, B5.out⟩
    · obtain rfl : k = l.length := by omega
      have HR : Hid (riseB l = true) := HA
      go_wp2_with fail
      go_ret
      exact ⟨by rw [HR.out]; rfl, HB.out⟩

end Go.Proofs.Ytndicdomdndjaaa

end

section

/-
  LAYER 8, THE CODE: whether an entry is one more than its Owner may have.
-/
namespace Go.Proofs.Ytndicdomdndjaaa
open Go.RowKit

set_option maxHeartbeats 1600000 in
set_option maxRecDepth 100000 in
theorem over_any {w : World} {v : Value} {l : List Ent} (hv : Ents w v l) {k : Nat} (hk : k < l.length) :
    Calls Try.prog 77 #[v, .int .i64 k] w fun e w' => e = .returned (.bool (roOver l k)) ∧ Below w.heap.size w w' := by
  have HV := Lib.hid hv
  obtain ⟨a, cap, rfl, hm⟩ := hv.open'
  clear hv
  by_cases h16 : 16 ≤ k
  · obtain ⟨b, off, rfl, hA⟩ := HV.out.row (Below.refl _ _) (k - 16) (by omega)
    obtain ⟨b2, off2, e2, hB⟩ := HV.out.row (Below.refl _ _) k hk
    injection e2 with e2
    injection e2 with e3 e4 _
    subst e3 e4
    obtain ⟨x, hx⟩ : ∃ x, (l.getD (k - 16) Ent.zero).o = x := ⟨_, rfl⟩
    obtain ⟨y, hy⟩ : ∃ y, (l.getD k Ent.zero).o = y := ⟨_, rfl⟩
    have g0 := cell_regrown hA.1
    have g1 := cell_regrown hB.1
    rw [hx] at g0
    rw [hy] at g1
    have HR : Hid (roOver l k = (x == y)) := by
      show _ = _
      unfold roOver
      rw [hx, hy, show decide (16 ≤ k) = true by simpa using h16, Bool.true_and]
      by_cases h : x = y <;> simp [h]
    obtain ⟨r, hr⟩ : ∃ r, (x == y) = r := ⟨_, rfl⟩
    rw [HR.out, hr]
    have t1 : decide (16 ≤ (k : Int)) = true := by simp; omega
    have e16 : (16 : Int) ≤ (k : Int) := by omega
    have hj1 : (k : Int) - 16 < (l.length : Int) := by omega
    have hj0 : (0 : Int) ≤ (k : Int) - 16 := by omega
    have hj2 : (k : Int) < (l.length : Int) := by omega
    have hw : IntKind.i64.wrap ((k : Int) - 16) = (k : Int) - 16 := IntWalk.i64_in _ (by omega)
    have hn : ((k : Int) - 16).toNat = k - 16 := by omega
    clear hx hy HR hA hB
    go_enter Try.func77, Try.ntmps77
    go_wp2_with fail
    refine wp_region_quiet_below (by kernel_rfl) (by kernel_rfl) ?_
    repeat (go_big_quiet_step (fail))
    refine wpQuiet_nil ?_
    intro w5 hw5
    have B5 := Lib.hid (regrown_belowP hw5)
    clear hw5 g0 g1
    go_wp2_with fail
    go_ret
    exact ⟨rfl, B5.out⟩
  · have HR : Hid (roOver l k = false) := by show _ = _; unfold roOver; simp [h16]
    have t1 : decide (16 ≤ (k : Int)) = false := by simp; omega
    clear h16
    rw [HR.out]
    go_enter Try.func77, Try.ntmps77
    go_wp2_with fail
    refine wp_region_quiet_below (by kernel_rfl) (by kernel_rfl) ?_
    repeat (go_big_quiet_step (fail))
    refine wpQuiet_nil ?_
    intro w5 hw5
    have B5 := Lib.hid (regrown_belowP hw5)
    clear hw5
    go_wp2_with fail
    go_ret
    exact ⟨rfl, B5.out⟩

end Go.Proofs.Ytndicdomdndjaaa

end

section

/-
  LAYER 8, PLAIN: has an entry its counterpart? Told from what stands at the counterpart's place.
-/
namespace Go.Proofs.Ytndicdomdndjaaa

theorem roPaired_off {l : List Ent} {eo ec : List UInt8} {x : It} (hany : (l.any fun e => entIs e ⟨ec, eo, ⟨false, false, false, false, false⟩⟩) = false) : roPaired l ⟨eo, ec, x⟩ = false := by
  show ((l.any fun x => entIs x ⟨ec, eo, ⟨false, false, false, false, false⟩⟩) && _) = false
  rw [hany, Bool.false_and]

theorem roPaired_on {l : List Ent} (hr : Rise l) {eo ec fo fc : List UInt8} {x i : It} (hany : (l.any fun e => entIs e ⟨ec, eo, ⟨false, false, false, false, false⟩⟩) = true)
    (hlt : entPlace l ⟨ec, eo, ⟨false, false, false, false, false⟩⟩ < l.length) (he : l.getD (entPlace l ⟨ec, eo, ⟨false, false, false, false, false⟩⟩) Ent.zero = ⟨fo, fc, i⟩)
    (hs : entIs ⟨fo, fc, i⟩ ⟨ec, eo, ⟨false, false, false, false, false⟩⟩ = true) : roPaired l ⟨eo, ec, x⟩ = (suMay x i && !(suEmpty x && suEmpty i)) := by
  have hm : (⟨fo, fc, i⟩ : Ent) ∈ l := by rw [← he, getD_at hlt]; exact List.getElem_mem hlt
  have hit := roIt_mem hr hm
  obtain ⟨ho, hc⟩ := entIs_iff.1 hs
  simp only at ho hc hit
  subst ho hc
  unfold roPaired
  simp only []
  rw [hit, show (l.any fun x => entIs x ⟨fo, fc, It.zero⟩) = true from hany, Bool.true_and]

/-- Where the counterpart stands. -/
theorem roPair_place {l : List Ent} (hr : Rise l) {eo ec : List UInt8} (hany : (l.any fun e => entIs e ⟨ec, eo, ⟨false, false, false, false, false⟩⟩) = true) :
    entPlace l ⟨ec, eo, ⟨false, false, false, false, false⟩⟩ < l.length ∧ entIs (l.getD (entPlace l ⟨ec, eo, ⟨false, false, false, false, false⟩⟩) Ent.zero) ⟨ec, eo, ⟨false, false, false, false, false⟩⟩ = true := by
  have ht := (entPlace_there hr ⟨ec, eo, ⟨false, false, false, false, false⟩⟩).trans hany
  rw [Bool.and_eq_true, decide_eq_true_eq] at ht
  exact ht

end Go.Proofs.Ytndicdomdndjaaa

end

section

/-
  LAYER 8: isPaired against one plain function.
-/
namespace Go.Proofs.Ytndicdomdndjaaa
open Go.RowKit

theorem paired_any {w : World} {v : Value} {l : List Ent} (hv : Ents w v l) (hr : Rise l) (eo ec : List UInt8) (x1 x2 x3 x4 x5 : Bool) {r : Bool} (h : Hid (roPaired l ⟨eo, ec, ⟨x1, x2, x3, x4, x5⟩⟩ = r)) :
    Calls Try.prog 78 #[v, .agg #[.string ⟨eo.toArray⟩, .string ⟨ec.toArray⟩, .bool x1, .bool x2, .bool x3, .bool x4, .bool x5]] w fun e w' => e = .returned (.bool r) ∧ Below w.heap.size w w' := by
  cases hany : (l.any fun e => entIs e ⟨ec, eo, ⟨false, false, false, false, false⟩⟩) with
  | false =>
    have hR := roPaired_off (x := ⟨x1, x2, x3, x4, x5⟩) hany
    rw [h.out] at hR
    subst hR
    exact paired_no hv hr eo ec x1 x2 x3 x4 x5 hany
  | true =>
    obtain ⟨hlt, hs⟩ := roPair_place hr hany
    obtain ⟨⟨fo, fc, ⟨i1, i2, i3, i4, i5⟩⟩, he⟩ : ∃ r, l.getD (entPlace l ⟨ec, eo, ⟨false, false, false, false, false⟩⟩) Ent.zero = r := ⟨_, rfl⟩
    rw [he] at hs
    have hP := paired_yes hv hr eo ec x1 x2 x3 x4 x5 hlt he hs
    have hR := roPaired_on (x := ⟨x1, x2, x3, x4, x5⟩) hr hany hlt he hs
    rw [h.out] at hR
    rw [← hR] at hP
    exact hP

end Go.Proofs.Ytndicdomdndjaaa

end

section

/-
  LAYER 8, THE CODE: whether rosters may be.
-/
namespace Go.Proofs.Ytndicdomdndjaaa
open Go.RowKit

theorem roMayC_off {l : List Ent} {k : Nat} (hk : k < l.length) (h : roCodeAt l k = false) : roMayC l = false := by
  rw [Bool.eq_false_iff]
  intro h'
  unfold roMayC at h'
  rw [Bool.and_eq_true, List.all_eq_true, List.all_eq_true] at h'
  rw [h'.2 k (by simpa using hk)] at h
  cases h

theorem roCode_next {l : List Ent} {k : Nat} (h : (List.range k).all (roCodeAt l) = true) (hk : roCodeAt l k = true) : (List.range (k + 1)).all (roCodeAt l) = true := by
  rw [List.range_succ, List.all_append, h]
  simp [hk]

set_option maxHeartbeats 3200000 in
set_option maxRecDepth 100000 in
theorem romay_any {w : World} {v : Value} {l : List Ent} (hv : Ents w v l) (hs : ShortE l) {r : Bool} (h : Hid (roMayC l = r)) :
    Calls Try.prog 41 #[v] w fun e w' => e = .returned (.bool r) ∧ Below w.heap.size w w' := by
  have HV := Lib.hid hv
  have HS := Lib.hid hs
  have HI := Lib.hid (rises_any hv hs)
  obtain ⟨a, cap, rfl, hm⟩ := hv.open'
  clear hv hs
  cases hri : riseB l with
  | false =>
    have HR : roMayC l = false := by
      show (riseB l && _) = false
      rw [hri, Bool.false_and]
    rw [h.out] at HR
    subst HR
    rw [hri] at HI
    clear hri
    go_enter Try.func41, Try.ntmps41
    go_wp2_with fail
    refine HI.out.mono ?_
    rintro e w1 ⟨rfl, b1⟩
    have B1 := Lib.hid b1
    clear b1
    go_wp2_with fail
    go_ret
    exact ⟨rfl, B1.out⟩
  | true =>
    have HRise := Lib.hid (riseB_rise hri)
    have HRB := Lib.hid hri
    rw [hri] at HI
    clear hri
    go_enter Try.func41, Try.ntmps41
    go_wp2_with fail
    refine HI.out.mono ?_
    rintro e w1 ⟨rfl, b1⟩
    have B1 := Lib.hid b1
    clear b1
    go_wp2_with fail
    go_loopw [10] (fun i wr => ∃ k : Nat, k ≤ l.length ∧ i = .int .i64 k ∧ Hid (Below w.heap.size w wr) ∧ Hid ((List.range k).all (roCodeAt l) = true)) (fun i _ => l.length - (intOf i).toNat)
    case atStart => exact ⟨0, by omega, rfl, B1, by show _ = _; simp⟩
    case round =>
      obtain ⟨k, hk, rfl, HB, HA⟩ := hrel
      by_cases hlt : k < l.length
      · obtain ⟨b, off, rfl, h0, h1, h2, h3, h4, h5, h6⟩ := HV.out.row HB.out k hlt
        obtain ⟨⟨eo, ec, ⟨i1, i2, i3, i4, i5⟩⟩, hr⟩ : ∃ r, l.getD k Ent.zero = r := ⟨_, rfl⟩
        rw [hr] at h0 h1 h2 h3 h4 h5 h6
        simp only at h0 h1 h2 h3 h4 h5 h6
        have B2 := Lib.hid (bl_allocS HB.out (.cells #[.string ⟨eo.toArray⟩, .string ⟨ec.toArray⟩, .bool i1, .bool i2, .bool i3, .bool i4, .bool i5] 78))
        have C1 := Lib.hid (cells7_made wr ⟨eo, ec, ⟨i1, i2, i3, i4, i5⟩⟩ 78)
        have HO := Lib.hid (over_any (HV.out.later B2.out) hlt)
        cases ho : roOver l k with
        | true =>
          have HR : roMayC l = false := roMayC_off hlt (by unfold roCodeAt; rw [ho]; rfl)
          rw [h.out] at HR
          subst HR
          rw [ho] at HO
          clear ho hr
          go_wp2_with fail
          refine HO.out.mono ?_
          rintro e w3 ⟨rfl, b3⟩
          have B3 := Lib.hid (below2S B2.out b3)
          clear b3
          go_wp2_with fail
          go_ret
          exact ⟨rfl, B3.out⟩
        | false =>
          rw [ho] at HO
          obtain ⟨q, hq⟩ : ∃ q, roPaired l ⟨eo, ec, ⟨i1, i2, i3, i4, i5⟩⟩ = q := ⟨_, rfl⟩
          have hAt : roCodeAt l k = q := by
            unfold roCodeAt
            rw [ho, hr, hq]
            rfl
          have HAt := Lib.hid hAt
          have HQ := Lib.hid hq
          clear hAt hq ho hr
          go_wp2_with fail
          refine HO.out.mono ?_
          rintro e w3 ⟨rfl, b3⟩
          have B3 := Lib.hid (below2S B2.out b3)
          obtain ⟨c0, c1, c2, c3, c4, c5, c6⟩ := C1.out.later b3
          simp only [Nat.zero_add] at c0 c1 c2 c3 c4 c5 c6
          clear b3
          go_wp2_with fail
          refine (paired_any (HV.out.later B3.out) HRise.out eo ec i1 i2 i3 i4 i5 HQ).mono ?_
          rintro e w4 ⟨rfl, b4⟩
          have B4 := Lib.hid (below2S B3.out b4)
          clear b4 c0 c1 c2 c3 c4 c5 c6
          cases q with
          | true =>
            have HA2 := Lib.hid (roCode_next HA.out HAt.out)
            go_wp2_with fail
            go_roundw
            case rel => exact ⟨k + 1, by omega, by go_num, B4, HA2⟩
            case measure => simp [intOf]; omega
          | false =>
            have HR : roMayC l = false := roMayC_off hlt HAt.out
            rw [h.out] at HR
            subst HR
            go_wp2_with fail
            go_ret
            exact ⟨rfl, B4.out⟩
      · obtain rfl : k = l.length := by omega
        have HR : roMayC l = true := by
          unfold roMayC
          rw [HA.out, Bool.and_true]
          exact HRB.out
        rw [h.out] at HR
        subst HR
        go_wp2_with fail
        go_ret
        exact ⟨rfl, HB.out⟩

end Go.Proofs.Ytndicdomdndjaaa

end

section

/-
  ROWS OF TEXTS IN MEMORY, over any program: what they hold, and what append makes of them.
-/
namespace Go.Proofs.Ytndicdomdndjaaa
open Go.RowKit

theorem cell_after {w w' : World} {a : Addr} {v : Value} (h : w.cell? a = some v) (hb : Below w.heap.size w w') : w'.cell? a = some v :=
  (hb.cell (World.block_lt_of_cell? w a h)).trans h

/-- A text as a cell's value. -/
def encS (l : List UInt8) : Value := .string ⟨l.toArray⟩

/-- Which list of texts a slice holds. -/
def Texts (w : World) (v : Value) (ls : List (List UInt8)) : Prop :=
  ∃ a cap, v = .slice a ls.length cap ∧ ls.length ≤ cap ∧ cap ≤ maxLen ∧ (a = none → cap = 0) ∧
    (ls = [] ∨ ∃ b off, a = some ⟨b, off, none⟩ ∧ b < w.heap.size ∧ ∀ i, i < ls.length → w.cell? ⟨b, off + i, none⟩ = some (encS (ls.getD i [])))

theorem Texts.later {w w' : World} {v : Value} {ls : List (List UInt8)} (h : Texts w v ls) (hb : Below w.heap.size w w') : Texts w' v ls := by
  obtain ⟨a, cap, h1, h2, h3, h4, h5⟩ := h
  refine ⟨a, cap, h1, h2, h3, h4, ?_⟩
  rcases h5 with h5 | ⟨b, off, e, hlt, hc⟩
  · exact .inl h5
  · exact .inr ⟨b, off, e, Nat.lt_of_lt_of_le hlt hb.size, fun i hi => (hb.cell (p := ⟨b, off + i, none⟩) hlt).trans (hc i hi)⟩

theorem texts_nil (w : World) : Texts w (.slice none 0 0) [] := ⟨none, 0, rfl, by simp, by simp, fun _ => rfl, .inl rfl⟩

theorem encS_one (ls : List (List UInt8)) : ∀ u ∈ ls.map encS, u.oneCell' = true := by
  intro u hu
  obtain ⟨l, _, rfl⟩ := List.mem_map.1 hu
  rfl

/-- A row of the call's own. -/
theorem texts_of_own {w : World} {base e : Nat} {v : Value} {ls : List (List UInt8)} (h : w.ownsRow base e 1 v ls.length (ls.map encS)) : Texts w v ls := by
  rcases h with ⟨_, ⟨rfl, h0⟩ | ⟨g, cap, cur, rfl, hb, hg, hn, hc, hsz, htk⟩⟩
  · obtain rfl : ls = [] := List.length_eq_zero_iff.1 h0
    exact texts_nil w
  · refine ⟨some ⟨g, 0, none⟩, cap, rfl, hn, hc, (fun e => by cases e), ?_⟩
    refine .inr ⟨g, 0, rfl, (Array.getElem?_eq_some_iff.1 hg).1, fun i hi => ?_⟩
    rw [Nat.zero_add, cell_of_row w g i cur e (0, 0) hg]
    have h1 : cur.toList[i]? = (ls.map encS)[i]? := by
      rw [← htk, List.getElem?_take, if_pos (by omega)]
    have h2 : (ls.map encS)[i]? = some (encS (ls.getD i [])) := by
      simp [List.getD, List.getElem?_eq_getElem hi]
    rw [← h2, ← h1]
    simp

/-- A row of texts of the call's own. -/
def OwnT (w : World) (base e : Nat) (v : Value) (ls : List (List UInt8)) : Prop := w.ownsRow base e 1 v ls.length (ls.map encS)

theorem OwnT.alloc {w : World} {base e : Nat} {v : Value} {ls : List (List UInt8)} (h : OwnT w base e v ls) (o : Obj) : OwnT (w.alloc o) base e v ls := World.ownsRow.alloc h o
theorem OwnT.texts {w : World} {base e : Nat} {v : Value} {ls : List (List UInt8)} (h : OwnT w base e v ls) : Texts w v ls := texts_of_own h
/-- 'out = append(out, src...)', out nil or a row of the call's own, src whatever (its address any term). -/
theorem wpList_append_texts {P : Program} {w : World} {ops : Array Oper} {rest : List Oper} {o : Oper} {a : Act} {Q : Exit → Act → World → Prop}
    (hgd : o.guard = none) (s x : Operand) (t : TypeId) (ho : o.op = .call { callee := .builtin .append, args := #[s, x], argTypes := #[t, t] })
    (base : Nat) (e : TypeId) (i : TypeInfo) (z : Value) (bytes : Nat) (ht : P.underlying t = some (.slice e)) (hi : P.info? e = some i) (hz : i.zero = some z)
    (hsize : i.size = 1) (hby : i.bytes = bytes) (hzs : z.cells.size = 1)
    (v : Value) (ls : List (List UInt8)) (hs : a.eval s = v) (hown : OwnT w base e v ls)
    (ao : Option Addr) (m c : Nat) (ms : List (List UInt8)) (hx : a.eval x = .slice ao m c) (hm : m = ms.length) (hnone : ao = none → c = 0 ∧ ms = [])
    (hsome : ∀ ad, ao = some ad → ∀ j u, (ms.map encS)[j]? = some u → w.cell? (ad.add j) = some u)
    (hlen : ls.length + ms.length < 4294967296) (hb : bytes ≤ 4096) (hbase : base ≤ w.heap.size)
    (h : ∀ v' w', OwnT w' base e v' (ls ++ ms) → Below base w w' → wpList P ops Q rest (a.put o.dst v') w') :
    wpList P ops Q (o :: rest) a w := by
  cases ao with
  | none =>
    obtain ⟨rfl, rfl⟩ := hnone rfl
    simp only [List.length_nil] at hm
    subst hm
    exact wpList_append_own_none hgd s x t ho base e i 1 ht hi v ls.length (ls.map encS) hs hown hx (h v w (by simpa using hown) (Below.refl _ _))
  | some ad =>
    subst hm
    refine wpList_append_own _ hgd s x t ho base e i z 1 bytes ht hi hz hsize hby hzs (by decide) v ls.length (ls.map encS) hs hown ad ms.length c (ms.map encS) hx (by simp) (hsome ad rfl) (encS_one ms)
      (by unfold maxLen; omega) (Nat.le_trans (Nat.mul_le_mul (show ls.length + ms.length ≤ 4294967296 by omega) hb) (by decide)) hbase ?_
    intro v' w' hown' hgrow _
    refine h v' w' ?_ ((Below.refl base w).grown hgrow hbase (fun k hk => (World.ownsRow.lt hown k hk).1))
    unfold OwnT
    rw [List.map_append, List.length_append]
    exact hown'

end Go.Proofs.Ytndicdomdndjaaa

end

section

/-
  LAYER 8: the Contacts of an Owner, the document's and the code's.
-/
namespace Go.Proofs.Ytndicdomdndjaaa
open Go.RowKit

theorem Try.infoTxt : (Try.prog.info? 9).map (fun i => (i.zero, i.size, i.bytes)) = some (some (.string ⟨#[]⟩), 1, 16) := by kernel_rfl

theorem new_cellR {w : World} {u : Value} {e : TypeId} : ∀ ad, some (⟨w.heap.size, 0, none⟩ : Addr) = some ad → ∀ j v, ([u] : List Value)[j]? = some v → (w.alloc (.cells #[u] e)).cell? (ad.add j) = some v := by
  intro ad had j v hv
  obtain rfl := Option.some.inj had
  exact cells_one w u e j v hv

theorem new_cellN {w : World} {u : Value} {e : TypeId} {B : Nat} (hB : B = w.heap.size) : ∀ ad, some (⟨B, 0, none⟩ : Addr) = some ad → ∀ j v, ([u] : List Value)[j]? = some v → (w.alloc (.cells #[u] e)).cell? (ad.add j) = some v := by
  subst hB
  exact new_cellR

theorem roOf_succ {l : List Ent} {k : Nat} (hk : k < l.length) (o : List UInt8) : roOf (l.take (k + 1)) o = if (l.getD k Ent.zero).o = o then roOf (l.take k) o ++ [(l.getD k Ent.zero).c] else roOf (l.take k) o := by
  unfold roOf
  rw [List.take_succ_eq_append_getElem hk, getD_at hk, List.filter_append, List.map_append]
  by_cases h : l[k].o = o
  · rw [if_pos h, List.filter_cons, if_pos (by simp [ofOwner, h])]
    rfl
  · rw [if_neg h, List.filter_cons, if_neg (by simp [ofOwner, h])]
    simp

theorem roOf_le (l : List Ent) (o : List UInt8) : (roOf l o).length ≤ l.length := by
  rw [roOf_len]
  exact List.length_filter_le _ _

set_option maxHeartbeats 1600000 in
set_option maxRecDepth 100000 in
theorem of_any {w : World} {v : Value} {l : List Ent} (hv : Ents w v l) (hl : l.length ≤ 4294967) (o : List UInt8) :
    Calls Try.prog 97 #[v, .string ⟨o.toArray⟩] w fun e w' => ∃ u, e = .returned u ∧ OwnT w' w.heap.size 9 u (roOf l o) ∧ Below w.heap.size w w' := by
  obtain ⟨i0, hi, hz0, hz1, hz2⟩ := info_parts Try.infoTxt
  have HV := Lib.hid hv
  obtain ⟨a, cap, rfl, _⟩ := hv.open'
  clear hv
  go_enter Try.func97, Try.ntmps97
  go_wp2_with fail
  go_loopw [5, 10] (fun s i wr => ∃ k : Nat, k ≤ l.length ∧ i = .int .i64 k ∧ Hid (OwnT wr w.heap.size 9 s (roOf (l.take k) o)) ∧ Hid (Below w.heap.size w wr)) (fun _ i _ => l.length - (intOf i).toNat)
  case atStart => exact ⟨0, by omega, rfl, World.ownsRow_nil _ _ _ _, Below.refl _ _⟩
  case round =>
    obtain ⟨k, hk, rfl, HO, HN⟩ := hrel
    by_cases hlt : k < l.length
    · obtain ⟨b, off, rfl, h0, h1, h2, h3, h4, h5, h6⟩ := HV.out.row HN.out k hlt
      have hX := roOf_succ hlt o
      obtain ⟨⟨eo, c, ⟨i1, i2, i3, i4, i5⟩⟩, hr⟩ : ∃ r, l.getD k Ent.zero = r := ⟨_, rfl⟩
      rw [hr] at h0 h1 h2 h3 h4 h5 h6 hX
      simp only at h0 h1 h2 h3 h4 h5 h6 hX
      clear hr
      by_cases ho : eo = o
      · rw [if_pos ho] at hX
        have HX := Lib.hid hX
        subst ho
        have O2 := Lib.hid ((HO.out.alloc (.cells #[.string ⟨eo.toArray⟩, .string ⟨c.toArray⟩, .bool i1, .bool i2, .bool i3, .bool i4, .bool i5] 78)).alloc (.cells #[.string ⟨c.toArray⟩] 9))
        have N2 := Lib.hid (bl_allocS (bl_allocS HN.out (.cells #[.string ⟨eo.toArray⟩, .string ⟨c.toArray⟩, .bool i1, .bool i2, .bool i3, .bool i4, .bool i5] 78)) (.cells #[.string ⟨c.toArray⟩] 9))
        have hz3 := N2.out.size
        have hcl : (roOf (l.take k) eo).length ≤ 4294967 := by have := roOf_le (l.take k) eo; rw [List.length_take] at this; omega
        clear hX HO
        go_wp2_with (at_builtin; go_must (refine wpList_append_texts rfl _ _ 72 rfl w.heap.size 9 i0 _ 16 Try.underlying72 hi hz0 hz1 hz2 rfl _ (roOf (l.take k) eo) rfl (by exact O2.out) _ 1 1 [c] rfl rfl (fun e => nomatch e) ?c1 (by simp only [List.length_cons, List.length_nil]; omega) (by decide) hz3 ?_))
        case c1 => exact new_cellN (by simp)
        intro v' w' hown' hb'
        rw [← HX.out] at hown'
        have O3 := Lib.hid hown'
        have N3 := Lib.hid (N2.out.trans hb')
        clear hown' hb' O2 h0 h1 h2 h3 h4 h5 h6
        go_wp2_with fail
        go_roundw
        case rel => exact ⟨k + 1, by omega, by go_num, O3, N3⟩
        case measure => simp [intOf]; omega
      · rw [if_neg ho] at hX
        have o3 := HO.out.alloc (.cells #[.string ⟨eo.toArray⟩, .string ⟨c.toArray⟩, .bool i1, .bool i2, .bool i3, .bool i4, .bool i5] 78)
        rw [← hX] at o3
        have O3 := Lib.hid o3
        clear o3
        have N3 := Lib.hid (bl_allocS HN.out (.cells #[.string ⟨eo.toArray⟩, .string ⟨c.toArray⟩, .bool i1, .bool i2, .bool i3, .bool i4, .bool i5] 78))
        have t1 : (eo == o) = false := by rw [beq_eq_false_iff_ne]; exact ho
        clear hX HO ho
        go_wp2_with fail
        go_roundw
        case rel => exact ⟨k + 1, by omega, by go_num, O3, N3⟩
        case measure => simp [intOf]; omega
    · obtain rfl : k = l.length := by omega
      have ht := HO.out
      rw [List.take_length] at ht
      have HT := Lib.hid ht
      clear ht
      go_wp2_with fail
      go_ret
      exact ⟨_, rfl, HT.out, HN.out⟩

end Go.Proofs.Ytndicdomdndjaaa

end

section

/-
  LAYER 8, THE CODE: with; isFull.
-/
namespace Go.Proofs.Ytndicdomdndjaaa
open Go.RowKit

theorem putO_here {l : List Ent} (hr : Rise l) {x : Ent} (h : (decide (entPlace l x < l.length) && entIs (l.getD (entPlace l x) Ent.zero) x) = true) : putO entLt entIs l x = l.set (entPlace l x) x := by
  have hany := (entPlace_there hr x).symm.trans h
  unfold putO
  cases hf : findO entIs l x with
  | none =>
    have := (findO_isSome (eq := entIs) (l := l) (x := x)).trans hany
    rw [hf] at this
    cases this
  | some i =>
    have := findO_place entOrd hr hf
    subst this
    rfl

theorem putO_new {l : List Ent} (hr : Rise l) {x : Ent} (h : (decide (entPlace l x < l.length) && entIs (l.getD (entPlace l x) Ent.zero) x) = false) : putO entLt entIs l x = putS l (entPlace l x) x := by
  have hany := (entPlace_there hr x).symm.trans h
  unfold putO
  cases hf : findO entIs l x with
  | none => rfl
  | some i =>
    have := (findO_isSome (eq := entIs) (l := l) (x := x)).trans hany
    rw [hf] at this
    cases this

set_option maxHeartbeats 1600000 in
set_option maxRecDepth 100000 in
theorem rwith_any {w : World} {v : Value} {l : List Ent} (hv : Ents w v l) (hr : Rise l) (hl : l.length ≤ 1000) (xo xc : List UInt8) (x1 x2 x3 x4 x5 : Bool) :
    Calls Try.prog 68 #[v, .agg #[.string ⟨xo.toArray⟩, .string ⟨xc.toArray⟩, .bool x1, .bool x2, .bool x3, .bool x4, .bool x5]] w fun e w' => ∃ u, e = .returned u ∧ OwnS entVals 7 78 w' w.heap.size u (putO entLt entIs l ⟨xo, xc, ⟨x1, x2, x3, x4, x5⟩⟩) ∧ Below w.heap.size w w' := by
  have bn := bl_newZ w (.cells #[.string ⟨xo.toArray⟩, .string ⟨xc.toArray⟩, .bool x1, .bool x2, .bool x3, .bool x4, .bool x5] 78)
  have B0 := Lib.hid bn
  have HS := Lib.hid (show (w.alloc (.cells #[.string ⟨xo.toArray⟩, .string ⟨xc.toArray⟩, .bool x1, .bool x2, .bool x3, .bool x4, .bool x5] 78)).heap.size = w.heap.size + 1 by simp)
  have K0 := Lib.hid (cells7_made w ⟨xo, xc, ⟨x1, x2, x3, x4, x5⟩⟩ 78)
  have HV := Lib.hid (hv.later bn)
  obtain ⟨p, hp⟩ : ∃ p, entPlace l ⟨xo, xc, ⟨x1, x2, x3, x4, x5⟩⟩ = p := ⟨_, rfl⟩
  obtain ⟨q, hq⟩ : ∃ q, (decide (p < l.length) && entIs (l.getD p Ent.zero) ⟨xo, xc, ⟨x1, x2, x3, x4, x5⟩⟩) = q := ⟨_, rfl⟩
  have HP := Lib.hid (place_any HV.out hr xo xc x1 x2 x3 x4 x5 hp hq)
  have hple : p ≤ l.length := by rw [← hp]; exact entPlace_le l _
  have HE : Hid (putO entLt entIs l ⟨xo, xc, ⟨x1, x2, x3, x4, x5⟩⟩ = if q = true then l.set p ⟨xo, xc, ⟨x1, x2, x3, x4, x5⟩⟩ else putS l p ⟨xo, xc, ⟨x1, x2, x3, x4, x5⟩⟩) := by
    show _ = _
    subst hp
    cases q with
    | true => rw [if_pos rfl]; exact putO_here hr hq
    | false => rw [if_neg (by decide)]; exact putO_new hr hq
  have HQ : Hid (q = true → p < l.length) := fun e => by
    rw [e, Bool.and_eq_true, decide_eq_true_eq] at hq
    exact hq.1
  generalize putO entLt entIs l ⟨xo, xc, ⟨x1, x2, x3, x4, x5⟩⟩ = R at HE ⊢
  obtain ⟨a, cap, rfl, hm⟩ := hv.open'
  clear hv bn hp hq
  cases q with
  | true =>
    have hlt := HQ.out rfl
    go_enter Try.func68, Try.ntmps68
    go_wp2_with fail
    refine HP.out.mono ?_
    rintro e w1 ⟨rfl, b1⟩
    have B1 := Lib.hid (below2Z B0.out b1)
    have K1 := Lib.hid (K0.out.later b1)
    have V1 := Lib.hid (HV.out.later b1)
    have hz1 := b1.size
    clear b1
    go_wp2_with fail
    refine (ent_clone V1.out.rdS (by omega)).mono ?_
    rintro e w2 ⟨u, rfl, ho, b2⟩
    have B2 := Lib.hid (below2Z B1.out b2)
    obtain ⟨k0, k1, k2, k3, k4, k5, k6⟩ := K1.out.later b2
    simp only [Nat.zero_add] at k0 k1 k2 k3 k4 k5 k6
    have HO := Lib.hid ho
    rw [HS.out] at hz1
    rcases ho.2 with ⟨rfl, h0⟩ | ⟨g, cp, cur, rfl, hbg, -, -, hcm, -, -⟩
    · omega
    · have n0 : (0 : Int) ≤ (p : Int) := by omega
      have n1 : (p : Int) < (l.length : Int) := by omega
      obtain ⟨s0, s1, s2, s3, s4, s5, s6⟩ := cells7_at.2 (HO.out.row entOK hlt)
      have f0 := HO.out.frozenAt (p * 7)
      have f1 := HO.out.frozenAt (p * 7 + 1)
      have f2 := HO.out.frozenAt (p * 7 + 2)
      have f3 := HO.out.frozenAt (p * 7 + 3)
      have f4 := HO.out.frozenAt (p * 7 + 4)
      have f5 := HO.out.frozenAt (p * 7 + 5)
      have f6 := HO.out.frozenAt (p * 7 + 6)
      have O3 := Lib.hid (ownS_low (setE_own HO.out hlt xo xc x1 x2 x3 x4 x5) (show w.heap.size ≤ w1.heap.size by omega))
      have N3 := Lib.hid (setE_below (o := p * 7) B2.out (show w.heap.size ≤ g by omega) xo xc x1 x2 x3 x4 x5)
      have HR := HE.out
      simp only [if_true] at HR
      have hid := Lib.hid HR
      clear ho b2 HR HE HQ
      go_wp2_with fail
      go_ret
      exact ⟨_, rfl, by rw [hid.out]; exact O3.out, N3.out⟩
  | false =>
    have HR := HE.out
    simp only [Bool.false_eq_true, if_false] at HR
    have hid := Lib.hid HR
    clear HR HE HQ
    go_enter Try.func68, Try.ntmps68
    go_wp2_with fail
    refine HP.out.mono ?_
    rintro e w1 ⟨rfl, b1⟩
    have B1 := Lib.hid (below2Z B0.out b1)
    have K1 := Lib.hid (K0.out.later b1)
    have V1 := Lib.hid (HV.out.later b1)
    have hz1 := b1.size
    rw [HS.out] at hz1
    clear b1
    go_wp2_with fail
    refine (ent_clone V1.out.rdS (by omega)).mono ?_
    rintro e w2 ⟨u, rfl, ho, b2⟩
    have B2 := Lib.hid (below2Z B1.out b2)
    obtain ⟨k0, k1, k2, k3, k4, k5, k6⟩ := K1.out.later b2
    simp only [Nat.zero_add] at k0 k1 k2 k3 k4 k5 k6
    have b3 := bl_newZ w2 (.cells #[.string ⟨xo.toArray⟩, .string ⟨xc.toArray⟩, .bool x1, .bool x2, .bool x3, .bool x4, .bool x5] 78)
    have HO := Lib.hid (ho.later b3)
    have HL := Lib.hid (loneS_new (vals := entVals) (T := 78) (w := w2) (r := ⟨xo, xc, ⟨x1, x2, x3, x4, x5⟩⟩) (cs := #[.string ⟨xo.toArray⟩, .string ⟨xc.toArray⟩, .bool x1, .bool x2, .bool x3, .bool x4, .bool x5]) rfl (B := w2.heap.size) rfl)
    have HNE : Hid (∀ g n c, u = .slice (some ⟨g, 0, none⟩) n c → w2.heap.size ≠ g) := fun g n c e => by
      subst e
      have h1 := ho.head.2.2.1
      omega
    have hz2 := b2.size
    have hz3 := b3.size
    have HI := Lib.hid (ent_insert (base := w1.heap.size) HO.out (by omega) hl hple HL.out HNE.out)
    have B3 := Lib.hid (below2Z B2.out b3)
    have hw1 : Hid (w.heap.size ≤ w1.heap.size) := by show _ ≤ _; omega
    clear ho b2 b3 hz2 hz3
    go_wp2_with fail
    refine HI.out.mono ?_
    rintro e w4 ⟨y, rfl, ho4, b4⟩
    have O4 := Lib.hid (ownS_low ho4 hw1.out)
    have B4 := Lib.hid (B3.out.trans (b4.mono hw1.out))
    clear b4 ho4
    go_wp2_with fail
    go_ret
    exact ⟨_, rfl, by rw [hid.out]; exact O4.out, B4.out⟩

end Go.Proofs.Ytndicdomdndjaaa

end

section

/-
  LAYER 8, THE CODE: isFull; find, as one contract; Do.
-/
namespace Go.Proofs.Ytndicdomdndjaaa
open Go.RowKit

theorem e7_cells {w : World} {B : Nat} {xo xc : List UInt8} {x1 x2 x3 x4 x5 : Bool} (h : w.heap[B]? = some (.cells #[.string ⟨xo.toArray⟩, .string ⟨xc.toArray⟩, .bool x1, .bool x2, .bool x3, .bool x4, .bool x5] 78 (0, 0))) : Cells7 w B 0 ⟨xo, xc, ⟨x1, x2, x3, x4, x5⟩⟩ :=
  ⟨cell_of_row w B 0 _ _ (0, 0) h, cell_of_row w B 1 _ _ (0, 0) h, cell_of_row w B 2 _ _ (0, 0) h, cell_of_row w B 3 _ _ (0, 0) h, cell_of_row w B 4 _ _ (0, 0) h, cell_of_row w B 5 _ _ (0, 0) h, cell_of_row w B 6 _ _ (0, 0) h⟩

theorem e7_frozen {w : World} {B : Nat} {cs : Array Value} (h : w.heap[B]? = some (.cells cs 78 (0, 0))) (j : Nat) : w.frozen? ⟨B, j, none⟩ = false := frozen_of_row w B j _ _ h

/-- An entry's item stored anew. -/
def setI (w : World) (B : Nat) (x1 x2 x3 x4 x5 : Bool) : World :=
  ((((w.setCell ⟨B, 2, none⟩ (.bool x1)).setCell ⟨B, 3, none⟩ (.bool x2)).setCell ⟨B, 4, none⟩ (.bool x3)).setCell ⟨B, 5, none⟩ (.bool x4)).setCell ⟨B, 6, none⟩ (.bool x5)

theorem e7_set {w : World} {B : Nat} {xo xc : List UInt8} {x1 x2 x3 x4 x5 : Bool} (h : w.heap[B]? = some (.cells #[.string ⟨xo.toArray⟩, .string ⟨xc.toArray⟩, .bool x1, .bool x2, .bool x3, .bool x4, .bool x5] 78 (0, 0))) (y1 y2 y3 y4 y5 : Bool) : (setI w B y1 y2 y3 y4 y5).heap[B]? = some (.cells #[.string ⟨xo.toArray⟩, .string ⟨xc.toArray⟩, .bool y1, .bool y2, .bool y3, .bool y4, .bool y5] 78 (0, 0)) :=
  heap_setCell_same _ B 6 _ _ (.bool y5) (heap_setCell_same _ B 5 _ _ (.bool y4) (heap_setCell_same _ B 4 _ _ (.bool y3) (heap_setCell_same _ B 3 _ _ (.bool y2) (heap_setCell_same w B 2 _ _ (.bool y1) h))))

theorem heap_set_otherR {w : World} {b c : Nat} {o : Obj} (h : w.heap[b]? = some o) (hne : c ≠ b) (j : Nat) (v : Value) : (w.setCell ⟨c, j, none⟩ v).heap[b]? = some o :=
  (heap_setCell_other w ⟨c, j, none⟩ b v (fun e => hne e.symm)).trans h

theorem e7_other {w : World} {B C : Nat} {o : Obj} (h : w.heap[C]? = some o) (hne : B ≠ C) (y1 y2 y3 y4 y5 : Bool) : (setI w B y1 y2 y3 y4 y5).heap[C]? = some o :=
  heap_set_otherR (heap_set_otherR (heap_set_otherR (heap_set_otherR (heap_set_otherR h hne 2 _) hne 3 _) hne 4 _) hne 5 _) hne 6 _

theorem setI_below {w w1 : World} {n B : Nat} (h : Below n w w1) (hB : n ≤ B) (y1 y2 y3 y4 y5 : Bool) : Below n w (setI w1 B y1 y2 y3 y4 y5) :=
  ((((h.setCell hB _).setCell hB _).setCell hB _).setCell hB _).setCell hB _

theorem heap_newR (w : World) (o : Obj) {B : Nat} (hB : B = w.heap.size) : (w.alloc o).heap[B]? = some o := by
  subst hB
  exact heap_alloc_new w o

theorem heap_ltR {w : World} {B : Nat} {o : Obj} (h : w.heap[B]? = some o) : B < w.heap.size := (Array.getElem?_eq_some_iff.1 h).1

theorem heap_laterR {w w' : World} {B : Nat} {o : Obj} (h : w.heap[B]? = some o) (hb : Below w.heap.size w w') : w'.heap[B]? = some o := (hb.block B (heap_ltR h)).trans h

set_option maxHeartbeats 800000 in
set_option maxRecDepth 100000 in
theorem risFull_any {w : World} {v : Value} {l : List Ent} (hv : Ents w v l) (hl : l.length ≤ 1000) (o : List UInt8) {r : Bool} (h : Hid (decide (16 ≤ (roOf l o).length) = r)) :
    Calls Try.prog 65 #[v, .string ⟨o.toArray⟩] w fun e w' => e = .returned (.bool r) ∧ Below w.heap.size w w' := by
  have HO := Lib.hid (of_any hv (by omega) o)
  obtain ⟨a, cap, rfl, hm⟩ := hv.open'
  have hle := roOf_le l o
  clear hv
  go_enter Try.func65, Try.ntmps65
  go_wp2_with fail
  refine HO.out.mono ?_
  rintro e w1 ⟨u, rfl, ho, b1⟩
  have B1 := Lib.hid b1
  have ht : decide ((16 : Int) ≤ ((roOf l o).length : Int)) = r := by rw [← h.out]; congr 1; apply propext; omega
  rcases ho with ⟨_, ⟨rfl, h0⟩ | ⟨g, cp, cur, rfl, -, -, -, -, -, -⟩⟩
  · rw [h0] at ht
    clear b1
    go_wp2_with fail
    go_ret
    exact ⟨by first | (rw [← ht]; rfl) | rfl | simp_all, B1.out⟩
  · clear b1
    go_wp2_with fail
    go_ret
    exact ⟨by first | rfl | (rw [← ht]), B1.out⟩

/-- find, of a pair: what stands there, or nothing in it. -/
theorem rfind_eq {w : World} {v : Value} {l : List Ent} (hv : Ents w v l) (hr : Rise l) (xo xc : List UInt8) {i1 i2 i3 i4 i5 q : Bool} (hi : Hid (roIt l xo xc = ⟨i1, i2, i3, i4, i5⟩)) (hq : Hid ((l.any fun x => entIs x ⟨xo, xc, It.zero⟩) = q)) :
    Calls Try.prog 62 #[v, .agg #[.string ⟨xo.toArray⟩, .string ⟨xc.toArray⟩, .bool false, .bool false, .bool false, .bool false, .bool false]] w fun e w' => e = .returned (.tuple #[.agg #[.string ⟨xo.toArray⟩, .string ⟨xc.toArray⟩, .bool i1, .bool i2, .bool i3, .bool i4, .bool i5], .bool q]) ∧ Below w.heap.size w w' := by
  have hq0 := hq.out
  cases q with
  | false =>
    have h0 : roIt l xo xc = It.zero := roIt_none fun e he h' => by
      rw [List.any_eq_false] at hq0
      exact hq0 e he (entIs_iff.2 h')
    have h1 := hi.out
    rw [h0] at h1
    injection h1 with e1 e2 e3 e4 e5
    subst e1 e2 e3 e4 e5
    exact find_no hv hr xo xc false false false false false hq0
  | true =>
    have ht := (entPlace_there hr ⟨xo, xc, ⟨false, false, false, false, false⟩⟩).trans hq0
    rw [Bool.and_eq_true, decide_eq_true_eq] at ht
    obtain ⟨hlt, hs⟩ := ht
    obtain ⟨⟨fo, fc, ⟨j1, j2, j3, j4, j5⟩⟩, he⟩ : ∃ r, l.getD (entPlace l ⟨xo, xc, ⟨false, false, false, false, false⟩⟩) Ent.zero = r := ⟨_, rfl⟩
    rw [he] at hs
    obtain ⟨ho, hc⟩ := entIs_iff.1 hs
    simp only at ho hc
    subst ho hc
    have hm : (⟨fo, fc, ⟨j1, j2, j3, j4, j5⟩⟩ : Ent) ∈ l := by rw [← he, getD_at hlt]; exact List.getElem_mem hlt
    have h1 := roIt_mem hr hm
    simp only at h1
    rw [h1] at hi
    have h2 := hi.out
    injection h2 with e1 e2 e3 e4 e5
    subst e1 e2 e3 e4 e5
    exact find_yes hv hr fo fc false false false false false hlt he hs

set_option maxHeartbeats 3200000 in
set_option maxRecDepth 100000 in
theorem rdoA {w : World} {v : Value} {l : List Ent} (hv : Ents w v l) (hs : ShortE l) (hl : l.length ≤ 1000) (u o : List UInt8) (hu : u.length ≤ 4294967296) (ho : o.length ≤ 4294967296) (k : Int) (hm : roMayC l = false) :
    Calls Try.prog 38 #[v, .int .i64 k, .string ⟨u.toArray⟩, .string ⟨o.toArray⟩] w fun e w' => ∃ v', e = .returned (.tuple #[v', .int .i64 1]) ∧ Ents w' v' l ∧ Below w.heap.size w w' := by
  have HV := Lib.hid hv
  have HM := Lib.hid (romay_any hv hs (Lib.hid hm))
  obtain ⟨a, cap, rfl, hmx⟩ := hv.open'
  clear hv hs hm
  go_enter Try.func38, Try.ntmps38
  go_wp2_with fail
  refine HM.out.mono ?_
  rintro e w1 ⟨rfl, b1⟩
  have HB := Lib.hid b1
  clear b1
  go_wp2_with fail
  go_ret2
  exact ⟨_, rfl, HV.out.later HB.out, HB.out⟩

set_option maxHeartbeats 3200000 in
set_option maxRecDepth 100000 in
theorem rdoB {w : World} {v : Value} {l : List Ent} (hv : Ents w v l) (hs : ShortE l) (hl : l.length ≤ 1000) (u o : List UInt8) (hu : u.length ≤ 4294967296) (ho : o.length ≤ 4294967296) (k : Int) (hm : roMayC l = true) (h1 : idIs u = false) :
    Calls Try.prog 38 #[v, .int .i64 k, .string ⟨u.toArray⟩, .string ⟨o.toArray⟩] w fun e w' => ∃ v', e = .returned (.tuple #[v', .int .i64 1]) ∧ Ents w' v' l ∧ Below w.heap.size w w' := by
  have HV := Lib.hid hv
  have HM := Lib.hid (romay_any hv hs (Lib.hid hm))
  have I1 := Lib.hid (is_eq u hu (Lib.hid h1))
  clear h1
  obtain ⟨a, cap, rfl, hmx⟩ := hv.open'
  clear hv hs hm
  go_enter Try.func38, Try.ntmps38
  go_wp2_with fail
  refine HM.out.mono ?_
  rintro e w1 ⟨rfl, b1⟩
  have HB := Lib.hid b1
  clear b1
  go_wp2_with fail
  refine (I1.out _).mono ?_
  rintro e w2 ⟨rfl, b⟩
  replace HB := Lib.hid (below2S HB.out b)
  clear b
  go_wp2_with fail
  go_ret2
  exact ⟨_, rfl, HV.out.later HB.out, HB.out⟩

set_option maxHeartbeats 3200000 in
set_option maxRecDepth 100000 in
theorem rdoC {w : World} {v : Value} {l : List Ent} (hv : Ents w v l) (hs : ShortE l) (hl : l.length ≤ 1000) (u o : List UInt8) (hu : u.length ≤ 4294967296) (ho : o.length ≤ 4294967296) (k : Int) (hm : roMayC l = true) (h1 : idIs u = true) (h2 : idIs o = false) :
    Calls Try.prog 38 #[v, .int .i64 k, .string ⟨u.toArray⟩, .string ⟨o.toArray⟩] w fun e w' => ∃ v', e = .returned (.tuple #[v', .int .i64 1]) ∧ Ents w' v' l ∧ Below w.heap.size w w' := by
  have HV := Lib.hid hv
  have HM := Lib.hid (romay_any hv hs (Lib.hid hm))
  have I1 := Lib.hid (is_eq u hu (Lib.hid h1))
  have I2 := Lib.hid (is_eq o ho (Lib.hid h2))
  clear h1 h2
  obtain ⟨a, cap, rfl, hmx⟩ := hv.open'
  clear hv hs hm
  go_enter Try.func38, Try.ntmps38
  go_wp2_with fail
  refine HM.out.mono ?_
  rintro e w1 ⟨rfl, b1⟩
  have HB := Lib.hid b1
  clear b1
  go_wp2_with fail
  refine (I1.out _).mono ?_
  rintro e w2 ⟨rfl, b⟩
  replace HB := Lib.hid (below2S HB.out b)
  clear b
  go_wp2_with fail
  refine (I2.out _).mono ?_
  rintro e w3 ⟨rfl, b⟩
  replace HB := Lib.hid (below2S HB.out b)
  clear b
  go_wp2_with fail
  go_ret2
  exact ⟨_, rfl, HV.out.later HB.out, HB.out⟩

set_option maxHeartbeats 3200000 in
set_option maxRecDepth 100000 in
theorem rdoD {w : World} {v : Value} {l : List Ent} (hv : Ents w v l) (hs : ShortE l) (hl : l.length ≤ 1000) (u o : List UInt8) (hu : u.length ≤ 4294967296) (ho : o.length ≤ 4294967296) (k : Int) (hm : roMayC l = true) (h1 : idIs u = true) (h2 : idIs o = true) (h3 : (u == o) = true) :
    Calls Try.prog 38 #[v, .int .i64 k, .string ⟨u.toArray⟩, .string ⟨o.toArray⟩] w fun e w' => ∃ v', e = .returned (.tuple #[v', .int .i64 1]) ∧ Ents w' v' l ∧ Below w.heap.size w w' := by
  have HV := Lib.hid hv
  have HM := Lib.hid (romay_any hv hs (Lib.hid hm))
  have I1 := Lib.hid (is_eq u hu (Lib.hid h1))
  have I2 := Lib.hid (is_eq o ho (Lib.hid h2))
  clear h1 h2
  obtain ⟨a, cap, rfl, hmx⟩ := hv.open'
  clear hv hs hm
  go_enter Try.func38, Try.ntmps38
  go_wp2_with fail
  refine HM.out.mono ?_
  rintro e w1 ⟨rfl, b1⟩
  have HB := Lib.hid b1
  clear b1
  go_wp2_with fail
  refine (I1.out _).mono ?_
  rintro e w2 ⟨rfl, b⟩
  replace HB := Lib.hid (below2S HB.out b)
  clear b
  go_wp2_with fail
  refine (I2.out _).mono ?_
  rintro e w3 ⟨rfl, b⟩
  replace HB := Lib.hid (below2S HB.out b)
  clear b
  go_wp2_with fail
  go_ret2
  exact ⟨_, rfl, HV.out.later HB.out, HB.out⟩

set_option maxHeartbeats 3200000 in
set_option maxRecDepth 100000 in
theorem rdoE {w : World} {v : Value} {l : List Ent} (hv : Ents w v l) (hs : ShortE l) (hl : l.length ≤ 1000) (u o : List UInt8) (hu : u.length ≤ 4294967296) (ho : o.length ≤ 4294967296) (k : Int) (hm : roMayC l = true) (h1 : idIs u = true) (h2 : idIs o = true) (h3 : (u == o) = false) {i1 i2 i3 i4 i5 j1 j2 j3 j4 j5 q q' a1 a2 a3 a4 a5 b1 b2 b3 b4 b5 : Bool} {er : Nat} (hi : roIt l u o = ⟨i1, i2, i3, i4, i5⟩) (hj : roIt l o u = ⟨j1, j2, j3, j4, j5⟩) (hq : (l.any fun x => entIs x ⟨u, o, It.zero⟩) = q) (hq' : (l.any fun x => entIs x ⟨o, u, It.zero⟩) = q') (hk : (Lit.int .i64 k).wf = true) (hact : suAct ⟨i1, i2, i3, i4, i5⟩ ⟨j1, j2, j3, j4, j5⟩ k = (⟨a1, a2, a3, a4, a5⟩, ⟨b1, b2, b3, b4, b5⟩, er)) (her : er ≠ 0) :
    Calls Try.prog 38 #[v, .int .i64 k, .string ⟨u.toArray⟩, .string ⟨o.toArray⟩] w fun e w' => ∃ v', e = .returned (.tuple #[v', .int .i64 (er : Int)]) ∧ Ents w' v' l ∧ Below w.heap.size w w' := by
  have t9 : ((er : Int) != 0) = true := by rw [bne_iff_ne]; omega
  clear her
  have HV := Lib.hid hv
  have HM := Lib.hid (romay_any hv hs (Lib.hid hm))
  have HR := Lib.hid (roMay_rise hm)
  have I1 := Lib.hid (is_eq u hu (Lib.hid h1))
  have I2 := Lib.hid (is_eq o ho (Lib.hid h2))
  have E1 := Lib.hid (entry_any u o)
  have E2 := Lib.hid (entry_any o u)
  have FI := Lib.hid hi
  have FJ := Lib.hid hj
  have FQ := Lib.hid hq
  have FQ' := Lib.hid hq'
  have HA := Lib.hid (sact_any i1 i2 i3 i4 i5 j1 j2 j3 j4 j5 k hk)
  rw [hact] at HA
  obtain ⟨a, cap, rfl, hmx⟩ := hv.open'
  clear hv hs hm h1 h2 hi hj hq hq' hk hact
  go_enter Try.func38, Try.ntmps38
  go_wp2_with fail
  refine HM.out.mono ?_
  rintro e w1 ⟨rfl, b1⟩
  have HB := Lib.hid b1
  clear b1
  go_wp2_with fail
  refine (I1.out _).mono ?_
  rintro e w2 ⟨rfl, b⟩
  replace HB := Lib.hid (below2S HB.out b)
  clear b
  go_wp2_with fail
  refine (I2.out _).mono ?_
  rintro e w3 ⟨rfl, b⟩
  replace HB := Lib.hid (below2S HB.out b)
  clear b
  go_wp2_with fail
  refine (E1.out _).mono ?_
  rintro e w4 ⟨rfl, b⟩
  replace HB := Lib.hid (below2S HB.out b)
  clear b
  go_wp2_with fail
  refine (rfind_eq (HV.out.later HB.out) HR.out u o FI FQ).mono ?_
  rintro e w5 ⟨rfl, b⟩
  have bb := bl_newZ w5 (.cells #[.string ⟨u.toArray⟩, .string ⟨o.toArray⟩, .bool i1, .bool i2, .bool i3, .bool i4, .bool i5] 78)
  have X10 := Lib.hid (heap_newR w5 (.cells #[.string ⟨u.toArray⟩, .string ⟨o.toArray⟩, .bool i1, .bool i2, .bool i3, .bool i4, .bool i5] 78) rfl)
  have HS5 := Lib.hid (below2S HB.out b).size
  replace HB := Lib.hid (below2S (below2S HB.out b) bb)
  clear b bb
  go_wp2_with fail
  generalize hW : w5.alloc (.cells #[.string ⟨u.toArray⟩, .string ⟨o.toArray⟩, .bool i1, .bool i2, .bool i3, .bool i4, .bool i5] 78) = w6 at HB X10 ⊢
  generalize hN : w5.heap.size = n5 at X10 HS5 ⊢
  clear hW hN
  refine (E2.out _).mono ?_
  rintro e w7 ⟨rfl, b⟩
  replace X10 := Lib.hid (heap_laterR X10.out b)
  replace HB := Lib.hid (below2S HB.out b)
  clear b
  go_wp2_with fail
  refine (rfind_eq (HV.out.later HB.out) HR.out o u FJ FQ').mono ?_
  rintro e w8 ⟨rfl, b⟩
  have bb := bl_newZ w8 (.cells #[.string ⟨o.toArray⟩, .string ⟨u.toArray⟩, .bool j1, .bool j2, .bool j3, .bool j4, .bool j5] 78)
  have X12 := Lib.hid (heap_newR w8 (.cells #[.string ⟨o.toArray⟩, .string ⟨u.toArray⟩, .bool j1, .bool j2, .bool j3, .bool j4, .bool j5] 78) rfl)
  have HS8 := Lib.hid (below2S HB.out b).size
  replace X10 := Lib.hid (heap_laterR X10.out b)
  have hne := Lib.hid (heap_ltR X10.out)
  replace X10 := Lib.hid (heap_laterR X10.out bb)
  replace HB := Lib.hid (below2S (below2S HB.out b) bb)
  clear b bb
  obtain ⟨c0, c1, c2, c3, c4, c5, c6⟩ := e7_cells X10.out
  obtain ⟨d0, d1, d2, d3, d4, d5, d6⟩ := e7_cells X12.out
  simp only [Nat.zero_add] at c0 c1 c2 c3 c4 c5 c6 d0 d1 d2 d3 d4 d5 d6
  go_wp2_with fail
  generalize hW : w8.alloc (.cells #[.string ⟨o.toArray⟩, .string ⟨u.toArray⟩, .bool j1, .bool j2, .bool j3, .bool j4, .bool j5] 78) = w9 at HB X10 X12 c0 c1 c2 c3 c4 c5 c6 d0 d1 d2 d3 d4 d5 d6 ⊢
  generalize hN : w8.heap.size = n8 at X12 HS8 hne d0 d1 d2 d3 d4 d5 d6 ⊢
  clear hW hN c0 c1 c2 c3 c4 c5 c6 d0 d1 d2 d3 d4 d5 d6
  refine (HA.out _).mono ?_
  rintro e w10 ⟨rfl, b⟩
  replace X10 := Lib.hid (heap_laterR X10.out b)
  replace X12 := Lib.hid (heap_laterR X12.out b)
  replace HB := Lib.hid (below2S HB.out b)
  clear b
  have hne1 : n5 ≠ n8 := by have := hne.out; omega
  have Y12 := e7_other X12.out hne1 a1 a2 a3 a4 a5
  have Y10 := e7_set X10.out a1 a2 a3 a4 a5
  have Z12 := Lib.hid (e7_set Y12 b1 b2 b3 b4 b5)
  have Z10 := Lib.hid (e7_other Y10 hne1.symm b1 b2 b3 b4 b5)
  have ZB := Lib.hid (setI_below (setI_below HB.out HS5.out a1 a2 a3 a4 a5) HS8.out b1 b2 b3 b4 b5)
  obtain ⟨c0, c1, c2, c3, c4, c5, c6⟩ := e7_cells X10.out
  obtain ⟨d0, d1, d2, d3, d4, d5, d6⟩ := e7_cells Y12
  simp only [Nat.zero_add] at c0 c1 c2 c3 c4 c5 c6 d0 d1 d2 d3 d4 d5 d6
  have f2 := e7_frozen X10.out 2
  have f3 := e7_frozen X10.out 3
  have f4 := e7_frozen X10.out 4
  have f5 := e7_frozen X10.out 5
  have f6 := e7_frozen X10.out 6
  have g2 := e7_frozen Y12 2
  have g3 := e7_frozen Y12 3
  have g4 := e7_frozen Y12 4
  have g5 := e7_frozen Y12 5
  have g6 := e7_frozen Y12 6
  unfold setI at d0 d1 d2 d3 d4 d5 d6 g2 g3 g4 g5 g6
  clear Y10 Y12
  unfold actE
  obtain ⟨e0, e1, e2, e3, e4, e5, e6⟩ := e7_cells Z10.out
  obtain ⟨p0, p1, p2, p3, p4, p5, p6⟩ := e7_cells Z12.out
  simp only [Nat.zero_add] at e0 e1 e2 e3 e4 e5 e6 p0 p1 p2 p3 p4 p5 p6
  unfold setI at e0 e1 e2 e3 e4 e5 e6 p0 p1 p2 p3 p4 p5 p6
  go_wp2_with fail
  go_ret2
  exact ⟨_, rfl, HV.out.later ZB.out, ZB.out⟩

end Go.Proofs.Ytndicdomdndjaaa

end
