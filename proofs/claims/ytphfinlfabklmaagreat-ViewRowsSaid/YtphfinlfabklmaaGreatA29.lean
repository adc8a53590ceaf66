/-
  TEXTS OF THE PROOF, one behind the other: RosSymM, RosSymS, ViewWat, Held.
-/
import Derived.Test.YtphfinlfabklmaaGreatA16
import Derived.Test.YtphfinlfabklmaaGreatA28
import Derived.Test.YtphfinlfabklmaaGreatA13
import Derived.Test.YtphfinlfabklmaaGreatA10
import Derived.Deep.RegionHeld
import Derived.BigRegion
import Derived.Lib.Hide

section

/-
  slices.SortStableFunc OF ENTRIES THAT RISE ALREADY, however many: nothing turns.
-/
namespace Go.Proofs.YtphfinlfabklmaaGreat
open Go.RowKit

set_option maxHeartbeats 3200000 in
set_option maxRecDepth 100000 in
theorem rsym_one {w : World} {v : Value} {l : List Ent} (hv : Ents w v l) (hr : Rise l) {a m b : Nat} (hma1 : a < m) (hma2 : m ≤ a + 1) (hab : m < b) (hb : b ≤ l.length) (hl : l.length ≤ 4294967) :
    Calls Tryz.prog 215 #[v, .int .i64 a, .int .i64 m, .int .i64 b, .func (.func 125) #[] #[]] w fun e w' => e = .returned (.tuple #[]) ∧ Below w.heap.size w w' := by
  have HV := Lib.hid hv
  have HR := Lib.hid hr
  obtain ⟨ad, cap, rfl, hm⟩ := hv.open'
  clear hv hr
  have e1 : (m : Int) - (a : Int) = 1 := by omega
  go_enter Tryz.func215, Tryz.ntmps215
  go_wp2_with fail
  go_loopw [10, 11] (fun i j wr => ∃ k : Nat, m ≤ k ∧ k ≤ b ∧ i = .int .i64 m ∧ j = .int .i64 k ∧ Hid (Below w.heap.size w wr)) (fun _ j _ => (intOf j).toNat)
  case atStart => exact ⟨b, by omega, by omega, by first | rfl | go_num, rfl, Below.refl _ _⟩
  case round =>
    obtain ⟨k, hak, hkb, rfl, rfl, HB⟩ := hrel
    clear e1
    by_cases hlt : m < k
    · obtain ⟨h, eh, hh1, hh2⟩ : ∃ h : Nat, ((m : Int) + (k : Int)) / 2 = (h : Int) ∧ m ≤ h ∧ h < k := ⟨(m + k) / 2, by omega, by omega, by omega⟩
      have g0 : (0 : Int) ≤ (h : Int) := by omega
      have g1 : (h : Int) < (l.length : Int) := by omega
      have g2 : (0 : Int) ≤ (a : Int) := by omega
      have g3 : (a : Int) < (l.length : Int) := by omega
      obtain ⟨bk, off, e1, hc⟩ := HV.out.row HB.out h (by omega)
      subst e1
      obtain ⟨b2, off2, e2, hp⟩ := HV.out.row HB.out a (by omega)
      injection e2 with e2
      injection e2 with e3 e4 _
      subst e3 e4
      obtain ⟨⟨eo, ec, ⟨i1, i2, i3, i4, i5⟩⟩, hx⟩ : ∃ r, l.getD h Ent.zero = r := ⟨_, rfl⟩
      obtain ⟨⟨po, pc, ⟨j1, j2, j3, j4, j5⟩⟩, hy⟩ : ∃ r, l.getD a Ent.zero = r := ⟨_, rfl⟩
      have hlt2 := rise_back HR.out (show a < h by omega) (by omega) hy hx
      rw [hx] at hc
      rw [hy] at hp
      have HC := Lib.hid (rcompare_any eo ec po pc i1 i2 i3 i4 i5 j1 j2 j3 j4 j5)
      obtain ⟨n, hn⟩ : ∃ n, entI ⟨eo, ec, ⟨i1, i2, i3, i4, i5⟩⟩ ⟨po, pc, ⟨j1, j2, j3, j4, j5⟩⟩ = n := ⟨_, rfl⟩
      rw [hn] at HC hlt2
      obtain ⟨q0, q1, q2, q3, q4, q5, q6⟩ := cells7_regrown hc
      obtain ⟨p0, p1, p2, p3, p4, p5, p6⟩ := cells7_regrown hp
      try simp only at q0 q1 q2 q3 q4 q5 q6
      try simp only at p0 p1 p2 p3 p4 p5 p6
      clear hc hp hx hy hn
      go_wp2_with fail
      refine wp_region_quiet_below (by kernel_rfl) (by kernel_rfl) ?_
      repeat (go_big_quiet_step (with_reducible exact rgB HC.out _ _ _))
      refine wpQuiet_nil ?_
      intro w5 hw5
      have B5 := Lib.hid (below2S HB.out (regrown_belowP hw5))
      clear hw5 q0 q1 q2 q3 q4 q5 q6 p0 p1 p2 p3 p4 p5 p6
      go_wp2_with fail
      go_roundw
      case rel => exact ⟨h, by omega, by omega, rfl, rfl, B5⟩
      case measure => simp [intOf]; omega
    · obtain rfl : k = m := by omega
      have e5 : (k : Int) - 1 = (a : Int) := by omega
      go_wp2_with fail
      refine wp_loop_rounds 1 ?_
      rw [rounds_succ]
      go_wp2_with fail
      refine bodyPost_ret (results_none rfl _ _ _) rfl ?_
      exact ⟨rfl, HB.out⟩

set_option maxHeartbeats 3200000 in
set_option maxRecDepth 100000 in
theorem rsym_two {w : World} {v : Value} {l : List Ent} (hv : Ents w v l) (hr : Rise l) {a m b : Nat} (hab : a + 1 < m) (hmb1 : m < b) (hmb2 : b ≤ m + 1) (hb : b ≤ l.length) (hl : l.length ≤ 4294967) :
    Calls Tryz.prog 215 #[v, .int .i64 a, .int .i64 m, .int .i64 b, .func (.func 125) #[] #[]] w fun e w' => e = .returned (.tuple #[]) ∧ Below w.heap.size w w' := by
  have HV := Lib.hid hv
  have HR := Lib.hid hr
  obtain ⟨ad, cap, rfl, hm⟩ := hv.open'
  clear hv hr
  have e1 : ((m : Int) - (a : Int) == 1) = false := by rw [beq_eq_false_iff_ne]; omega
  have e2 : ((b : Int) - (m : Int)) = 1 := by omega
  go_enter Tryz.func215, Tryz.ntmps215
  go_wp2_with fail
  go_loopw [14, 15] (fun i j wr => ∃ k : Nat, a ≤ k ∧ k ≤ m ∧ i = .int .i64 k ∧ j = .int .i64 m ∧ Hid (Below w.heap.size w wr)) (fun i _ _ => m - (intOf i).toNat)
  case atStart => exact ⟨a, by omega, by omega, rfl, rfl, Below.refl _ _⟩
  case round =>
    obtain ⟨k, hak, hkb, rfl, rfl, HB⟩ := hrel
    clear e1 e2
    by_cases hlt : k < m
    · obtain ⟨h, eh, hh1, hh2⟩ : ∃ h : Nat, ((k : Int) + (m : Int)) / 2 = (h : Int) ∧ k ≤ h ∧ h < m := ⟨(k + m) / 2, by omega, by omega, by omega⟩
      have g0 : (0 : Int) ≤ (h : Int) := by omega
      have g1 : (h : Int) < (l.length : Int) := by omega
      have g2 : (0 : Int) ≤ (m : Int) := by omega
      have g3 : (m : Int) < (l.length : Int) := by omega
      obtain ⟨bk, off, e1, hc⟩ := HV.out.row HB.out m (by omega)
      subst e1
      obtain ⟨b2, off2, e2, hp⟩ := HV.out.row HB.out h (by omega)
      injection e2 with e2
      injection e2 with e3 e4 _
      subst e3 e4
      obtain ⟨⟨eo, ec, ⟨i1, i2, i3, i4, i5⟩⟩, hx⟩ : ∃ r, l.getD m Ent.zero = r := ⟨_, rfl⟩
      obtain ⟨⟨po, pc, ⟨j1, j2, j3, j4, j5⟩⟩, hy⟩ : ∃ r, l.getD h Ent.zero = r := ⟨_, rfl⟩
      have hlt2 := rise_back HR.out (show h < m by omega) (by omega) hy hx
      rw [hx] at hc
      rw [hy] at hp
      have HC := Lib.hid (rcompare_any eo ec po pc i1 i2 i3 i4 i5 j1 j2 j3 j4 j5)
      obtain ⟨n, hn⟩ : ∃ n, entI ⟨eo, ec, ⟨i1, i2, i3, i4, i5⟩⟩ ⟨po, pc, ⟨j1, j2, j3, j4, j5⟩⟩ = n := ⟨_, rfl⟩
      rw [hn] at HC hlt2
      obtain ⟨q0, q1, q2, q3, q4, q5, q6⟩ := cells7_regrown hc
      obtain ⟨p0, p1, p2, p3, p4, p5, p6⟩ := cells7_regrown hp
      try simp only at q0 q1 q2 q3 q4 q5 q6
      try simp only at p0 p1 p2 p3 p4 p5 p6
      clear hc hp hx hy hn
      go_wp2_with fail
      refine wp_region_quiet_below (by kernel_rfl) (by kernel_rfl) ?_
      repeat (go_big_quiet_step (with_reducible exact rgB HC.out _ _ _))
      refine wpQuiet_nil ?_
      intro w5 hw5
      have B5 := Lib.hid (below2S HB.out (regrown_belowP hw5))
      clear hw5 q0 q1 q2 q3 q4 q5 q6 p0 p1 p2 p3 p4 p5 p6
      go_wp2_with fail
      go_roundw
      case rel => exact ⟨h + 1, by omega, by omega, by go_num, rfl, B5⟩
      case measure => simp [intOf]; omega
    · obtain rfl : k = m := by omega
      go_wp2_with fail
      refine wp_loop_rounds 1 ?_
      rw [rounds_succ]
      go_wp2_with fail
      refine bodyPost_ret (results_none rfl _ _ _) rfl ?_
      exact ⟨rfl, HB.out⟩

set_option maxHeartbeats 3200000 in
set_option maxRecDepth 100000 in
theorem rsym_hi {w : World} {v : Value} {l : List Ent} (hv : Ents w v l) (hr : Rise l) {a m b d : Nat} (ham : a + 1 < m) (hmb : m + 1 < b) (hd1 : 2 * d ≤ a + b) (hd2 : a + b ≤ 2 * d + 1) (hdm : d < m) (hrec : ∀ w, Ents w v l → Calls Tryz.prog 215 #[v, .int .i64 d, .int .i64 m, .int .i64 b, .func (.func 125) #[] #[]] w fun e w' => e = .returned (.tuple #[]) ∧ Below w.heap.size w w') (hb : b ≤ l.length) (hl : l.length ≤ 4294967) :
    Calls Tryz.prog 215 #[v, .int .i64 a, .int .i64 m, .int .i64 b, .func (.func 125) #[] #[]] w fun e w' => e = .returned (.tuple #[]) ∧ Below w.heap.size w w' := by
  have HV := Lib.hid hv
  have HR := Lib.hid hr
  obtain ⟨ad, cap, rfl, hm⟩ := hv.open'
  clear hv hr
  have HREC := Lib.hid hrec
  clear hrec
  have e1 : ((m : Int) - (a : Int) == 1) = false := by rw [beq_eq_false_iff_ne]; omega
  have e2 : ((b : Int) - (m : Int) == 1) = false := by rw [beq_eq_false_iff_ne]; omega
  have ed : ((a : Int) + (b : Int)) / 2 = (d : Int) := by omega
  obtain ⟨p, ep, hp1, hp2⟩ : ∃ p : Nat, (d : Int) + (m : Int) - 1 = (p : Int) ∧ p + 1 ≤ d + m ∧ d + m ≤ p + 1 := ⟨d + m - 1, by omega, by omega, by omega⟩
  have t1 : decide ((d : Int) < (m : Int)) = true := by rw [decide_eq_true_eq]; omega
  obtain ⟨s, es, hs1, hs2⟩ : ∃ s : Nat, (d : Int) + (m : Int) - (b : Int) = (s : Int) ∧ s + b ≤ d + m ∧ d + m ≤ s + b := ⟨d + m - b, by omega, by omega, by omega⟩
  go_enter Tryz.func215, Tryz.ntmps215
  go_wp2_with fail
  go_loopw [20, 21] (fun i j wr => ∃ k : Nat, s ≤ k ∧ k ≤ d ∧ i = .int .i64 k ∧ j = .int .i64 d ∧ Hid (Below w.heap.size w wr)) (fun i _ _ => d - (intOf i).toNat)
  case atStart => exact ⟨s, by omega, by omega, rfl, rfl, Below.refl _ _⟩
  case round =>
    obtain ⟨k, hak, hkb, rfl, rfl, HB⟩ := hrel
    by_cases hlt : k < d
    · obtain ⟨h, eh, hh1, hh2⟩ : ∃ h : Nat, ((k : Int) + (d : Int)) / 2 = (h : Int) ∧ k ≤ h ∧ h < d := ⟨(k + d) / 2, by omega, by omega, by omega⟩
      obtain ⟨g, eg, hg1, hg2⟩ : ∃ g : Nat, (p : Int) - (h : Int) = (g : Int) ∧ h < g ∧ g < b := ⟨p - h, by omega, by omega, by omega⟩
      have g0 : (0 : Int) ≤ (h : Int) := by omega
      have g1 : (h : Int) < (l.length : Int) := by omega
      have g2 : (0 : Int) ≤ (g : Int) := by omega
      have g3 : (g : Int) < (l.length : Int) := by omega
      obtain ⟨bk, off, e1, hc⟩ := HV.out.row HB.out g (by omega)
      subst e1
      obtain ⟨b2, off2, e2, hp⟩ := HV.out.row HB.out h (by omega)
      injection e2 with e2
      injection e2 with e3 e4 _
      subst e3 e4
      obtain ⟨⟨eo, ec, ⟨i1, i2, i3, i4, i5⟩⟩, hx⟩ : ∃ r, l.getD g Ent.zero = r := ⟨_, rfl⟩
      obtain ⟨⟨po, pc, ⟨j1, j2, j3, j4, j5⟩⟩, hy⟩ : ∃ r, l.getD h Ent.zero = r := ⟨_, rfl⟩
      have hlt2 := rise_back HR.out (show h < g by omega) (by omega) hy hx
      rw [hx] at hc
      rw [hy] at hp
      have HC := Lib.hid (rcompare_any eo ec po pc i1 i2 i3 i4 i5 j1 j2 j3 j4 j5)
      obtain ⟨n, hn⟩ : ∃ n, entI ⟨eo, ec, ⟨i1, i2, i3, i4, i5⟩⟩ ⟨po, pc, ⟨j1, j2, j3, j4, j5⟩⟩ = n := ⟨_, rfl⟩
      rw [hn] at HC hlt2
      obtain ⟨q0, q1, q2, q3, q4, q5, q6⟩ := cells7_regrown hc
      obtain ⟨p0, p1, p2, p3, p4, p5, p6⟩ := cells7_regrown hp
      try simp only at q0 q1 q2 q3 q4 q5 q6
      try simp only at p0 p1 p2 p3 p4 p5 p6
      clear hc hp hx hy hn
      go_wp2_with fail
      refine wp_region_quiet_below (by kernel_rfl) (by kernel_rfl) ?_
      repeat (go_big_quiet_step (with_reducible exact rgB HC.out _ _ _))
      refine wpQuiet_nil ?_
      intro w5 hw5
      have B5 := Lib.hid (below2S HB.out (regrown_belowP hw5))
      clear hw5 q0 q1 q2 q3 q4 q5 q6 p0 p1 p2 p3 p4 p5 p6
      go_wp2_with fail
      go_roundw
      case rel => exact ⟨h + 1, by omega, by omega, by go_num, rfl, B5⟩
      case measure => simp [intOf]; omega
    · obtain rfl : k = d := by omega
      have ee : (k : Int) + (m : Int) - (k : Int) = (m : Int) := by omega
      have t2 : decide ((a : Int) < (k : Int)) = true := by rw [decide_eq_true_eq]; omega
      have t3 : decide ((m : Int) < (b : Int)) = true := by rw [decide_eq_true_eq]; omega
      have W5 := Lib.hid (HV.out.later HB.out)
      go_wp2_with fail
      refine (HREC.out _ W5.out).mono ?_
      rintro e w6 ⟨rfl, b6⟩
      have B6 := Lib.hid (below2S HB.out b6)
      clear b6
      go_wp2_with fail
      go_end0
      exact ⟨rfl, B6.out⟩

set_option maxHeartbeats 3200000 in
set_option maxRecDepth 100000 in
theorem rsym_lo {w : World} {v : Value} {l : List Ent} (hv : Ents w v l) (hr : Rise l) {a m b d : Nat} (ham : a + 1 < m) (hmb : m + 1 < b) (hd1 : 2 * d ≤ a + b) (hd2 : a + b ≤ 2 * d + 1) (hdm : m ≤ d) (hrec : m < d → ∀ w, Ents w v l → Calls Tryz.prog 215 #[v, .int .i64 a, .int .i64 m, .int .i64 d, .func (.func 125) #[] #[]] w fun e w' => e = .returned (.tuple #[]) ∧ Below w.heap.size w w') (hb : b ≤ l.length) (hl : l.length ≤ 4294967) :
    Calls Tryz.prog 215 #[v, .int .i64 a, .int .i64 m, .int .i64 b, .func (.func 125) #[] #[]] w fun e w' => e = .returned (.tuple #[]) ∧ Below w.heap.size w w' := by
  have HV := Lib.hid hv
  have HR := Lib.hid hr
  obtain ⟨ad, cap, rfl, hm⟩ := hv.open'
  clear hv hr
  have HREC := Lib.hid hrec
  clear hrec
  have e1 : ((m : Int) - (a : Int) == 1) = false := by rw [beq_eq_false_iff_ne]; omega
  have e2 : ((b : Int) - (m : Int) == 1) = false := by rw [beq_eq_false_iff_ne]; omega
  have ed : ((a : Int) + (b : Int)) / 2 = (d : Int) := by omega
  obtain ⟨p, ep, hp1, hp2⟩ : ∃ p : Nat, (d : Int) + (m : Int) - 1 = (p : Int) ∧ p + 1 ≤ d + m ∧ d + m ≤ p + 1 := ⟨d + m - 1, by omega, by omega, by omega⟩
  have t1 : ((d : Int) < (m : Int)) = False := by rw [eq_iff_iff, iff_false]; omega
  go_enter Tryz.func215, Tryz.ntmps215
  go_wp2_with fail
  go_loopw [20, 21] (fun i j wr => ∃ k : Nat, a ≤ k ∧ k ≤ m ∧ i = .int .i64 k ∧ j = .int .i64 m ∧ Hid (Below w.heap.size w wr)) (fun i _ _ => m - (intOf i).toNat)
  case atStart => exact ⟨a, by omega, by omega, rfl, rfl, Below.refl _ _⟩
  case round =>
    obtain ⟨k, hak, hkb, rfl, rfl, HB⟩ := hrel
    by_cases hlt : k < m
    · obtain ⟨h, eh, hh1, hh2⟩ : ∃ h : Nat, ((k : Int) + (m : Int)) / 2 = (h : Int) ∧ k ≤ h ∧ h < m := ⟨(k + m) / 2, by omega, by omega, by omega⟩
      obtain ⟨g, eg, hg1, hg2⟩ : ∃ g : Nat, (p : Int) - (h : Int) = (g : Int) ∧ h < g ∧ g < b := ⟨p - h, by omega, by omega, by omega⟩
      have g0 : (0 : Int) ≤ (h : Int) := by omega
      have g1 : (h : Int) < (l.length : Int) := by omega
      have g2 : (0 : Int) ≤ (g : Int) := by omega
      have g3 : (g : Int) < (l.length : Int) := by omega
      obtain ⟨bk, off, e1, hc⟩ := HV.out.row HB.out g (by omega)
      subst e1
      obtain ⟨b2, off2, e2, hp⟩ := HV.out.row HB.out h (by omega)
      injection e2 with e2
      injection e2 with e3 e4 _
      subst e3 e4
      obtain ⟨⟨eo, ec, ⟨i1, i2, i3, i4, i5⟩⟩, hx⟩ : ∃ r, l.getD g Ent.zero = r := ⟨_, rfl⟩
      obtain ⟨⟨po, pc, ⟨j1, j2, j3, j4, j5⟩⟩, hy⟩ : ∃ r, l.getD h Ent.zero = r := ⟨_, rfl⟩
      have hlt2 := rise_back HR.out (show h < g by omega) (by omega) hy hx
      rw [hx] at hc
      rw [hy] at hp
      have HC := Lib.hid (rcompare_any eo ec po pc i1 i2 i3 i4 i5 j1 j2 j3 j4 j5)
      obtain ⟨n, hn⟩ : ∃ n, entI ⟨eo, ec, ⟨i1, i2, i3, i4, i5⟩⟩ ⟨po, pc, ⟨j1, j2, j3, j4, j5⟩⟩ = n := ⟨_, rfl⟩
      rw [hn] at HC hlt2
      obtain ⟨q0, q1, q2, q3, q4, q5, q6⟩ := cells7_regrown hc
      obtain ⟨p0, p1, p2, p3, p4, p5, p6⟩ := cells7_regrown hp
      try simp only at q0 q1 q2 q3 q4 q5 q6
      try simp only at p0 p1 p2 p3 p4 p5 p6
      clear hc hp hx hy hn
      go_wp2_with fail
      refine wp_region_quiet_below (by kernel_rfl) (by kernel_rfl) ?_
      repeat (go_big_quiet_step (with_reducible exact rgB HC.out _ _ _))
      refine wpQuiet_nil ?_
      intro w5 hw5
      have B5 := Lib.hid (below2S HB.out (regrown_belowP hw5))
      clear hw5 q0 q1 q2 q3 q4 q5 q6 p0 p1 p2 p3 p4 p5 p6
      go_wp2_with fail
      go_roundw
      case rel => exact ⟨h + 1, by omega, by omega, by go_num, rfl, B5⟩
      case measure => simp [intOf]; omega
    · obtain rfl : k = m := by omega
      have ee : (d : Int) + (k : Int) - (k : Int) = (d : Int) := by omega
      have t2 : decide ((a : Int) < (k : Int)) = true := by rw [decide_eq_true_eq]; omega
      have W5 := Lib.hid (HV.out.later HB.out)
      by_cases hmd : k < d
      · have t3 : decide ((k : Int) < (d : Int)) = true := by rw [decide_eq_true_eq]; omega
        have HR2 := Lib.hid (HREC.out hmd)
        go_wp2_with fail
        refine (HR2.out _ W5.out).mono ?_
        rintro e w6 ⟨rfl, b6⟩
        have B6 := Lib.hid (below2S HB.out b6)
        clear b6
        go_wp2_with fail
        go_end0
        exact ⟨rfl, B6.out⟩
      · have t3 : decide ((k : Int) < (d : Int)) = false := by rw [decide_eq_false_iff_not]; omega
        go_wp2_with fail
        go_end0
        exact ⟨rfl, HB.out⟩

theorem rsym_any {v : Value} {l : List Ent} (hr : Rise l) (hl : l.length ≤ 4294967) : ∀ (n : Nat) {a m b : Nat}, b - a ≤ n → a < m → m < b → b ≤ l.length → ∀ w, Ents w v l →
    Calls Tryz.prog 215 #[v, .int .i64 a, .int .i64 m, .int .i64 b, .func (.func 125) #[] #[]] w fun e w' => e = .returned (.tuple #[]) ∧ Below w.heap.size w w'
  | 0, a, m, b, h, h1, h2, _, _, _ => by omega
  | n + 1, a, m, b, h, h1, h2, hb, w, hv => by
    by_cases c1 : m ≤ a + 1
    · exact rsym_one hv hr h1 c1 h2 hb hl
    · by_cases c2 : b ≤ m + 1
      · exact rsym_two hv hr (by omega) h2 c2 hb hl
      · by_cases c3 : (a + b) / 2 < m
        · exact rsym_hi (d := (a + b) / 2) hv hr (by omega) (by omega) (by omega) (by omega) c3 (fun w hv => rsym_any hr hl n (by omega) c3 h2 hb w hv) hb hl
        · exact rsym_lo (d := (a + b) / 2) hv hr (by omega) (by omega) (by omega) (by omega) (by omega) (fun hmd w hv => rsym_any hr hl n (by omega) h1 hmd (by omega) w hv) hb hl

end Go.Proofs.YtphfinlfabklmaaGreat

end

section

/-
  slices.SortStableFunc OF ENTRIES THAT RISE ALREADY, however many; Watchers of rosters that rise.
-/
namespace Go.Proofs.YtphfinlfabklmaaGreat
open Go.RowKit

set_option maxHeartbeats 800000 in
set_option maxRecDepth 100000 in
theorem rstable_rise {w : World} {v : Value} {l : List Ent} (hv : Ents w v l) (hr : Rise l) (hl : l.length ≤ 4294967) :
    Calls Tryz.prog 188 #[v, .int .i64 l.length, .func (.func 125) #[] #[]] w fun e w' => e = .returned (.tuple #[]) ∧ Below w.heap.size w w' := by
  have HV := Lib.hid hv
  have HI : Hid (∀ (a b : Nat), a ≤ b → b ≤ l.length → ∀ w, Ents w v l → _) := Lib.hid (fun a b hab hb w hv => rinsert_any (w := w) hv hr hab hb hl)
  have HS : Hid (∀ (a m b : Nat), a < m → m < b → b ≤ l.length → ∀ w, Ents w v l → _) := Lib.hid (fun a m b h1 h2 hb w hv => rsym_any hr hl _ (Nat.le_refl (b - a)) h1 h2 hb w hv)
  obtain ⟨ad, cap, rfl, hm⟩ := hv.open'
  clear hv hr
  go_enter Tryz.func188, Tryz.ntmps188
  go_wp2_with fail
  go_loopw [7, 8] (fun i j wr => ∃ k k2 : Nat, k ≤ l.length ∧ k + 20 ≤ k2 ∧ k2 ≤ k + 20 ∧ i = .int .i64 k ∧ j = .int .i64 k2 ∧ Hid (Below w.heap.size w wr)) (fun i _ _ => l.length + 1 - (intOf i).toNat)
  case atStart => exact ⟨0, 20, by omega, by omega, by omega, rfl, rfl, Below.refl _ _⟩
  case round =>
    obtain ⟨k, k2', hk, hk1, hk2, rfl, rfl, HB⟩ := hrel
    have W1 := Lib.hid (HV.out.later HB.out)
    by_cases hlt : k2' ≤ l.length
    · have t1 : decide ((k2' : Int) ≤ (l.length : Int)) = true := by rw [decide_eq_true_eq]; omega
      have H1 := Lib.hid (HI.out k k2' (by omega) (by omega) _ W1.out)
      obtain ⟨k3, ek3, hk3, hk4⟩ : ∃ k3 : Nat, (k2' : Int) + 20 = (k3 : Int) ∧ k2' + 20 ≤ k3 ∧ k3 ≤ k2' + 20 := ⟨k2' + 20, by omega, by omega, by omega⟩
      go_wp2_with fail
      refine H1.out.mono ?_
      rintro e w1 ⟨rfl, b1⟩
      have B1 := Lib.hid (below2S HB.out b1)
      clear b1
      go_wp2_with fail
      go_roundw
      case rel => exact ⟨k2', k3, by omega, by omega, by omega, rfl, rfl, B1⟩
      case measure => simp [intOf]; omega
    · have t1 : decide ((k2' : Int) ≤ (l.length : Int)) = false := by rw [decide_eq_false_iff_not]; omega
      have H1 := Lib.hid (HI.out k l.length hk (Nat.le_refl _) _ W1.out)
      go_wp2_with fail
      refine H1.out.mono ?_
      rintro e w1 ⟨rfl, b1⟩
      have B1 := Lib.hid (below2S HB.out b1)
      clear b1 HB W1 H1 t1 hk hk1 hk2 hlt
      go_wp2_with fail
      go_loopw [6] (fun i wr => ∃ s : Nat, 20 ≤ s ∧ s ≤ 2 * l.length + 20 ∧ i = .int .i64 s ∧ Hid (Below w.heap.size w wr)) (fun i _ => l.length - (intOf i).toNat)
      case atStart => exact ⟨20, by omega, by omega, rfl, B1⟩
      case round =>
        obtain ⟨s, hs, hs2, rfl, HB2⟩ := hrel
        by_cases hlt2 : s < l.length
        · have t2 : decide ((s : Int) < (l.length : Int)) = true := by rw [decide_eq_true_eq]; omega
          obtain ⟨s2, es2, hs3, hs4⟩ : ∃ s2 : Nat, 2 * (s : Int) = (s2 : Int) ∧ s2 ≤ 2 * s ∧ 2 * s ≤ s2 := ⟨2 * s, by omega, by omega, by omega⟩
          have es3 : (s : Int) * 2 = (s2 : Int) := by omega
          go_wp2_with fail
          go_loopw [7, 8] (fun i j wr => ∃ c c2 : Nat, c ≤ l.length ∧ c + s2 ≤ c2 ∧ c2 ≤ c + s2 ∧ i = .int .i64 c ∧ j = .int .i64 c2 ∧ Hid (Below w.heap.size w wr)) (fun i _ _ => l.length + 1 - (intOf i).toNat)
          case atStart => exact ⟨0, s2, by omega, by omega, by omega, rfl, rfl, HB2⟩
          case round =>
            obtain ⟨c, c2, hc, hc1, hc2, rfl, rfl, HB3⟩ := hrel
            have W3 := Lib.hid (HV.out.later HB3.out)
            obtain ⟨cm, ecm, hm1, hm2⟩ : ∃ cm : Nat, (c : Int) + (s : Int) = (cm : Int) ∧ cm ≤ c + s ∧ c + s ≤ cm := ⟨c + s, by omega, by omega, by omega⟩
            by_cases hlt3 : c2 ≤ l.length
            · have t3 : decide ((c2 : Int) ≤ (l.length : Int)) = true := by rw [decide_eq_true_eq]; omega
              have H3 := Lib.hid (HS.out c cm c2 (by omega) (by omega) hlt3 _ W3.out)
              obtain ⟨c3, ec3, hc3, hc4⟩ : ∃ c3 : Nat, (c2 : Int) + (s2 : Int) = (c3 : Int) ∧ c3 ≤ c2 + s2 ∧ c2 + s2 ≤ c3 := ⟨c2 + s2, by omega, by omega, by omega⟩
              go_wp2_with fail
              refine H3.out.mono ?_
              rintro e w3 ⟨rfl, b3⟩
              have B3 := Lib.hid (below2S HB3.out b3)
              clear b3
              go_wp2_with fail
              go_roundw
              case rel => exact ⟨c2, c3, by omega, by omega, by omega, rfl, by first | rfl | go_num, B3⟩
              case measure => simp [intOf]; omega
            · have t3 : decide ((c2 : Int) ≤ (l.length : Int)) = false := by rw [decide_eq_false_iff_not]; omega
              by_cases hlt4 : cm < l.length
              · have t4 : decide ((cm : Int) < (l.length : Int)) = true := by rw [decide_eq_true_eq]; omega
                have H4 := Lib.hid (HS.out c cm l.length (by omega) hlt4 (Nat.le_refl _) _ W3.out)
                go_wp2_with fail
                refine H4.out.mono ?_
                rintro e w4 ⟨rfl, b4⟩
                have B4 := Lib.hid (below2S HB3.out b4)
                clear b4
                go_wp2_with fail
                go_roundw
                case rel => exact ⟨s2, by omega, by omega, by first | rfl | go_num, B4⟩
                case measure => simp [intOf]; omega
              · have t4 : decide ((cm : Int) < (l.length : Int)) = false := by rw [decide_eq_false_iff_not]; omega
                go_wp2_with fail
                go_roundw
                case rel => exact ⟨s2, by omega, by omega, by first | rfl | go_num, HB3⟩
                case measure => simp [intOf]; omega
        · have t2 : decide ((s : Int) < (l.length : Int)) = false := by rw [decide_eq_false_iff_not]; omega
          go_wp2_with fail
          go_end0
          exact ⟨rfl, HB2.out⟩

set_option maxHeartbeats 800000 in
set_option maxRecDepth 100000 in
theorem rsort_rise {w : World} {v : Value} {l : List Ent} (hv : Ents w v l) (hr : Rise l) (hl : l.length ≤ 4294967) :
    Calls Tryz.prog 124 #[v, .func (.func 125) #[] #[]] w fun e w' => e = .returned (.tuple #[]) ∧ Below w.heap.size w w' := by
  have HI := Lib.hid (rstable_rise hv hr hl)
  obtain ⟨ad, cap, rfl, hm⟩ := hv.open'
  clear hv hr
  go_enter Tryz.func124, Tryz.ntmps124
  go_wp2_with fail
  refine HI.out.mono ?_
  rintro e w1 ⟨rfl, b1⟩
  have B1 := Lib.hid b1
  clear b1
  go_wp2_with fail
  go_end0
  exact ⟨rfl, B1.out⟩

theorem rwatchers_rise {w : World} {v : Value} {l : List Ent} (hv : Ents w v l) (hr : Rise l) (hl : l.length ≤ 4294967) (n : List UInt8) :
    Calls Tryz.prog 70 #[v, .string ⟨n.toArray⟩] w fun e w' => ∃ u, e = .returned u ∧ Texts w' u (roWat l n) ∧ Below w.heap.size w w' :=
  rwatchers_any hv hr hl n (fun hv hr ht => rsort_rise hv hr (Nat.le_trans ht hl))

end Go.Proofs.YtphfinlfabklmaaGreat

end

section

/-
  LAYER 15: who watches: the code's, and the document's.
-/
namespace Go.Proofs.YtphfinlfabklmaaGreat
open Go.RowKit

theorem roWB_sees {l : List Ent} (hr : Rise l) {c : List UInt8} {e : Ent} (he : e ∈ l) (hc : e.c = c) : roWB l c e = roSees l e.o c := by
  unfold roWB roSees
  have h1 := roIt_mem hr he
  rw [roGet_it, roGet_it]
  subst hc
  rw [h1]
  simp

theorem roWB_not {l : List Ent} {c : List UInt8} {e : Ent} (hc : e.c ≠ c) : roWB l c e = false := by
  unfold roWB
  simp [hc]

theorem roWats_end (l : List Ent) (c : List UInt8) : roWats l c l.length = roWat l c := by
  unfold roWats roWat
  rw [List.take_length]

theorem mrg_rise_self {l : List (List UInt8)} (h : l.Pairwise fun a b => idLess a b = true) : mrg (l ++ []) = l := by
  rw [List.append_nil]
  exact (mrg_unique h (fun _ => Iff.rfl)).symm

set_option maxHeartbeats 3200000 in
set_option maxRecDepth 100000 in
/-- P8.3, the document's. -/
theorem rwat8_any {w : World} {v : Value} {l : List Ent} (hv : Ents w v l) (hr : Rise l) (hl : l.length ≤ 100) (c : List UInt8) :
    Calls Tryz.prog 72 #[v, .string ⟨c.toArray⟩] w fun e w' => ∃ u, e = .returned u ∧ Texts w' u (roWat l c) ∧ Below w.heap.size w w' := by
  obtain ⟨i0, hi, hz0, hz1, hz2⟩ := info_parts Tryz.infoTxt
  have HV := Lib.hid hv
  have HR := Lib.hid hr
  obtain ⟨a, cap, rfl, _⟩ := hv.open'
  clear hv hr
  go_enter Tryz.func72, Tryz.ntmps72
  go_wp2_with fail
  go_loopw [5, 6] (fun s i wr => ∃ k : Nat, k ≤ l.length ∧ i = .int .i64 k ∧ Hid (OwnT wr w.heap.size 9 s (roWats l c k)) ∧ Hid (Below w.heap.size w wr)) (fun _ i _ => l.length - (intOf i).toNat)
  case atStart => exact ⟨0, by omega, rfl, World.ownsRow_nil _ _ _ _, Below.refl _ _⟩
  case round =>
    obtain ⟨k, hk, rfl, HO, HN⟩ := hrel
    by_cases hlt : k < l.length
    · obtain ⟨b, off, rfl, h0, h1, _⟩ := HV.out.row HN.out k hlt
      have hmem : l.getD k Ent.zero ∈ l := by rw [getD_at hlt]; exact List.getElem_mem hlt
      obtain ⟨⟨eo, ec, it⟩, hre⟩ : ∃ r, l.getD k Ent.zero = r := ⟨_, rfl⟩
      have hX := roWats_next (c := c) hlt hre
      rw [hre] at h0 h1 hmem
      simp only at h0 h1 hX
      by_cases hc : ec = c
      · have hs : roWB l c ⟨eo, ec, it⟩ = roSees l eo c := roWB_sees HR.out hmem hc
        subst hc
        rw [hs] at hX
        clear hmem hs
        cases hb : roSees l eo ec with
        | false =>
          rw [hb, if_neg (by decide)] at hX
          have hcall := rsees8_any (HV.out.later HN.out) eo ec
          rw [hb] at hcall
          have HC := Lib.hid hcall
          have HX := Lib.hid hX
          clear hcall hb hX hre
          go_wp2_with fail
          refine HC.out.mono ?_
          rintro e w1 ⟨rfl, b1⟩
          have O3 : Hid (OwnT w1 w.heap.size 9 _ (roWats l ec (k + 1))) := Lib.hid (by rw [HX.out]; exact ownT_later HO.out b1)
          have N3 := Lib.hid (below2Z HN.out b1)
          clear b1 h0 h1 HO
          go_wp2_with fail
          go_roundw
          case rel => exact ⟨k + 1, by omega, by go_num, O3, N3⟩
          case measure => simp [intOf]; omega
        | true =>
          rw [hb, if_pos rfl] at hX
          have hcall := rsees8_any (HV.out.later HN.out) eo ec
          rw [hb] at hcall
          have HC := Lib.hid hcall
          have HX := Lib.hid hX
          have hcl : (roWats l ec k).length ≤ 100 := Nat.le_trans (roWats_le l ec k) hl
          have HRE := Lib.hid hre
          clear hcall hb hX hre
          go_wp2_with fail
          refine HC.out.mono ?_
          rintro e w1 ⟨rfl, b1⟩
          have N3 := Lib.hid (below2Z HN.out b1)
          have O2 := Lib.hid ((ownT_later HO.out b1).alloc (.cells #[.string ⟨eo.toArray⟩] 9))
          have N2 := Lib.hid (bl_allocS N3.out (.cells #[.string ⟨eo.toArray⟩] 9))
          have hz3 := N2.out.size
          clear h0 h1 b1 HO
          obtain ⟨b', off', e', h0, h1, _⟩ := HV.out.row N3.out k hlt
          rw [HRE.out] at h0 h1
          simp only at h0 h1
          simp only [Option.some.injEq, Addr.mk.injEq] at e'
          obtain ⟨rfl, rfl, -⟩ := e'
          go_wp2_with (at_builtin; go_must (refine wpList_append_texts rfl _ _ 37 rfl w.heap.size 9 i0 _ 16 Tryz.underlying37 hi hz0 hz1 hz2 rfl _ (roWats l ec k) rfl (by exact O2.out) _ 1 1 [eo] rfl rfl (fun e => nomatch e) ?c1 (by simp only [List.length_cons, List.length_nil]; omega) (by decide) hz3 ?_))
          case c1 => exact new_cellR
          intro v' w' hown' hb'
          rw [← HX.out] at hown'
          have O3 := Lib.hid hown'
          have N4 := Lib.hid (N2.out.trans hb')
          clear hown' hb' O2 h0 h1
          go_wp2_with fail
          go_roundw
          case rel => exact ⟨k + 1, by omega, by go_num, O3, N4⟩
          case measure => simp [intOf]; omega
      · have hs : roWB l c ⟨eo, ec, it⟩ = false := roWB_not hc
        rw [hs, if_neg (by decide)] at hX
        have o3 := HO.out
        rw [← hX] at o3
        have O3 := Lib.hid o3
        clear o3
        have t1 : (ec == c) = false := by rw [beq_eq_false_iff_ne]; exact hc
        clear hX HO hc hs hmem hre
        go_wp2_with fail
        go_roundw
        case rel => exact ⟨k + 1, by omega, by go_num, O3, HN⟩
        case measure => simp [intOf]; omega
    · obtain rfl : k = l.length := by omega
      have ht := HO.out
      rw [roWats_end] at ht
      have HT := Lib.hid ht
      have hlen : (roWat l c).length ≤ 100 := by rw [← roWats_end]; exact Nat.le_trans (roWats_le l c _) hl
      have hri := Lib.hid (roWat_rise HR.out c)
      clear ht HO
      go_wp2_with fail
      refine (irmerge_any HT.out.texts (texts_nil _) hlen (by simp)).mono ?_
      rintro e w1 ⟨u, rfl, ht1, b1⟩
      rw [mrg_rise_self hri.out] at ht1
      have N3 := Lib.hid (below2Z HN.out b1)
      have HT1 := Lib.hid ht1
      clear b1 ht1
      go_wp2_with fail
      go_ret
      exact ⟨_, rfl, HT1.out, N3.out⟩

set_option maxHeartbeats 3200000 in
set_option maxRecDepth 100000 in
/-- P15.2, the document's, of a state that may be. -/
theorem rvwwat_may {w : World} {x y : Value} {t : Sta} (h : StAt w x y t) (hok : ShortE t.e ∧ ShortS t.s) (hl : t.e.length ≤ 100) (c : List UInt8) (hm : stMay t = true) {r : Bool} (hr : decide (seOf t.s c = []) = r) :
    Calls Tryz.prog 22 #[.agg #[x, y], .string ⟨c.toArray⟩] w fun e w' => ∃ u, e = .returned u ∧ Texts w' u (if r = true then [] else roWat t.e c) ∧ Below w.heap.size w w' := by
  have b0 := bl_newZ w (.cells #[x, y] 25)
  have HB := Lib.hid b0
  have H := Lib.hid (h.later b0)
  have F := Lib.hid (heap_newT w (.cells #[x, y] 25))
  have HOK := Lib.hid hok
  have HM := Lib.hid hm
  have HRI := Lib.hid (stMay_parts hm).1.1
  have hsl : t.s.length ≤ 1000 := by have := len_of_may hm; omega
  clear b0 h hok hm
  obtain ⟨c0, c1, -, -⟩ := two_T F.out
  go_enter Tryz.func22, Tryz.ntmps22
  go_wp2_with fail
  refine (rstmay_any H.out HOK.out.1 (by omega) HOK.out.2 HM).mono ?_
  rintro e w1 ⟨rfl, b1⟩
  replace HB := Lib.hid (below2Z HB.out b1)
  replace H := Lib.hid (H.out.later b1)
  replace F := Lib.hid (upT F.out b1)
  clear b1 c0 c1
  obtain ⟨c0, c1, -, -⟩ := two_T F.out
  go_wp2_with fail
  refine (rsof_any H.out.2 hsl c).mono ?_
  rintro e w2 ⟨v2, rfl, o2, b2⟩
  replace HB := Lib.hid (below2Z HB.out b2)
  replace H := Lib.hid (H.out.later b2)
  replace F := Lib.hid (upT F.out b2)
  obtain ⟨a2, c2, rfl, -⟩ := RdS.open' (OwnS.rd sesOK o2)
  clear b2 c0 c1 o2
  obtain ⟨c0, c1, -, -⟩ := two_T F.out
  cases r with
  | true =>
    have t1 : (((seOf t.s c).length : Int) == 0) = true := by rw [decide_eq_true_eq] at hr; rw [hr]; rfl
    clear hr
    go_wp2_with fail
    go_ret
    exact ⟨_, rfl, texts_nil _, HB.out⟩
  | false =>
    have t1 : (((seOf t.s c).length : Int) == 0) = false := by
      rw [decide_eq_false_iff_not, ← List.length_eq_zero_iff] at hr
      rw [beq_eq_false_iff_ne]
      omega
    clear hr
    go_wp2_with fail
    refine (rwat8_any H.out.1 HRI.out hl c).mono ?_
    rintro e w3 ⟨v3, rfl, o3, b3⟩
    have HO := Lib.hid o3
    replace HB := Lib.hid (below2Z HB.out b3)
    clear b3 c0 c1 o3
    go_wp2_with fail
    go_ret
    exact ⟨_, rfl, HO.out, HB.out⟩

set_option maxHeartbeats 1600000 in
set_option maxRecDepth 100000 in
theorem rvwwat_no {w : World} {x y : Value} {t : Sta} (h : StAt w x y t) (hok : ShortE t.e ∧ ShortS t.s) (hl : t.e.length ≤ 100) (c : List UInt8) (hm : stMay t = false) :
    Calls Tryz.prog 22 #[.agg #[x, y], .string ⟨c.toArray⟩] w fun e w' => ∃ u, e = .returned u ∧ Texts w' u [] ∧ Below w.heap.size w w' := by
  have b0 := bl_newZ w (.cells #[x, y] 25)
  have HB := Lib.hid b0
  have H := Lib.hid (h.later b0)
  have F := Lib.hid (heap_newT w (.cells #[x, y] 25))
  have HOK := Lib.hid hok
  have HM := Lib.hid hm
  clear b0 h hok hm
  obtain ⟨c0, c1, -, -⟩ := two_T F.out
  go_enter Tryz.func22, Tryz.ntmps22
  go_wp2_with fail
  refine (rstmay_any H.out HOK.out.1 (by omega) HOK.out.2 HM).mono ?_
  rintro e w1 ⟨rfl, b1⟩
  replace HB := Lib.hid (below2Z HB.out b1)
  clear b1 c0 c1
  go_wp2_with fail
  go_ret
  exact ⟨_, rfl, texts_nil _, HB.out⟩

theorem rvwwat_any {w : World} {x y : Value} {t : Sta} (h : StAt w x y t) (hok : ShortE t.e ∧ ShortS t.s) (hl : t.e.length ≤ 100) (c : List UInt8) :
    Calls Tryz.prog 22 #[.agg #[x, y], .string ⟨c.toArray⟩] w fun e w' => ∃ u, e = .returned u ∧ Texts w' u (vwWat t c) ∧ Below w.heap.size w w' := by
  cases hm : stMay t with
  | false =>
    have e : vwWat t c = [] := by unfold vwWat; rw [if_neg (by rw [hm]; simp)]
    rw [e]
    exact rvwwat_no h hok hl c hm
  | true =>
    have k := rvwwat_may h hok hl c hm rfl
    by_cases hs : seOf t.s c = []
    · have e : vwWat t c = [] := by unfold vwWat; rw [if_neg (fun h => h.2 hs)]
      rw [e]
      rw [if_pos (by simpa using hs)] at k
      exact k
    · have e : vwWat t c = roWat t.e c := by unfold vwWat; rw [if_pos ⟨hm, hs⟩]
      rw [e]
      rw [if_neg (by simpa using hs)] at k
      exact k

set_option maxHeartbeats 3200000 in
set_option maxRecDepth 100000 in
/-- P15.2, the code's, of a state that may be. -/
theorem vwwat_may {w : World} {x y : Value} {t : Sta} (h : StAt w x y t) (hok : ShortE t.e ∧ ShortS t.s) (hl : t.e.length ≤ 4294967) (c : List UInt8) (hm : stMay t = true) {st : List UInt8} {xa xb xc : Int} {k : Bool} (hv : valB (seOf t.s c) = ⟨xa, xb, xc, st⟩) (hk : someB (seOf t.s c) = k) :
    Calls Tryz.prog 21 #[.agg #[x, y], .string ⟨c.toArray⟩] w fun e w' => ∃ u, e = .returned u ∧ Texts w' u (if k = true then roWat t.e c else []) ∧ Below w.heap.size w w' := by
  have b0 := bl_newZ w (.cells #[x, y] 25)
  have HB := Lib.hid b0
  have H := Lib.hid (h.later b0)
  have F := Lib.hid (heap_newT w (.cells #[x, y] 25))
  have HOK := Lib.hid hok
  have HM := Lib.hid hm
  have HV := Lib.hid hv
  have HK := Lib.hid hk
  have HRI := Lib.hid (stMay_parts hm).1.1
  clear b0 h hok hm hv hk
  obtain ⟨c0, c1, -, -⟩ := two_T F.out
  go_enter Tryz.func21, Tryz.ntmps21
  go_wp2_with fail
  refine (stmay_any H.out HOK.out.1 HOK.out.2 HM).mono ?_
  rintro e w1 ⟨rfl, b1⟩
  replace HB := Lib.hid (below2Z HB.out b1)
  replace H := Lib.hid (H.out.later b1)
  replace F := Lib.hid (upT F.out b1)
  clear b1 c0 c1
  obtain ⟨c0, c1, -, -⟩ := two_T F.out
  go_wp2_with fail
  refine (shown_any H.out (len_of_may HM.out) (fit_of_may HM.out) c HV.out HK.out).mono ?_
  rintro e w2 ⟨rfl, b2⟩
  have b3 := below2Z b2 (bl_newZ w2 (.cells #[.int .i64 xa, .int .i64 xb, .int .i64 xc, .string ⟨st.toArray⟩] 30))
  replace HB := Lib.hid (below2Z HB.out b3)
  replace H := Lib.hid (H.out.later b3)
  replace F := Lib.hid (upT F.out b3)
  clear b2 b3 c0 c1
  obtain ⟨c0, c1, -, -⟩ := two_T F.out
  cases k with
  | false =>
    go_wp2_with fail
    go_ret
    exact ⟨_, rfl, texts_nil _, HB.out⟩
  | true =>
    go_wp2_with fail
    refine (rwatchers_rise H.out.1 HRI.out hl c).mono ?_
    rintro e w3 ⟨v3, rfl, o3, b3⟩
    have HO := Lib.hid o3
    replace HB := Lib.hid (below2Z HB.out b3)
    clear b3 c0 c1 o3
    go_wp2_with fail
    go_ret
    exact ⟨_, rfl, HO.out, HB.out⟩

set_option maxHeartbeats 1600000 in
set_option maxRecDepth 100000 in
theorem vwwat_no {w : World} {x y : Value} {t : Sta} (h : StAt w x y t) (hok : ShortE t.e ∧ ShortS t.s) (c : List UInt8) (hm : stMay t = false) :
    Calls Tryz.prog 21 #[.agg #[x, y], .string ⟨c.toArray⟩] w fun e w' => ∃ u, e = .returned u ∧ Texts w' u [] ∧ Below w.heap.size w w' := by
  have b0 := bl_newZ w (.cells #[x, y] 25)
  have HB := Lib.hid b0
  have H := Lib.hid (h.later b0)
  have F := Lib.hid (heap_newT w (.cells #[x, y] 25))
  have HOK := Lib.hid hok
  have HM := Lib.hid hm
  clear b0 h hok hm
  obtain ⟨c0, c1, -, -⟩ := two_T F.out
  go_enter Tryz.func21, Tryz.ntmps21
  go_wp2_with fail
  refine (stmay_any H.out HOK.out.1 HOK.out.2 HM).mono ?_
  rintro e w1 ⟨rfl, b1⟩
  replace HB := Lib.hid (below2Z HB.out b1)
  clear b1 c0 c1
  go_wp2_with fail
  go_ret
  exact ⟨_, rfl, texts_nil _, HB.out⟩

theorem vwwat_any {w : World} {x y : Value} {t : Sta} (h : StAt w x y t) (hok : ShortE t.e ∧ ShortS t.s) (hl : t.e.length ≤ 4294967) (c : List UInt8) :
    Calls Tryz.prog 21 #[.agg #[x, y], .string ⟨c.toArray⟩] w fun e w' => ∃ u, e = .returned u ∧ Texts w' u (vwWat t c) ∧ Below w.heap.size w w' := by
  cases hm : stMay t with
  | false =>
    have e : vwWat t c = [] := by unfold vwWat; rw [if_neg (by rw [hm]; simp)]
    rw [e]
    exact vwwat_no h hok c hm
  | true =>
    obtain ⟨⟨xa, xb, xc, st⟩, hv⟩ : ∃ v, valB (seOf t.s c) = v := ⟨_, rfl⟩
    have k := vwwat_may h hok hl c hm hv rfl
    by_cases hs : seOf t.s c = []
    · have e : vwWat t c = [] := by unfold vwWat; rw [if_neg (fun h => h.2 hs)]
      rw [e]
      rw [if_neg (by unfold someB; simpa using hs)] at k
      exact k
    · have e : vwWat t c = roWat t.e c := by unfold vwWat; rw [if_pos ⟨hm, hs⟩]
      rw [e]
      rw [if_pos (by unfold someB; simpa using hs)] at k
      exact k

end Go.Proofs.YtphfinlfabklmaaGreat

end

section

/-
  A FEW BLOCKS THAT A DRAWN REGION READS, KEPT THROUGH ITS CALLS: over any program.
-/
namespace Go.Proofs.YtphfinlfabklmaaGreat
open Go.RowKit

/-- Each block's cells, from the first one on. -/
def heldB (X : World) (bs : List (Nat × List Value)) : Prop := ∀ p ∈ bs, CellsAt X p.1 0 p.2

theorem heldB_nil (X : World) : heldB X [] := fun p h => by cases h
theorem heldB_cons {X : World} {b : Nat} {vs : List Value} {bs : List (Nat × List Value)} (h : CellsAt X b 0 vs) (ht : heldB X bs) : heldB X ((b, vs) :: bs) := fun p hp => by
  rcases List.mem_cons.1 hp with rfl | hp
  · exact h
  · exact ht p hp
theorem heldB_up {W X : World} {bs : List (Nat × List Value)} (hb : Below W.heap.size W X) (h : heldB W bs) : heldB X bs := fun p hp => (h p hp).later hb
theorem heldB_get {X : World} {bs : List (Nat × List Value)} (h : heldB X bs) {b : Nat} {vs : List Value} {i : Nat} {v : Value} (hm : (b, vs) ∈ bs) (hi : vs[i]? = some v) : X.cell? ⟨b, i, none⟩ = some v := by
  have := h _ hm i v hi
  rwa [Nat.zero_add] at this

/-- A block known whole. -/
theorem cellsAt_block {X : World} {b : Nat} {cs : Array Value} {T : TypeId} (h : X.heap[b]? = some (.cells cs T (0, 0))) : CellsAt X b 0 cs.toList := by
  intro j u hu
  have hj : cs[j]? = some u := by rw [← hu]; simp
  rw [Nat.zero_add]
  unfold World.cell?
  rw [h]
  simpa using hj

end Go.Proofs.YtphfinlfabklmaaGreat

end
