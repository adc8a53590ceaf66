/-
  TEXTS OF THE PROOF, one behind the other: RosSort, RosSymM, RosSort2, RosAbout.
-/
import Derived.Test.YtlckphdmflofgaaB09
import Derived.Test.YtlckphdmflofgaaB10
import Derived.Test.YtlckphdmflofgaaB04
import Derived.Test.YtlckphdmflofgaaB03
import Derived.WalkSpells

section
/-
  slices.SortStableFunc OF ENTRIES THAT RISE ALREADY: nothing turns. Insertion; few entries.
-/
namespace Go.Proofs.Ytlckphdmflofgaa
open Go.RowKit

theorem rise_back {l : List Ent} (hr : Rise l) {i j : Nat} (hij : i < j) (hj : j < l.length) {x y : Ent} (hx : l.getD i Ent.zero = x) (hy : l.getD j Ent.zero = y) : decide (entI y x < 0) = false := by
  have h : entLt x y = true := by
    rw [← hx, ← hy, getD_at (show i < l.length by omega), getD_at hj]
    exact List.pairwise_iff_getElem.1 hr i j (by omega) hj hij
  have h2 : entLt y x = false := by
    cases h3 : entLt y x with
    | false => rfl
    | true =>
      have := entLt_trans h h3
      rw [entLt_irrefl] at this
      cases this
  have := entI_lt y x
  rw [h2] at this
  simpa using this

set_option maxHeartbeats 1600000 in
set_option maxRecDepth 100000 in
theorem rinsert_any {w : World} {v : Value} {l : List Ent} (hv : Ents w v l) (hr : Rise l) {a b : Nat} (hab : a ≤ b) (hb : b ≤ l.length) (hl : l.length ≤ 4294967) :
    Calls Try.prog 80 #[v, .int .i64 a, .int .i64 b, .func (.func 47) #[] #[]] w fun e w' => e = .returned (.tuple #[]) ∧ Below w.heap.size w w' := by
  have HV := Lib.hid hv
  have HR := Lib.hid hr
  obtain ⟨ad, cap, rfl, hm⟩ := hv.open'
  clear hv hr
  have hw0 : IntKind.i64.wrap ((a : Int) + 1) = ((a + 1 : Nat) : Int) := by rw [IntWalk.i64_in _ (by omega)]; rfl
  go_enter Try.func80, Try.ntmps80
  go_wp2_with fail
  go_loopw [8] (fun i wr => ∃ k : Nat, a < k ∧ k ≤ b + 1 ∧ i = .int .i64 k ∧ Hid (Below w.heap.size w wr)) (fun i _ => b + 1 - (intOf i).toNat)
  case atStart => exact ⟨a + 1, by omega, by omega, by first | rfl | go_num, Below.refl _ _⟩
  case round =>
    obtain ⟨k, hak, hkb, rfl, HB⟩ := hrel
    clear hw0
    by_cases hlt : k < b
    · obtain ⟨j, rfl⟩ : ∃ j, k = j + 1 := ⟨k - 1, by omega⟩
      obtain ⟨bk, off, rfl, hc⟩ := HV.out.row HB.out (j + 1) (by omega)
      obtain ⟨b2, off2, e2, hp⟩ := HV.out.row HB.out j (by omega)
      injection e2 with e2
      injection e2 with e3 e4 _
      subst e3 e4
      obtain ⟨⟨eo, ec, ⟨i1, i2, i3, i4, i5⟩⟩, hx⟩ : ∃ r, l.getD (j + 1) Ent.zero = r := ⟨_, rfl⟩
      obtain ⟨⟨po, pc, ⟨j1, j2, j3, j4, j5⟩⟩, hy⟩ : ∃ r, l.getD j Ent.zero = r := ⟨_, rfl⟩
      have hlt2 := rise_back HR.out (show j < j + 1 by omega) (by omega) hy hx
      rw [hx] at hc
      rw [hy] at hp
      have HC := Lib.hid (rcompare_any eo ec po pc i1 i2 i3 i4 i5 j1 j2 j3 j4 j5)
      obtain ⟨n, hn⟩ : ∃ n, entI ⟨eo, ec, ⟨i1, i2, i3, i4, i5⟩⟩ ⟨po, pc, ⟨j1, j2, j3, j4, j5⟩⟩ = n := ⟨_, rfl⟩
      rw [hn] at HC hlt2
      have t1 : decide (((j + 1 : Nat) : Int) < (b : Int)) = true := by simp; omega
      have t2 : decide ((a : Int) < ((j + 1 : Nat) : Int)) = true := by simp; omega
      have em : ((j + 1 : Nat) : Int) - 1 = (j : Int) := by omega
      have e0 : (0 : Int) ≤ ((j + 1 : Nat) : Int) := by omega
      have e1 : ((j + 1 : Nat) : Int) < (l.length : Int) := by omega
      have e2 : (0 : Int) ≤ (j : Int) := by omega
      have e3 : (j : Int) < (l.length : Int) := by omega
      have hw1 : IntKind.i64.wrap (j : Int) = (j : Int) := IntWalk.i64_in _ (by omega)
      have hw2 : IntKind.i64.wrap ((j : Int) + 1 - 1) = (j : Int) := by rw [IntWalk.i64_in _ (by omega)]; omega
      have t1' : decide ((j : Int) + 1 < (b : Int)) = true := by simp; omega
      have t2' : decide ((a : Int) < (j : Int) + 1) = true := by simp; omega
      have em' : (j : Int) + 1 - 1 = (j : Int) := by omega
      have e0' : (0 : Int) ≤ (j : Int) + 1 := by omega
      have e1' : (j : Int) + 1 < (l.length : Int) := by omega
      have en : ((j : Int) + 1).toNat = j + 1 := by omega
      obtain ⟨q0, q1, q2, q3, q4, q5, q6⟩ := cells7_regrown hc
      obtain ⟨p0, p1, p2, p3, p4, p5, p6⟩ := cells7_regrown hp
      try simp only at q0 q1 q2 q3 q4 q5 q6
      try simp only at p0 p1 p2 p3 p4 p5 p6
      clear hc hp hx hy hn
      go_wp2_with fail
      refine wp_loop_rounds 1 ?_
      rw [rounds_succ]
      go_wp2_with fail
      refine wp_region_quiet_below (by kernel_rfl) (by kernel_rfl) ?_
      repeat (go_big_quiet_step (with_reducible exact rgB HC.out _ _ _))
      refine wpQuiet_nil ?_
      intro w5 hw5
      have B5 := Lib.hid (below2S HB.out (regrown_belowP hw5))
      clear hw5 q0 q1 q2 q3 q4 q5 q6 p0 p1 p2 p3 p4 p5 p6
      go_wp2_with fail
      go_roundw
      case rel => exact ⟨j + 1 + 1, by omega, by omega, by go_num, B5⟩
      case measure => simp [intOf]; omega
    · have t1 : decide ((k : Int) < (b : Int)) = false := by simp; omega
      go_wp2_with fail
      go_end0
      exact ⟨rfl, HB.out⟩

end Go.Proofs.Ytlckphdmflofgaa
end

section
/-
  slices.SortStableFunc OF ENTRIES THAT RISE ALREADY, however many: nothing turns.
-/
namespace Go.Proofs.Ytlckphdmflofgaa
open Go.RowKit

set_option maxHeartbeats 3200000 in
set_option maxRecDepth 100000 in
theorem rsym_one {w : World} {v : Value} {l : List Ent} (hv : Ents w v l) (hr : Rise l) {a m b : Nat} (hma1 : a < m) (hma2 : m ≤ a + 1) (hab : m < b) (hb : b ≤ l.length) (hl : l.length ≤ 4294967) :
    Calls Try.prog 81 #[v, .int .i64 a, .int .i64 m, .int .i64 b, .func (.func 47) #[] #[]] w fun e w' => e = .returned (.tuple #[]) ∧ Below w.heap.size w w' := by
  have HV := Lib.hid hv
  have HR := Lib.hid hr
  obtain ⟨ad, cap, rfl, hm⟩ := hv.open'
  clear hv hr
  have e1 : (m : Int) - (a : Int) = 1 := by omega
  go_enter Try.func81, Try.ntmps81
  go_wp2_with fail
  go_loopw [10, 11] (fun i j wr => ∃ k : Nat, m ≤ k ∧ k ≤ b ∧ i = .int .i64 m ∧ j = .int .i64 k ∧ Hid (Below w.heap.size w wr)) (fun _ j _ => (intOf j).toNat)
  case atStart => exact ⟨b, by omega, by omega, by first | rfl | go_num, rfl, Below.refl _ _⟩
  case round =>
    obtain ⟨k, hak, hkb, rfl, rfl, HB⟩ := hrel
    clear e1
    by_cases hlt : m < k
    · obtain ⟨h, eh, hh1, hh2⟩ : ∃ h : Nat, ((m : Int) + (k : Int)) / 2 = (h : Int) ∧ m ≤ h ∧ h < k := ⟨(m + k) / 2, by omega, by omega, by omega⟩
      have g0 : (0 : Int) ≤ (h : Int) := by omega
      have g1 : (h : Int) < (l.length : Int) := by omega
      have g2 : (0 : Int) ≤ (a : Int) := by omega
      have g3 : (a : Int) < (l.length : Int) := by omega
      obtain ⟨bk, off, e1, hc⟩ := HV.out.row HB.out h (by omega)
      subst e1
      obtain ⟨b2, off2, e2, hp⟩ := HV.out.row HB.out a (by omega)
      injection e2 with e2
      injection e2 with e3 e4 _
      subst e3 e4
      obtain ⟨⟨eo, ec, ⟨i1, i2, i3, i4, i5⟩⟩, hx⟩ : ∃ r, l.getD h Ent.zero = r := ⟨_, rfl⟩
      obtain ⟨⟨po, pc, ⟨j1, j2, j3, j4, j5⟩⟩, hy⟩ : ∃ r, l.getD a Ent.zero = r := ⟨_, rfl⟩
      have hlt2 := rise_back HR.out (show a < h by omega) (by omega) hy hx
      rw [hx] at hc
      rw [hy] at hp
      have HC := Lib.hid (rcompare_any eo ec po pc i1 i2 i3 i4 i5 j1 j2 j3 j4 j5)
      obtain ⟨n, hn⟩ : ∃ n, entI ⟨eo, ec, ⟨i1, i2, i3, i4, i5⟩⟩ ⟨po, pc, ⟨j1, j2, j3, j4, j5⟩⟩ = n := ⟨_, rfl⟩
      rw [hn] at HC hlt2
      obtain ⟨q0, q1, q2, q3, q4, q5, q6⟩ := cells7_regrown hc
      obtain ⟨p0, p1, p2, p3, p4, p5, p6⟩ := cells7_regrown hp
      try simp only at q0 q1 q2 q3 q4 q5 q6
      try simp only at p0 p1 p2 p3 p4 p5 p6
      clear hc hp hx hy hn
      go_wp2_with fail
      refine wp_region_quiet_below (by kernel_rfl) (by kernel_rfl) ?_
      repeat (go_big_quiet_step (with_reducible exact rgB HC.out _ _ _))
      refine wpQuiet_nil ?_
      intro w5 hw5
      have B5 := Lib.hid (below2S HB.out (regrown_belowP hw5))
      clear hw5 q0 q1 q2 q3 q4 q5 q6 p0 p1 p2 p3 p4 p5 p6
      go_wp2_with fail
      go_roundw
      case rel => exact ⟨h, by omega, by omega, rfl, rfl, B5⟩
      case measure => simp [intOf]; omega
    · obtain rfl : k = m := by omega
      have e5 : (k : Int) - 1 = (a : Int) := by omega
      go_wp2_with fail
      refine wp_loop_rounds 1 ?_
      rw [rounds_succ]
      go_wp2_with fail
      refine bodyPost_ret (results_none rfl _ _ _) rfl ?_
      exact ⟨rfl, HB.out⟩

set_option maxHeartbeats 3200000 in
set_option maxRecDepth 100000 in
theorem rsym_two {w : World} {v : Value} {l : List Ent} (hv : Ents w v l) (hr : Rise l) {a m b : Nat} (hab : a + 1 < m) (hmb1 : m < b) (hmb2 : b ≤ m + 1) (hb : b ≤ l.length) (hl : l.length ≤ 4294967) :
    Calls Try.prog 81 #[v, .int .i64 a, .int .i64 m, .int .i64 b, .func (.func 47) #[] #[]] w fun e w' => e = .returned (.tuple #[]) ∧ Below w.heap.size w w' := by
  have HV := Lib.hid hv
  have HR := Lib.hid hr
  obtain ⟨ad, cap, rfl, hm⟩ := hv.open'
  clear hv hr
  have e1 : ((m : Int) - (a : Int) == 1) = false := by rw [beq_eq_false_iff_ne]; omega
  have e2 : ((b : Int) - (m : Int)) = 1 := by omega
  go_enter Try.func81, Try.ntmps81
  go_wp2_with fail
  go_loopw [14, 15] (fun i j wr => ∃ k : Nat, a ≤ k ∧ k ≤ m ∧ i = .int .i64 k ∧ j = .int .i64 m ∧ Hid (Below w.heap.size w wr)) (fun i _ _ => m - (intOf i).toNat)
  case atStart => exact ⟨a, by omega, by omega, rfl, rfl, Below.refl _ _⟩
  case round =>
    obtain ⟨k, hak, hkb, rfl, rfl, HB⟩ := hrel
    clear e1 e2
    by_cases hlt : k < m
    · obtain ⟨h, eh, hh1, hh2⟩ : ∃ h : Nat, ((k : Int) + (m : Int)) / 2 = (h : Int) ∧ k ≤ h ∧ h < m := ⟨(k + m) / 2, by omega, by omega, by omega⟩
      have g0 : (0 : Int) ≤ (h : Int) := by omega
      have g1 : (h : Int) < (l.length : Int) := by omega
      have g2 : (0 : Int) ≤ (m : Int) := by omega
      have g3 : (m : Int) < (l.length : Int) := by omega
      obtain ⟨bk, off, e1, hc⟩ := HV.out.row HB.out m (by omega)
      subst e1
      obtain ⟨b2, off2, e2, hp⟩ := HV.out.row HB.out h (by omega)
      injection e2 with e2
      injection e2 with e3 e4 _
      subst e3 e4
      obtain ⟨⟨eo, ec, ⟨i1, i2, i3, i4, i5⟩⟩, hx⟩ : ∃ r, l.getD m Ent.zero = r := ⟨_, rfl⟩
      obtain ⟨⟨po, pc, ⟨j1, j2, j3, j4, j5⟩⟩, hy⟩ : ∃ r, l.getD h Ent.zero = r := ⟨_, rfl⟩
      have hlt2 := rise_back HR.out (show h < m by omega) (by omega) hy hx
      rw [hx] at hc
      rw [hy] at hp
      have HC := Lib.hid (rcompare_any eo ec po pc i1 i2 i3 i4 i5 j1 j2 j3 j4 j5)
      obtain ⟨n, hn⟩ : ∃ n, entI ⟨eo, ec, ⟨i1, i2, i3, i4, i5⟩⟩ ⟨po, pc, ⟨j1, j2, j3, j4, j5⟩⟩ = n := ⟨_, rfl⟩
      rw [hn] at HC hlt2
      obtain ⟨q0, q1, q2, q3, q4, q5, q6⟩ := cells7_regrown hc
      obtain ⟨p0, p1, p2, p3, p4, p5, p6⟩ := cells7_regrown hp
      try simp only at q0 q1 q2 q3 q4 q5 q6
      try simp only at p0 p1 p2 p3 p4 p5 p6
      clear hc hp hx hy hn
      go_wp2_with fail
      refine wp_region_quiet_below (by kernel_rfl) (by kernel_rfl) ?_
      repeat (go_big_quiet_step (with_reducible exact rgB HC.out _ _ _))
      refine wpQuiet_nil ?_
      intro w5 hw5
      have B5 := Lib.hid (below2S HB.out (regrown_belowP hw5))
      clear hw5 q0 q1 q2 q3 q4 q5 q6 p0 p1 p2 p3 p4 p5 p6
      go_wp2_with fail
      go_roundw
      case rel => exact ⟨h + 1, by omega, by omega, by go_num, rfl, B5⟩
      case measure => simp [intOf]; omega
    · obtain rfl : k = m := by omega
      go_wp2_with fail
      refine wp_loop_rounds 1 ?_
      rw [rounds_succ]
      go_wp2_with fail
      refine bodyPost_ret (results_none rfl _ _ _) rfl ?_
      exact ⟨rfl, HB.out⟩

set_option maxHeartbeats 3200000 in
set_option maxRecDepth 100000 in
theorem rsym_hi {w : World} {v : Value} {l : List Ent} (hv : Ents w v l) (hr : Rise l) {a m b d : Nat} (ham : a + 1 < m) (hmb : m + 1 < b) (hd1 : 2 * d ≤ a + b) (hd2 : a + b ≤ 2 * d + 1) (hdm : d < m) (hrec : ∀ w, Ents w v l → Calls Try.prog 81 #[v, .int .i64 d, .int .i64 m, .int .i64 b, .func (.func 47) #[] #[]] w fun e w' => e = .returned (.tuple #[]) ∧ Below w.heap.size w w') (hb : b ≤ l.length) (hl : l.length ≤ 4294967) :
    Calls Try.prog 81 #[v, .int .i64 a, .int .i64 m, .int .i64 b, .func (.func 47) #[] #[]] w fun e w' => e = .returned (.tuple #[]) ∧ Below w.heap.size w w' := by
  have HV := Lib.hid hv
  have HR := Lib.hid hr
  obtain ⟨ad, cap, rfl, hm⟩ := hv.open'
  clear hv hr
  have HREC := Lib.hid hrec
  clear hrec
  have e1 : ((m : Int) - (a : Int) == 1) = false := by rw [beq_eq_false_iff_ne]; omega
  have e2 : ((b : Int) - (m : Int) == 1) = false := by rw [beq_eq_false_iff_ne]; omega
  have ed : ((a : Int) + (b : Int)) / 2 = (d : Int) := by omega
  obtain ⟨p, ep, hp1, hp2⟩ : ∃ p : Nat, (d : Int) + (m : Int) - 1 = (p : Int) ∧ p + 1 ≤ d + m ∧ d + m ≤ p + 1 := ⟨d + m - 1, by omega, by omega, by omega⟩
  have t1 : decide ((d : Int) < (m : Int)) = true := by rw [decide_eq_true_eq]; omega
  obtain ⟨s, es, hs1, hs2⟩ : ∃ s : Nat, (d : Int) + (m : Int) - (b : Int) = (s : Int) ∧ s + b ≤ d + m ∧ d + m ≤ s + b := ⟨d + m - b, by omega, by omega, by omega⟩
  go_enter Try.func81, Try.ntmps81
  go_wp2_with fail
  go_loopw [20, 21] (fun i j wr => ∃ k : Nat, s ≤ k ∧ k ≤ d ∧ i = .int .i64 k ∧ j = .int .i64 d ∧ Hid (Below w.heap.size w wr)) (fun i _ _ => d - (intOf i).toNat)
  case atStart => exact ⟨s, by omega, by omega, rfl, rfl, Below.refl _ _⟩
  case round =>
    obtain ⟨k, hak, hkb, rfl, rfl, HB⟩ := hrel
    by_cases hlt : k < d
    · obtain ⟨h, eh, hh1, hh2⟩ : ∃ h : Nat, ((k : Int) + (d : Int)) / 2 = (h : Int) ∧ k ≤ h ∧ h < d := ⟨(k + d) / 2, by omega, by omega, by omega⟩
      obtain ⟨g, eg, hg1, hg2⟩ : ∃ g : Nat, (p : Int) - (h : Int) = (g : Int) ∧ h < g ∧ g < b := ⟨p - h, by omega, by omega, by omega⟩
      have g0 : (0 : Int) ≤ (h : Int) := by omega
      have g1 : (h : Int) < (l.length : Int) := by omega
      have g2 : (0 : Int) ≤ (g : Int) := by omega
      have g3 : (g : Int) < (l.length : Int) := by omega
      obtain ⟨bk, off, e1, hc⟩ := HV.out.row HB.out g (by omega)
      subst e1
      obtain ⟨b2, off2, e2, hp⟩ := HV.out.row HB.out h (by omega)
      injection e2 with e2
      injection e2 with e3 e4 _
      subst e3 e4
      obtain ⟨⟨eo, ec, ⟨i1, i2, i3, i4, i5⟩⟩, hx⟩ : ∃ r, l.getD g Ent.zero = r := ⟨_, rfl⟩
      obtain ⟨⟨po, pc, ⟨j1, j2, j3, j4, j5⟩⟩, hy⟩ : ∃ r, l.getD h Ent.zero = r := ⟨_, rfl⟩
      have hlt2 := rise_back HR.out (show h < g by omega) (by omega) hy hx
      rw [hx] at hc
      rw [hy] at hp
      have HC := Lib.hid (rcompare_any eo ec po pc i1 i2 i3 i4 i5 j1 j2 j3 j4 j5)
      obtain ⟨n, hn⟩ : ∃ n, entI ⟨eo, ec, ⟨i1, i2, i3, i4, i5⟩⟩ ⟨po, pc, ⟨j1, j2, j3, j4, j5⟩⟩ = n := ⟨_, rfl⟩
      rw [hn] at HC hlt2
      obtain ⟨q0, q1, q2, q3, q4, q5, q6⟩ := cells7_regrown hc
      obtain ⟨p0, p1, p2, p3, p4, p5, p6⟩ := cells7_regrown hp
      try simp only at q0 q1 q2 q3 q4 q5 q6
      try simp only at p0 p1 p2 p3 p4 p5 p6
      clear hc hp hx hy hn
      go_wp2_with fail
      refine wp_region_quiet_below (by kernel_rfl) (by kernel_rfl) ?_
      repeat (go_big_quiet_step (with_reducible exact rgB HC.out _ _ _))
      refine wpQuiet_nil ?_
      intro w5 hw5
      have B5 := Lib.hid (below2S HB.out (regrown_belowP hw5))
      clear hw5 q0 q1 q2 q3 q4 q5 q6 p0 p1 p2 p3 p4 p5 p6
      go_wp2_with fail
      go_roundw
      case rel => exact ⟨h + 1, by omega, by omega, by go_num, rfl, B5⟩
      case measure => simp [intOf]; omega
    · obtain rfl : k = d := by omega
      have ee : (k : Int) + (m : Int) - (k : Int) = (m : Int) := by omega
      have t2 : decide ((a : Int) < (k : Int)) = true := by rw [decide_eq_true_eq]; omega
      have t3 : decide ((m : Int) < (b : Int)) = true := by rw [decide_eq_true_eq]; omega
      have W5 := Lib.hid (HV.out.later HB.out)
      go_wp2_with fail
      refine (HREC.out _ W5.out).mono ?_
      rintro e w6 ⟨rfl, b6⟩
      have B6 := Lib.hid (below2S HB.out b6)
      clear b6
      go_wp2_with fail
      go_end0
      exact ⟨rfl, B6.out⟩

set_option maxHeartbeats 3200000 in
set_option maxRecDepth 100000 in
theorem rsym_lo {w : World} {v : Value} {l : List Ent} (hv : Ents w v l) (hr : Rise l) {a m b d : Nat} (ham : a + 1 < m) (hmb : m + 1 < b) (hd1 : 2 * d ≤ a + b) (hd2 : a + b ≤ 2 * d + 1) (hdm : m ≤ d) (hrec : m < d → ∀ w, Ents w v l → Calls Try.prog 81 #[v, .int .i64 a, .int .i64 m, .int .i64 d, .func (.func 47) #[] #[]] w fun e w' => e = .returned (.tuple #[]) ∧ Below w.heap.size w w') (hb : b ≤ l.length) (hl : l.length ≤ 4294967) :
    Calls Try.prog 81 #[v, .int .i64 a, .int .i64 m, .int .i64 b, .func (.func 47) #[] #[]] w fun e w' => e = .returned (.tuple #[]) ∧ Below w.heap.size w w' := by
  have HV := Lib.hid hv
  have HR := Lib.hid hr
  obtain ⟨ad, cap, rfl, hm⟩ := hv.open'
  clear hv hr
  have HREC := Lib.hid hrec
  clear hrec
  have e1 : ((m : Int) - (a : Int) == 1) = false := by rw [beq_eq_false_iff_ne]; omega
  have e2 : ((b : Int) - (m : Int) == 1) = false := by rw [beq_eq_false_iff_ne]; omega
  have ed : ((a : Int) + (b : Int)) / 2 = (d : Int) := by omega
  obtain ⟨p, ep, hp1, hp2⟩ : ∃ p : Nat, (d : Int) + (m : Int) - 1 = (p : Int) ∧ p + 1 ≤ d + m ∧ d + m ≤ p + 1 := ⟨d + m - 1, by omega, by omega, by omega⟩
  have t1 : ((d : Int) < (m : Int)) = False := by rw [eq_iff_iff, iff_false]; omega
  go_enter Try.func81, Try.ntmps81
  go_wp2_with fail
  go_loopw [20, 21] (fun i j wr => ∃ k : Nat, a ≤ k ∧ k ≤ m ∧ i = .int .i64 k ∧ j = .int .i64 m ∧ Hid (Below w.heap.size w wr)) (fun i _ _ => m - (intOf i).toNat)
  case atStart => exact ⟨a, by omega, by omega, rfl, rfl, Below.refl _ _⟩
  case round =>
    obtain ⟨k, hak, hkb, rfl, rfl, HB⟩ := hrel
    by_cases hlt : k < m
    · obtain ⟨h, eh, hh1, hh2⟩ : ∃ h : Nat, ((k : Int) + (m : Int)) / 2 = (h : Int) ∧ k ≤ h ∧ h < m := ⟨(k + m) / 2, by omega, by omega, by omega⟩
      obtain ⟨g, eg, hg1, hg2⟩ : ∃ g : Nat, (p : Int) - (h : Int) = (g : Int) ∧ h < g ∧ g < b := ⟨p - h, by omega, by omega, by omega⟩
      have g0 : (0 : Int) ≤ (h : Int) := by omega
      have g1 : (h : Int) < (l.length : Int) := by omega
      have g2 : (0 : Int) ≤ (g : Int) := by omega
      have g3 : (g : Int) < (l.length : Int) := by omega
      obtain ⟨bk, off, e1, hc⟩ := HV.out.row HB.out g (by omega)
      subst e1
      obtain ⟨b2, off2, e2, hp⟩ := HV.out.row HB.out h (by omega)
      injection e2 with e2
      injection e2 with e3 e4 _
      subst e3 e4
      obtain ⟨⟨eo, ec, ⟨i1, i2, i3, i4, i5⟩⟩, hx⟩ : ∃ r, l.getD g Ent.zero = r := ⟨_, rfl⟩
      obtain ⟨⟨po, pc, ⟨j1, j2, j3, j4, j5⟩⟩, hy⟩ : ∃ r, l.getD h Ent.zero = r := ⟨_, rfl⟩
      have hlt2 := rise_back HR.out (show h < g by omega) (by omega) hy hx
      rw [hx] at hc
      rw [hy] at hp
      have HC := Lib.hid (rcompare_any eo ec po pc i1 i2 i3 i4 i5 j1 j2 j3 j4 j5)
      obtain ⟨n, hn⟩ : ∃ n, entI ⟨eo, ec, ⟨i1, i2, i3, i4, i5⟩⟩ ⟨po, pc, ⟨j1, j2, j3, j4, j5⟩⟩ = n := ⟨_, rfl⟩
      rw [hn] at HC hlt2
      obtain ⟨q0, q1, q2, q3, q4, q5, q6⟩ := cells7_regrown hc
      obtain ⟨p0, p1, p2, p3, p4, p5, p6⟩ := cells7_regrown hp
      try simp only at q0 q1 q2 q3 q4 q5 q6
      try simp only at p0 p1 p2 p3 p4 p5 p6
      clear hc hp hx hy hn
      go_wp2_with fail
      refine wp_region_quiet_below (by kernel_rfl) (by kernel_rfl) ?_
      repeat (go_big_quiet_step (with_reducible exact rgB HC.out _ _ _))
      refine wpQuiet_nil ?_
      intro w5 hw5
      have B5 := Lib.hid (below2S HB.out (regrown_belowP hw5))
      clear hw5 q0 q1 q2 q3 q4 q5 q6 p0 p1 p2 p3 p4 p5 p6
      go_wp2_with fail
      go_roundw
      case rel => exact ⟨h + 1, by omega, by omega, by go_num, rfl, B5⟩
      case measure => simp [intOf]; omega
    · obtain rfl : k = m := by omega
      have ee : (d : Int) + (k : Int) - (k : Int) = (d : Int) := by omega
      have t2 : decide ((a : Int) < (k : Int)) = true := by rw [decide_eq_true_eq]; omega
      have W5 := Lib.hid (HV.out.later HB.out)
      by_cases hmd : k < d
      · have t3 : decide ((k : Int) < (d : Int)) = true := by rw [decide_eq_true_eq]; omega
        have HR2 := Lib.hid (HREC.out hmd)
        go_wp2_with fail
        refine (HR2.out _ W5.out).mono ?_
        rintro e w6 ⟨rfl, b6⟩
        have B6 := Lib.hid (below2S HB.out b6)
        clear b6
        go_wp2_with fail
        go_end0
        exact ⟨rfl, B6.out⟩
      · have t3 : decide ((k : Int) < (d : Int)) = false := by rw [decide_eq_false_iff_not]; omega
        go_wp2_with fail
        go_end0
        exact ⟨rfl, HB.out⟩

theorem rsym_any {v : Value} {l : List Ent} (hr : Rise l) (hl : l.length ≤ 4294967) : ∀ (n : Nat) {a m b : Nat}, b - a ≤ n → a < m → m < b → b ≤ l.length → ∀ w, Ents w v l →
    Calls Try.prog 81 #[v, .int .i64 a, .int .i64 m, .int .i64 b, .func (.func 47) #[] #[]] w fun e w' => e = .returned (.tuple #[]) ∧ Below w.heap.size w w'
  | 0, a, m, b, h, h1, h2, _, _, _ => by omega
  | n + 1, a, m, b, h, h1, h2, hb, w, hv => by
    by_cases c1 : m ≤ a + 1
    · exact rsym_one hv hr h1 c1 h2 hb hl
    · by_cases c2 : b ≤ m + 1
      · exact rsym_two hv hr (by omega) h2 c2 hb hl
      · by_cases c3 : (a + b) / 2 < m
        · exact rsym_hi (d := (a + b) / 2) hv hr (by omega) (by omega) (by omega) (by omega) c3 (fun w hv => rsym_any hr hl n (by omega) c3 h2 hb w hv) hb hl
        · exact rsym_lo (d := (a + b) / 2) hv hr (by omega) (by omega) (by omega) (by omega) (by omega) (fun hmd w hv => rsym_any hr hl n (by omega) h1 hmd (by omega) w hv) hb hl

end Go.Proofs.Ytlckphdmflofgaa
end

section
/-
  slices.SortStableFunc OF FEW ENTRIES THAT RISE ALREADY.
-/
namespace Go.Proofs.Ytlckphdmflofgaa
open Go.RowKit

end Go.Proofs.Ytlckphdmflofgaa
end

section
/-
  LAYER 8, THE CODE: about; Watchers, where sorting turns nothing.
-/
namespace Go.Proofs.Ytlckphdmflofgaa
open Go.RowKit

set_option maxHeartbeats 1600000 in
set_option maxRecDepth 100000 in
theorem rabout_any {w : World} {v : Value} {l : List Ent} (hv : Ents w v l) (hl : l.length ≤ 4294967) (n : List UInt8) :
    Calls Try.prog 45 #[v, .string ⟨n.toArray⟩] w fun e w' => ∃ u, e = .returned u ∧ OwnS entVals 7 70 w' w.heap.size u (roNear l n) ∧ Below w.heap.size w w' := by
  have HV := Lib.hid hv
  obtain ⟨a, cap, rfl, _⟩ := hv.open'
  clear hv
  go_enter Try.func45, Try.ntmps45
  go_wp2_with fail
  go_loopw [5, 10] (fun s i wr => ∃ k : Nat, k ≤ l.length ∧ i = .int .i64 k ∧ Hid (OwnS entVals 7 70 wr w.heap.size s (roNear (l.take k) n)) ∧ Hid (Below w.heap.size w wr)) (fun _ i _ => l.length - (intOf i).toNat)
  case atStart => exact ⟨0, by omega, rfl, ownS_nil _ _, Below.refl _ _⟩
  case round =>
    obtain ⟨k, hk, rfl, HO, HN⟩ := hrel
    by_cases hlt : k < l.length
    · obtain ⟨b, off, rfl, h0, h1, h2, h3, h4, h5, h6⟩ := HV.out.row HN.out k hlt
      obtain ⟨⟨xo, xc, ⟨x1, x2, x3, x4, x5⟩⟩, hr⟩ : ∃ r, l.getD k Ent.zero = r := ⟨_, rfl⟩
      have hX := roNear_next (c := n) hlt hr
      rw [hr] at h0 h1 h2 h3 h4 h5 h6
      simp only at h0 h1 h2 h3 h4 h5 h6
      clear hr
      have bn := bl_newZ wr (.cells #[.string ⟨xo.toArray⟩, .string ⟨xc.toArray⟩, .bool x1, .bool x2, .bool x3, .bool x4, .bool x5] 70)
      have HO1 := Lib.hid (HO.out.later bn)
      have HN1 := Lib.hid (below2S HN.out bn)
      have CX := Lib.hid (cells7_made wr ⟨xo, xc, ⟨x1, x2, x3, x4, x5⟩⟩ 70)
      clear bn
      by_cases ho : xo = n
      · have hb : roNearB n ⟨xo, xc, ⟨x1, x2, x3, x4, x5⟩⟩ = true := by unfold roNearB; simp [ho]
        rw [if_pos hb] at hX
        have HX := Lib.hid hX
        have t1 : (xo == n) = true := by simpa using ho
        have b2 := bl_newZ (wr.alloc (.cells #[.string ⟨xo.toArray⟩, .string ⟨xc.toArray⟩, .bool x1, .bool x2, .bool x3, .bool x4, .bool x5] 70)) (.cells #[.string ⟨xo.toArray⟩, .string ⟨xc.toArray⟩, .bool x1, .bool x2, .bool x3, .bool x4, .bool x5] 70)
        have O2 := Lib.hid (HO1.out.later b2)
        have N2 := Lib.hid (below2S HN1.out b2)
        have HS := Lib.hid (srcS_new (vals := entVals) (w := wr.alloc (.cells #[.string ⟨xo.toArray⟩, .string ⟨xc.toArray⟩, .bool x1, .bool x2, .bool x3, .bool x4, .bool x5] 70)) (r := ⟨xo, xc, ⟨x1, x2, x3, x4, x5⟩⟩) (cs := #[.string ⟨xo.toArray⟩, .string ⟨xc.toArray⟩, .bool x1, .bool x2, .bool x3, .bool x4, .bool x5]) rfl (e := 70) (B := wr.heap.size + 1) (by simp))
        have hcl : (roNear (l.take k) n).length + 1 < 4294967296 := by
          have h1 : (roNear (l.take k) n).length ≤ (l.take k).length := List.length_filter_le _ _
          rw [List.length_take] at h1
          omega
        have HCL := Lib.hid hcl
        have HBS := Lib.hid N2.out.size
        clear b2 hX hb hcl ho
        go_wp2_with (at_builtin; go_must (refine wpList_append_S entOK rfl _ _ rfl w.heap.size _ (roNear (l.take k) n) rfl (by exact O2.out) _ 1 1 [⟨xo, xc, ⟨x1, x2, x3, x4, x5⟩⟩] rfl rfl (fun e => nomatch e) ?c1 (by exact HCL.out) (by exact HBS.out) ?_))
        case c1 => exact HS.out _ rfl
        intro v' w' hown' hb'
        rw [← HX.out] at hown'
        have O3 := Lib.hid hown'
        have N3 := Lib.hid (N2.out.trans hb')
        clear hown' hb' O2 h0 h1 h2 h3 h4 h5 h6
        go_wp2_with fail
        go_roundw
        case rel => exact ⟨k + 1, by omega, by go_num, O3, N3⟩
        case measure => simp [intOf]; omega
      · have t1 : (xo == n) = false := by rw [beq_eq_false_iff_ne]; exact ho
        by_cases hc : xc = n
        · have hb : roNearB n ⟨xo, xc, ⟨x1, x2, x3, x4, x5⟩⟩ = true := by unfold roNearB; simp [hc]
          rw [if_pos hb] at hX
          have HX := Lib.hid hX
          have t2 : (xc == n) = true := by simpa using hc
          have b2 := bl_newZ (wr.alloc (.cells #[.string ⟨xo.toArray⟩, .string ⟨xc.toArray⟩, .bool x1, .bool x2, .bool x3, .bool x4, .bool x5] 70)) (.cells #[.string ⟨xo.toArray⟩, .string ⟨xc.toArray⟩, .bool x1, .bool x2, .bool x3, .bool x4, .bool x5] 70)
          have O2 := Lib.hid (HO1.out.later b2)
          have N2 := Lib.hid (below2S HN1.out b2)
          have HS := Lib.hid (srcS_new (vals := entVals) (w := wr.alloc (.cells #[.string ⟨xo.toArray⟩, .string ⟨xc.toArray⟩, .bool x1, .bool x2, .bool x3, .bool x4, .bool x5] 70)) (r := ⟨xo, xc, ⟨x1, x2, x3, x4, x5⟩⟩) (cs := #[.string ⟨xo.toArray⟩, .string ⟨xc.toArray⟩, .bool x1, .bool x2, .bool x3, .bool x4, .bool x5]) rfl (e := 70) (B := wr.heap.size + 1) (by simp))
          have hcl : (roNear (l.take k) n).length + 1 < 4294967296 := by
            have h1 : (roNear (l.take k) n).length ≤ (l.take k).length := List.length_filter_le _ _
            rw [List.length_take] at h1
            omega
          have HCL := Lib.hid hcl
          have HBS := Lib.hid N2.out.size
          clear b2 hX hb hcl ho hc
          go_wp2_with (at_builtin; go_must (refine wpList_append_S entOK rfl _ _ rfl w.heap.size _ (roNear (l.take k) n) rfl (by exact O2.out) _ 1 1 [⟨xo, xc, ⟨x1, x2, x3, x4, x5⟩⟩] rfl rfl (fun e => nomatch e) ?c1 (by exact HCL.out) (by exact HBS.out) ?_))
          case c1 => exact HS.out _ rfl
          intro v' w' hown' hb'
          rw [← HX.out] at hown'
          have O3 := Lib.hid hown'
          have N3 := Lib.hid (N2.out.trans hb')
          clear hown' hb' O2 h0 h1 h2 h3 h4 h5 h6
          go_wp2_with fail
          go_roundw
          case rel => exact ⟨k + 1, by omega, by go_num, O3, N3⟩
          case measure => simp [intOf]; omega
        · have hb : roNearB n ⟨xo, xc, ⟨x1, x2, x3, x4, x5⟩⟩ = false := by unfold roNearB; simp [ho, hc]
          rw [if_neg (by rw [hb]; decide)] at hX
          have t2 : (xc == n) = false := by rw [beq_eq_false_iff_ne]; exact hc
          have O3 := HO1
          rw [← hX] at O3
          clear hX hb ho hc HO1
          go_wp2_with fail
          go_roundw
          case rel => exact ⟨k + 1, by omega, by go_num, O3, HN1⟩
          case measure => simp [intOf]; omega
    · obtain rfl : k = l.length := by omega
      have ht := HO.out
      rw [List.take_length] at ht
      have HT := Lib.hid ht
      clear ht
      go_wp2_with fail
      go_ret
      exact ⟨_, rfl, HT.out, HN.out⟩

end Go.Proofs.Ytlckphdmflofgaa
end
