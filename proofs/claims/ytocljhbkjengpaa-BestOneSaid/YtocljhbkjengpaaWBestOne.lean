/-
  THE WALK OF BestOne.
-/
import Derived.Test.YtocljhbkjengpaaBesBoth
namespace Go.Proofs.Ytocljhbkjengpaa
open Go.RowKit

def anyTo (f : Nat → Bool) (k : Nat) : Bool := (List.range k).any f

theorem anyTo_succ (f : Nat → Bool) (k : Nat) : anyTo f (k + 1) = (anyTo f k || f k) := by
  unfold anyTo
  rw [List.range_succ, List.any_append]
  simp

theorem anyTo_yes {f : Nat → Bool} {n j : Nat} (hj : j < n) (h : f j = true) : anyTo f n = true := by
  unfold anyTo
  rw [List.any_eq_true]
  exact ⟨j, List.mem_range.2 hj, h⟩

set_option maxHeartbeats 6400000 in
set_option maxRecDepth 100000 in
theorem bone_few {w : World} {v : Value} {l : List Ses} (hv : Sess w v l) (hf : ∀ s ∈ l, SesFit s) (hw : fewSes l = true) (h0 : 0 < l.length) :
    Calls Try.prog 5 #[v] w fun e w' => e = .returned (.bool true) ∧ Below w.heap.size w w' := by
  have HFw := Lib.hid (few09_eq hv hw)
  have HV := Lib.hid hv
  obtain ⟨⟨n, i, ⟨a, b, c, st⟩⟩, hs⟩ : ∃ s, besOf l = s := ⟨_, rfl⟩
  obtain ⟨⟨m, b', c', st'⟩, ht⟩ : ∃ s, besV l = s := ⟨_, rfl⟩
  obtain ⟨rfl, rfl, rfl⟩ : b' = b ∧ c' = c ∧ st' = st := by
    have := ht
    unfold besV at this
    rw [hs, Val.mk.injEq] at this
    exact ⟨this.2.1.symm, this.2.2.1.symm, this.2.2.2.symm⟩
  have HBe := Lib.hid (best_yes hv hf h0 hs)
  have HVa : Hid (∀ w', Below w.heap.size w w' → Calls Try.prog 33 #[v] w' fun e w'' => e = .returned (.tuple #[.agg #[.int .i64 m, .int .i64 b', .int .i64 c', .string ⟨st'.toArray⟩], .bool true]) ∧ Below w'.heap.size w' w'') := Lib.hid (fun w' hb => bvalue_yes (hv.later hb) hf h0 ht)
  have HNo : Hid (∀ k, k < l.length → sbet (sat l k) ⟨n, i, ⟨a, b', c', st'⟩⟩ = false) := by
    obtain ⟨j, h1, h2, h3, -⟩ := besOf_spec h0
    rw [hs] at h2
    exact Lib.hid (fun k hk => by rw [h2]; exact h3 k hk)
  have HTh : Hid (anyTo (fun j => sesSame (sat l j) ⟨n, i, ⟨a, b', c', st'⟩⟩) l.length = true) := by
    obtain ⟨j, h1, h2, -, -⟩ := besOf_spec h0
    rw [hs] at h2
    exact Lib.hid (anyTo_yes h1 (by rw [← h2]; exact sesSame_self _))
  have HLe : Hid (∀ k, k < l.length → (sat l k).v.sh ≤ m) := by
    have := (besV_sh h0).1
    rw [ht] at this
    exact Lib.hid this
  have HSh : Hid (anyTo (fun j => (sat l j).v.sh == m) l.length = true) := by
    obtain ⟨j, h1, h2⟩ := (besV_sh h0).2
    rw [ht] at h2
    exact Lib.hid (anyTo_yes h1 (by simpa using h2.symm))
  have t0 : ((l.length : Int) == 0) = false := by rw [beq_eq_false_iff_ne]; omega
  obtain ⟨ao, cap, rfl, hm⟩ := hv.open'
  clear hv hf hs ht hw
  go_enter Try.func5, Try.ntmps5
  go_wp2_with fail
  refine HFw.out.mono ?_
  rintro e w2 ⟨rfl, rfl⟩
  clear HFw
  go_wp2_with fail
  refine HBe.out.mono ?_
  rintro e w3 ⟨rfl, b1⟩
  have b2 := below2Z b1 (bl_newZ w3 (.cells #[.string ⟨n.toArray⟩, .int .i64 i, .int .i64 a, .int .i64 b', .int .i64 c', .string ⟨st'.toArray⟩] 54))
  have HS := Lib.hid (cellsAt_made (w := w3) (cs := #[.string ⟨n.toArray⟩, .int .i64 i, .int .i64 a, .int .i64 b', .int .i64 c', .string ⟨st'.toArray⟩]) (vs := sesVals ⟨n, i, ⟨a, b', c', st'⟩⟩) rfl 54 rfl)
  have BB := Lib.hid b2
  clear b1 b2 HBe
  go_wp2_with fail
  refine (HVa.out _ BB.out).mono ?_
  rintro e w4 ⟨rfl, b1⟩
  have b2 := below2Z b1 (bl_newZ w4 (.cells #[.int .i64 m, .int .i64 b', .int .i64 c', .string ⟨st'.toArray⟩] 50))
  replace HS := Lib.hid (HS.out.later b2)
  replace BB := Lib.hid (below2Z BB.out b2)
  have HT := Lib.hid (cellsAt_made (w := w4) (cs := #[.int .i64 m, .int .i64 b', .int .i64 c', .string ⟨st'.toArray⟩]) (vs := [.int .i64 m, .int .i64 b', .int .i64 c', .string ⟨st'.toArray⟩]) rfl 50 rfl)
  clear b1 b2 HVa
  go_wp2_with fail
  generalize w4.alloc (.cells #[.int .i64 m, .int .i64 b', .int .i64 c', .string ⟨st'.toArray⟩] 50) = W0 at HS HT BB ⊢
  replace HV := Lib.hid (HV.out.later BB.out)
  generalize w3.heap.size = P3 at HS ⊢
  generalize w4.heap.size = P4 at HT ⊢
  go_loopw [7, 8, 9] (fun th sh t wr => ∃ k : Nat, k ≤ l.length ∧ th = .bool (anyTo (fun j => sesSame (sat l j) ⟨n, i, ⟨a, b', c', st'⟩⟩) k) ∧ sh = .bool (anyTo (fun j => (sat l j).v.sh == m) k) ∧ t = .int .i64 k ∧ Hid (Below W0.heap.size W0 wr)) (fun _ _ t _ => l.length - (intOf t).toNat)
  case atStart => exact ⟨0, by omega, rfl, rfl, rfl, Below.refl _ _⟩
  case round =>
    obtain ⟨k, hk, rfl, rfl, rfl, HN⟩ := hrel
    by_cases hlt : k < l.length
    · obtain ⟨bd, od, rfl, hc⟩ := HV.out.row HN.out k hlt
      rw [show l.getD k Ses.zero = sat l k from rfl] at hc
      have hth := anyTo_succ (fun j => sesSame (sat l j) ⟨n, i, ⟨a, b', c', st'⟩⟩) k
      have hsh := anyTo_succ (fun j => (sat l j).v.sh == m) k
      have hno := HNo.out k hlt
      have hle := HLe.out k hlt
      try simp only at hth hsh
      obtain ⟨⟨xn, xi, ⟨xa, xb, xc, xs⟩⟩, hx⟩ : ∃ s, sat l k = s := ⟨_, rfl⟩
      rw [hx] at hc hth hsh hno hle
      try simp only at hsh hle
      obtain ⟨qt, hqt⟩ : ∃ q, anyTo (fun j => sesSame (sat l j) ⟨n, i, ⟨a, b', c', st'⟩⟩) k = q := ⟨_, rfl⟩
      obtain ⟨qs, hqs⟩ : ∃ q, anyTo (fun j => (sat l j).v.sh == m) k = q := ⟨_, rfl⟩
      rw [hqt] at hth ⊢
      rw [hqs] at hsh ⊢
      have HTH := Lib.hid hth
      have HSH := Lib.hid hsh
      have HC := Lib.hid hc
      have HBt : Hid (∀ w, Calls Try.prog 22 #[.agg #[.int .i64 xi, .int .i64 xb, .int .i64 xc, .int .i64 0], .agg #[.int .i64 i, .int .i64 b', .int .i64 c', .int .i64 0]] w fun e w' => e = .returned (.bool false) ∧ Below w.heap.size w w') := by
        have := better_any xi xb xc 0 i b' c' 0
        rw [show slBet ⟨xi, xb, xc, 0⟩ ⟨i, b', c', 0⟩ = false from hno] at this
        exact Lib.hid this
      have G1 := Lib.hid (bslot_any xn xs xi xa xb xc)
      have G2 := Lib.hid (bslot_any n st' i a b' c')
      have e1 : ∀ w, (binOp .eql 54 (.agg #[.string ⟨xn.toArray⟩, .int .i64 xi, .int .i64 xa, .int .i64 xb, .int .i64 xc, .string ⟨xs.toArray⟩]) (.agg #[.string ⟨n.toArray⟩, .int .i64 i, .int .i64 a, .int .i64 b', .int .i64 c', .string ⟨st'.toArray⟩])).run Try.prog w = .ok (.bool (sesSame ⟨xn, xi, ⟨xa, xb, xc, xs⟩⟩ ⟨n, i, ⟨a, b', c', st'⟩⟩)) w := fun w => ses_eql _ _ _ _ _ _ _ _ _ _ _ _ w
      obtain ⟨p0, p1, p2, p3, p4, p5⟩ := cells6_regrown hc
      have HS2 := Lib.hid (HS.out.later HN.out)
      have HT2 := Lib.hid (HT.out.later HN.out)
      obtain ⟨q0, q1, q2, q3, q4, q5⟩ := cells6_regrown HS2.out
      obtain ⟨r0, r1, r2, r3⟩ := cells4v HT2.out
      replace r0 := cell_regrown r0
      replace r1 := cell_regrown r1
      replace r2 := cell_regrown r2
      replace r3 := cell_regrown r3
      simp only [Nat.zero_add] at q0 q1 q2 q3 q4 q5 r0 r1 r2 r3
      try simp only at p0 p1 p2 p3 p4 p5
      have t3 : (0 : Int) ≤ (k : Int) := by omega
      have t4 : (k : Int) < (l.length : Int) := by omega
      have t5 : decide (m < xa) = false := by simp; omega
      clear hx hc hth hsh hno hle hqt hqs
      go_wp2_with fail
      refine wp_region_quiet_below (by kernel_rfl) (by kernel_rfl) ?_
      repeat (go_big_quiet_step (first | with_reducible exact rgB G1.out _ _ _ | with_reducible exact rgB G2.out _ _ _ | with_reducible exact rgB HBt.out _ _ _))
      refine wpQuiet_nil ?_
      intro w5 hw
      have b5 := regrownZ hw
      have HN5 := Lib.hid (below2Z HN.out b5)
      replace HC := Lib.hid (HC.out.later b5)
      replace HS2 := Lib.hid (HS2.out.later b5)
      replace HT2 := Lib.hid (HT2.out.later b5)
      clear hw b5 p0 p1 p2 p3 p4 p5 q0 q1 q2 q3 q4 q5 r0 r1 r2 r3 G1 G2 HBt HN
      cases qt <;> cases qs
      all_goals
        obtain ⟨p0, p1, p2, p3, p4, p5⟩ := cells6_regrown HC.out
        obtain ⟨q0, q1, q2, q3, q4, q5⟩ := cells6_regrown HS2.out
        obtain ⟨r0, r1, r2, r3⟩ := cells4v HT2.out
        replace r0 := cell_regrown r0
        replace r1 := cell_regrown r1
        replace r2 := cell_regrown r2
        replace r3 := cell_regrown r3
        simp only [Nat.zero_add] at q0 q1 q2 q3 q4 q5 r0 r1 r2 r3
        try simp only at p0 p1 p2 p3 p4 p5
        go_wp2_with fail
        refine wp_region_quiet_below (by kernel_rfl) (by kernel_rfl) ?_
        repeat (go_big_quiet_step (fail))
        refine wpQuiet_nil ?_
        intro w6 hw
        have b5 := regrownZ hw
        have HN6 := Lib.hid (below2Z HN5.out b5)
        replace HC := Lib.hid (HC.out.later b5)
        replace HS2 := Lib.hid (HS2.out.later b5)
        replace HT2 := Lib.hid (HT2.out.later b5)
        clear hw b5 HN5 p0 p1 p2 p3 p4 p5 q0 q1 q2 q3 q4 q5 r0 r1 r2 r3
        obtain ⟨p0, p1, p2, p3, p4, p5⟩ := cells6_regrown HC.out
        obtain ⟨q0, q1, q2, q3, q4, q5⟩ := cells6_regrown HS2.out
        obtain ⟨r0, r1, r2, r3⟩ := cells4v HT2.out
        replace r0 := cell_regrown r0
        replace r1 := cell_regrown r1
        replace r2 := cell_regrown r2
        replace r3 := cell_regrown r3
        simp only [Nat.zero_add] at q0 q1 q2 q3 q4 q5 r0 r1 r2 r3
        try simp only at p0 p1 p2 p3 p4 p5
        go_wp2_with fail
        refine wp_region_quiet_below (by kernel_rfl) (by kernel_rfl) ?_
        repeat (go_big_quiet_step (fail))
        refine wpQuiet_nil ?_
        intro w7 hw
        have b5 := regrownZ hw
        have HN7 := Lib.hid (below2Z HN6.out b5)
        replace HC := Lib.hid (HC.out.later b5)
        replace HS2 := Lib.hid (HS2.out.later b5)
        replace HT2 := Lib.hid (HT2.out.later b5)
        clear hw b5 HN6 p0 p1 p2 p3 p4 p5 q0 q1 q2 q3 q4 q5 r0 r1 r2 r3
        go_wp2_with fail
        go_roundw
        case rel => exact ⟨k + 1, by omega, by rw [HTH.out]; simp, by rw [HSH.out]; simp, by go_num, HN7⟩
        case measure => simp [intOf]; omega
    · obtain rfl : k = l.length := by omega
      rw [HTh.out, HSh.out]
      have HS2 := Lib.hid (HS.out.later HN.out)
      have HT2 := Lib.hid (HT.out.later HN.out)
      replace BB := Lib.hid (below2Z BB.out HN.out)
      obtain ⟨q0, q1, q2, q3, q4, q5⟩ := cells6 HS2.out
      obtain ⟨r0, r1, r2, r3⟩ := cells4v HT2.out
      simp only [Nat.zero_add] at q0 q1 q2 q3 q4 q5 r0 r1 r2 r3
      try simp only at q0 q1 q2 q3 q4 q5
      clear HN
      go_wp2_with fail
      refine (live11 _).mono ?_
      rintro e w5 ⟨rfl, b1⟩
      replace BB := Lib.hid (below2Z BB.out b1)
      clear b1 q0 q1 q2 q3 q4 q5 r0 r1 r2 r3
      go_wp2_with fail
      go_ret
      exact ⟨rfl, BB.out⟩

set_option maxHeartbeats 800000 in
set_option maxRecDepth 100000 in
theorem bone_many {w : World} {v : Value} {l : List Ses} (hv : Sess w v l) (hw : fewSes l = false) :
    Calls Try.prog 5 #[v] w fun e w' => e = .returned (.bool true) ∧ Below w.heap.size w w' := by
  have HFw := Lib.hid (few09_eq hv hw)
  obtain ⟨ao, cap, rfl, hm⟩ := hv.open'
  clear hv hw
  go_enter Try.func5, Try.ntmps5
  go_wp2_with fail
  refine HFw.out.mono ?_
  rintro e w2 ⟨rfl, rfl⟩
  go_wp2_with fail
  refine (live11 _).mono ?_
  rintro e w3 ⟨rfl, b1⟩
  have BB := Lib.hid b1
  clear b1
  go_wp2_with fail
  go_ret
  exact ⟨rfl, BB.out⟩

set_option maxHeartbeats 800000 in
set_option maxRecDepth 100000 in
theorem bone_none {w : World} {v : Value} (hv : Sess w v []) :
    Calls Try.prog 5 #[v] w fun e w' => e = .returned (.bool true) ∧ Below w.heap.size w w' := by
  have HFw := Lib.hid (few09_eq hv (r := true) rfl)
  obtain ⟨ao, cap, rfl, hm⟩ := hv.open'
  simp only [List.length_nil] at HFw ⊢
  clear hv hm
  go_enter Try.func5, Try.ntmps5
  go_wp2_with fail
  refine HFw.out.mono ?_
  rintro e w2 ⟨rfl, rfl⟩
  go_wp2_with fail
  refine (live11 _).mono ?_
  rintro e w3 ⟨rfl, b1⟩
  have BB := Lib.hid b1
  clear b1
  go_wp2_with fail
  go_ret
  exact ⟨rfl, BB.out⟩

theorem walkBestOne {w : World} {v : Value} {l : List Ses} (hv : Sess w v l) (hf : ∀ s ∈ l, SesFit s) :
    Calls Try.prog 5 #[v] w fun e w' => e = .returned (.bool true) ∧ Below w.heap.size w w' := by
  cases hw : fewSes l with
  | false => exact bone_many hv hw
  | true =>
    by_cases h0 : l = []
    · subst h0
      exact bone_none hv
    · exact bone_few hv hf hw (List.length_pos_iff.2 h0)

end Go.Proofs.Ytocljhbkjengpaa
