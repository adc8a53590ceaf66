/-
  TEXTS OF THE PROOF, one behind the other: FraMay, FraMayF, FraPut.
-/
import Derived.Test.YtohfhphiofobcaaR01
import Derived.Test.YtohfhphiofobcaaR05
import Derived.Deep.RegionHeld3
import Derived.Laws.EntriesVeiled

set_option linter.unusedVariables false

section

/-
  LAYER 6, THE CODE: whether a frame may be.
-/
namespace Go.Proofs.Ytohfhphiofobcaa
open Go.RowKit

theorem below_regrownF {w w' : World} (h : ∃ p : Regrown, w' = Sort.grow (redrawn w p.d) p.os) : Below w.heap.size w w' := by
  obtain ⟨p, rfl⟩ := h
  exact below_regrown _ _ _

set_option maxHeartbeats 400000 in
theorem isKind_any (k : Int) (w : World) : Calls Try.prog 36 #[.int .i64 k] w fun e w' => e = .returned (.bool (decide (1 ≤ k) && decide (k ≤ 4))) ∧ w = w' := by
  by_cases h1 : 1 ≤ k
  · by_cases h4 : k ≤ 4
    · have e : (decide (1 ≤ k) && decide (k ≤ 4)) = true := by simp [h1, h4]
      rw [e]
      go_enter Try.func36, Try.ntmps36
      go_wp2_with fail
      go_ret
      exact ⟨rfl, rfl⟩
    · have e : (decide (1 ≤ k) && decide (k ≤ 4)) = false := by simp [h4]
      rw [e]
      go_enter Try.func36, Try.ntmps36
      go_wp2_with fail
      go_ret
      exact ⟨rfl, rfl⟩
  · have e : (decide (1 ≤ k) && decide (k ≤ 4)) = false := by simp [h1]
    rw [e]
    go_enter Try.func36, Try.ntmps36
    go_wp2_with fail
    go_ret
    exact ⟨rfl, rfl⟩

set_option maxHeartbeats 800000 in
set_option maxRecDepth 100000 in
theorem change_any (k s : Int) (on : Bool) (c : List UInt8) (sh pr si : Int) (st : List UInt8) (sum : Nat) (v : Value) (w : World) :
    Calls Try.prog 41 #[.agg #[.int .i64 k, .int .i64 s, .bool on, .string ⟨c.toArray⟩, .int .i64 sh, .int .i64 pr, .int .i64 si, .string ⟨st.toArray⟩, .int .u64 sum, v]] w fun e w' => e = .returned (.agg #[.string ⟨c.toArray⟩, .bool on, .int .i64 sh, .int .i64 pr, .int .i64 si, .string ⟨st.toArray⟩]) ∧ Below w.heap.size w w' := by
  go_enter Try.func41, Try.ntmps41
  go_wp2_with fail
  refine bodyPost_ret (v := .agg #[.string ⟨c.toArray⟩, .bool on, .int .i64 sh, .int .i64 pr, .int .i64 si, .string ⟨st.toArray⟩]) (by simp [results, Try.results41, go_sem]) rfl ⟨rfl, ?_⟩
  repeat (first | exact Below.refl _ _ | refine Below.setCell ?_ (by first | (simp; done) | (simp; omega)) _ | refine Below.alloc ?_ (by first | (simp; done) | (simp; omega)) _ | refine Below.drew ?_)

/-- The kinds, five of three functions each. -/
abbrev kindsV : Value := .agg #[.nilFunc, .nilFunc, .nilFunc, .func (.func 65) #[] #[], .func (.func 66) #[] #[], .func (.func 67) #[] #[], .func (.func 68) #[] #[], .func (.func 69) #[] #[], .func (.func 70) #[] #[], .func (.func 71) #[] #[], .func (.func 72) #[] #[], .func (.func 73) #[] #[], .func (.func 74) #[] #[], .func (.func 75) #[] #[], .func (.func 76) #[] #[]]

set_option maxHeartbeats 800000 in
set_option maxRecDepth 100000 in
theorem kindsF_any  (w : World) :
    Calls Try.prog 37 #[] w fun e w' => e = .returned (kindsV) ∧ Below w.heap.size w w' := by
  go_enter Try.func37, Try.ntmps37
  go_wp2_with fail
  refine bodyPost_ret (v := kindsV) (by simp [results, Try.results37, go_sem]) rfl ⟨rfl, ?_⟩
  repeat (first | exact Below.refl _ _ | refine Below.setCell ?_ (by first | (simp; done) | (simp; omega)) _ | refine Below.alloc ?_ (by first | (simp; done) | (simp; omega)) _ | refine Below.drew ?_)

theorem chg_zero (c : List UInt8) (on : Bool) (sh pr si : Int) (st : List UInt8) : cSame ⟨c, on, sh, pr, si, st⟩ ⟨[], false, 0, 0, 0, []⟩ = (!on && (c == [] && vSame ⟨sh, pr, si, st⟩ Val.zero)) := by
  unfold cSame Val.zero
  cases on <;> cases c <;> simp

theorem bcellF {W w1 : World} (hb : Below W.heap.size W w1) : (∀ b o, b < W.heap.size → w1.cell? ⟨b, o, none⟩ = W.cell? ⟨b, o, none⟩) ∧ (∀ b o, b < W.heap.size → w1.frozen? ⟨b, o, none⟩ = W.frozen? ⟨b, o, none⟩) :=
  ⟨fun b o h => hb.cell (p := ⟨b, o, none⟩) h, fun b o h => hb.frozen (p := ⟨b, o, none⟩) h⟩

set_option maxHeartbeats 1600000 in
set_option maxRecDepth 100000 in
theorem mayDelta_any {w : World} {v : Value} {t : List Row} (hv : Tab w v t) (k s : Int) (on : Bool) (c : List UInt8) (sh pr si : Int) (st : List UInt8) (sum : Nat) (hc : c.length ≤ 4294967296) (hs : st.length ≤ 4294967296) :
    Calls Try.prog 65 #[.agg #[.int .i64 k, .int .i64 s, .bool on, .string ⟨c.toArray⟩, .int .i64 sh, .int .i64 pr, .int .i64 si, .string ⟨st.toArray⟩, .int .u64 sum, v]] w fun e w' => e = .returned (.bool (decide (sum = 0) && (decide (t.length = 0) && (idIs c && (if on = true then vaMay ⟨sh, pr, si, st⟩ else vSame ⟨sh, pr, si, st⟩ Val.zero))))) ∧ Below w.heap.size w w' := by
  obtain ⟨a, cap, rfl, _⟩ := hv.open'
  clear hv
  have B0 : Hid (Below w.heap.size w (w.alloc (.cells #[.int .i64 k, .int .i64 s, .bool on, .string ⟨c.toArray⟩, .int .i64 sh, .int .i64 pr, .int .i64 si, .string ⟨st.toArray⟩, .int .u64 sum, .slice a t.length cap] 27))) := Lib.hid ((Below.refl _ _).alloc (Nat.le_refl _) _)
  by_cases h1 : sum = 0
  · subst h1
    by_cases h2 : t.length = 0
    · have e2 : ((t.length : Int) != 0) = false := by simp [h2]
      have H2 := Lib.hid h2
      clear h2
      cases hi : idIs c with
      | false =>
        have HI := Lib.hid hi
        rw [show (decide ((0 : Nat) = 0) && (decide (t.length = 0) && (false && (if on = true then vaMay ⟨sh, pr, si, st⟩ else vSame ⟨sh, pr, si, st⟩ Val.zero)))) = false by simp]
        clear hi
        go_enter Try.func65, Try.ntmps65
        go_wp2_with fail
        refine (is_eq c hc HI _).mono ?_
        rintro e w1 ⟨rfl, b⟩
        have B1 := Lib.hid (below2' B0.out b)
        clear b
        go_wp2_with fail
        go_ret
        exact ⟨rfl, B1.out⟩
      | true =>
        have HI := Lib.hid hi
        clear hi
        cases on with
        | false =>
          rw [show (decide ((0 : Nat) = 0) && (decide (t.length = 0) && (true && (if false = true then vaMay ⟨sh, pr, si, st⟩ else vSame ⟨sh, pr, si, st⟩ Val.zero)))) = vSame ⟨sh, pr, si, st⟩ Val.zero by simp [H2.out]]
          have hq : ∀ w, (binOp .eql 23 (.agg #[.int .i64 sh, .int .i64 pr, .int .i64 si, .string ⟨st.toArray⟩]) (.agg #[.int .i64 0, .int .i64 0, .int .i64 0, .string ⟨#[]⟩])).run Try.prog w = .ok (.bool (vSame ⟨sh, pr, si, st⟩ Val.zero)) w := fun w => val_eql5 sh pr si 0 0 0 st [] w
          obtain ⟨r, hr⟩ : ∃ r, vSame ⟨sh, pr, si, st⟩ Val.zero = r := ⟨_, rfl⟩
          rw [hr]
          simp only [hr] at hq
          clear hr
          go_enter Try.func65, Try.ntmps65
          go_wp2_with fail
          refine (is_eq c hc HI _).mono ?_
          rintro e w1 ⟨rfl, b⟩
          have B1 := Lib.hid (below2' B0.out b)
          obtain ⟨hcl, _⟩ := bcellF b
          clear b
          go_wp2_with fail
          go_ret
          exact ⟨rfl, B1.out⟩
        | true =>
          rw [show (decide ((0 : Nat) = 0) && (decide (t.length = 0) && (true && (if true = true then vaMay ⟨sh, pr, si, st⟩ else vSame ⟨sh, pr, si, st⟩ Val.zero)))) = vaMay ⟨sh, pr, si, st⟩ by simp [H2.out]]
          obtain ⟨r, hr⟩ : ∃ r, vaMay ⟨sh, pr, si, st⟩ = r := ⟨_, rfl⟩
          rw [hr]
          have HM := Lib.hid hr
          clear hr
          go_enter Try.func65, Try.ntmps65
          go_wp2_with fail
          refine (is_eq c hc HI _).mono ?_
          rintro e w1 ⟨rfl, b⟩
          have B1 := Lib.hid (below2' B0.out b)
          obtain ⟨hcl, _⟩ := bcellF b
          clear b
          go_wp2_with fail
          refine (may_eq sh pr si st hs HM _).mono ?_
          rintro e w2 ⟨rfl, b⟩
          have B2 := Lib.hid (below2' B1.out b)
          clear b
          go_wp2_with fail
          go_ret
          exact ⟨rfl, B2.out⟩
    · have e2 : ((t.length : Int) != 0) = true := by rw [bne_iff_ne]; omega
      rw [show (decide ((0 : Nat) = 0) && (decide (t.length = 0) && (idIs c && (if on = true then vaMay ⟨sh, pr, si, st⟩ else vSame ⟨sh, pr, si, st⟩ Val.zero)))) = false by simp [h2]]
      clear h2
      go_enter Try.func65, Try.ntmps65
      go_wp2_with fail
      go_ret
      exact ⟨rfl, B0.out⟩
  · have e1 : ((sum : Int) != 0) = true := by rw [bne_iff_ne]; omega
    rw [show (decide (sum = 0) && (decide (t.length = 0) && (idIs c && (if on = true then vaMay ⟨sh, pr, si, st⟩ else vSame ⟨sh, pr, si, st⟩ Val.zero)))) = false by simp [h1]]
    clear h1
    go_enter Try.func65, Try.ntmps65
    go_wp2_with fail
    go_ret
    exact ⟨rfl, B0.out⟩

set_option maxHeartbeats 1600000 in
set_option maxRecDepth 100000 in
theorem mayDigest_any {w : World} {v : Value} {t : List Row} (hv : Tab w v t) (k s : Int) (on : Bool) (c : List UInt8) (sh pr si : Int) (st : List UInt8) (sum : Nat) (hc : c.length ≤ 4294967296) (hs : st.length ≤ 4294967296) :
    Calls Try.prog 68 #[.agg #[.int .i64 k, .int .i64 s, .bool on, .string ⟨c.toArray⟩, .int .i64 sh, .int .i64 pr, .int .i64 si, .string ⟨st.toArray⟩, .int .u64 sum, v]] w fun e w' => e = .returned (.bool ((!on && (c == [] && vSame ⟨sh, pr, si, st⟩ Val.zero)) && decide (t.length = 0))) ∧ Below w.heap.size w w' := by
  have HV := Lib.hid hv
  obtain ⟨a, cap, rfl, _⟩ := hv.open'
  clear hv
  have B0 : Hid (Below w.heap.size w (w.alloc (.cells #[.int .i64 k, .int .i64 s, .bool on, .string ⟨c.toArray⟩, .int .i64 sh, .int .i64 pr, .int .i64 si, .string ⟨st.toArray⟩, .int .u64 sum, .slice a t.length cap] 27))) := Lib.hid ((Below.refl _ _).alloc (Nat.le_refl _) _)
  have hq : ∀ w, (binOp .eql 64 (.agg #[.string ⟨c.toArray⟩, .bool on, .int .i64 sh, .int .i64 pr, .int .i64 si, .string ⟨st.toArray⟩]) (.agg #[.string ⟨#[]⟩, .bool false, .int .i64 0, .int .i64 0, .int .i64 0, .string ⟨#[]⟩])).run Try.prog w = .ok (.bool (!on && (c == [] && vSame ⟨sh, pr, si, st⟩ Val.zero))) w := fun w => by
    have := chg_eql6 c [] on false sh pr si 0 0 0 st [] w
    rw [chg_zero] at this
    exact this
  have hgd : Try.prog.eqGuardType Try.prog.depth 64 = false := by kernel_rfl
  obtain ⟨r, hr⟩ : ∃ r, (!on && (c == [] && vSame ⟨sh, pr, si, st⟩ Val.zero)) = r := ⟨_, rfl⟩
  rw [hr]
  simp only [hr] at hq
  clear hr
  cases r with
  | false =>
    rw [Bool.false_and]
    go_enter Try.func68, Try.ntmps68
    go_wp2_with fail
    refine (change_any k s on c sh pr si st sum _ _).mono ?_
    rintro e w1 ⟨rfl, b⟩
    have B1 := Lib.hid (below2' B0.out b)
    obtain ⟨hcl, _⟩ := bcellF b
    clear b
    go_wp2_with fail
    go_ret
    exact ⟨rfl, B1.out⟩
  | true =>
    rw [Bool.true_and]
    by_cases hzlen : t.length = 0
    · have elen : ((t.length : Int) == 0) = true := by simp [hzlen]
      rw [show decide (t.length = 0) = true by simp [hzlen]]
      clear hzlen
      go_enter Try.func68, Try.ntmps68
      go_wp2_with fail
      refine (change_any k s on c sh pr si st sum _ _).mono ?_
      rintro e w1 ⟨rfl, b⟩
      have B1 := Lib.hid (below2' B0.out b)
      obtain ⟨hcl, _⟩ := bcellF b
      clear b
      go_wp2_with fail
      go_ret
      exact ⟨rfl, B1.out⟩
    · have elen : ((t.length : Int) == 0) = false := by rw [beq_eq_false_iff_ne]; omega
      rw [show decide (t.length = 0) = false by simp [hzlen]]
      clear hzlen
      go_enter Try.func68, Try.ntmps68
      go_wp2_with fail
      refine (change_any k s on c sh pr si st sum _ _).mono ?_
      rintro e w1 ⟨rfl, b⟩
      have B1 := Lib.hid (below2' B0.out b)
      obtain ⟨hcl, _⟩ := bcellF b
      clear b
      go_wp2_with fail
      go_ret
      exact ⟨rfl, B1.out⟩

set_option maxHeartbeats 1600000 in
set_option maxRecDepth 100000 in
theorem maySnapshot_any {w : World} {v : Value} {t : List Row} (hv : Tab w v t) (k s : Int) (on : Bool) (c : List UInt8) (sh pr si : Int) (st : List UInt8) (sum : Nat) (hc : c.length ≤ 4294967296) (hs : st.length ≤ 4294967296) (hsh : Short t) :
    Calls Try.prog 71 #[.agg #[.int .i64 k, .int .i64 s, .bool on, .string ⟨c.toArray⟩, .int .i64 sh, .int .i64 pr, .int .i64 si, .string ⟨st.toArray⟩, .int .u64 sum, v]] w fun e w' => e = .returned (.bool ((!on && (c == [] && vSame ⟨sh, pr, si, st⟩ Val.zero)) && (decide (sum = 0) && diMay t))) ∧ Below w.heap.size w w' := by
  have HV := Lib.hid hv
  obtain ⟨a, cap, rfl, _⟩ := hv.open'
  clear hv
  have B0 : Hid (Below w.heap.size w (w.alloc (.cells #[.int .i64 k, .int .i64 s, .bool on, .string ⟨c.toArray⟩, .int .i64 sh, .int .i64 pr, .int .i64 si, .string ⟨st.toArray⟩, .int .u64 sum, .slice a t.length cap] 27))) := Lib.hid ((Below.refl _ _).alloc (Nat.le_refl _) _)
  have hq : ∀ w, (binOp .eql 64 (.agg #[.string ⟨c.toArray⟩, .bool on, .int .i64 sh, .int .i64 pr, .int .i64 si, .string ⟨st.toArray⟩]) (.agg #[.string ⟨#[]⟩, .bool false, .int .i64 0, .int .i64 0, .int .i64 0, .string ⟨#[]⟩])).run Try.prog w = .ok (.bool (!on && (c == [] && vSame ⟨sh, pr, si, st⟩ Val.zero))) w := fun w => by
    have := chg_eql6 c [] on false sh pr si 0 0 0 st [] w
    rw [chg_zero] at this
    exact this
  have hgd : Try.prog.eqGuardType Try.prog.depth 64 = false := by kernel_rfl
  obtain ⟨r, hr⟩ : ∃ r, (!on && (c == [] && vSame ⟨sh, pr, si, st⟩ Val.zero)) = r := ⟨_, rfl⟩
  rw [hr]
  simp only [hr] at hq
  clear hr
  cases r with
  | false =>
    rw [Bool.false_and]
    go_enter Try.func71, Try.ntmps71
    go_wp2_with fail
    refine (change_any k s on c sh pr si st sum _ _).mono ?_
    rintro e w1 ⟨rfl, b⟩
    have B1 := Lib.hid (below2' B0.out b)
    obtain ⟨hcl, _⟩ := bcellF b
    clear b
    go_wp2_with fail
    go_ret
    exact ⟨rfl, B1.out⟩
  | true =>
    rw [Bool.true_and]
    by_cases hzsum : sum = 0
    · have esum : ((sum : Int) == 0) = true := by simp [hzsum]
      rw [show decide (sum = 0) = true by simp [hzsum], Bool.true_and]
      clear hzsum
      obtain ⟨r2, hr2⟩ : ∃ r2, diMay t = r2 := ⟨_, rfl⟩
      rw [hr2]
      have HM := Lib.hid hr2
      clear hr2
      go_enter Try.func71, Try.ntmps71
      go_wp2_with fail
      refine (change_any k s on c sh pr si st sum _ _).mono ?_
      rintro e w1 ⟨rfl, b⟩
      have B1 := Lib.hid (below2' B0.out b)
      obtain ⟨hcl, _⟩ := bcellF b
      clear b
      go_wp2_with fail
      refine (dimay_eq (HV.out.later B1.out) hsh HM).mono ?_
      rintro e w2 ⟨rfl, b⟩
      have B2 := Lib.hid (below2' B1.out b)
      clear b
      go_wp2_with fail
      go_ret
      exact ⟨rfl, B2.out⟩
    · have esum : ((sum : Int) == 0) = false := by rw [beq_eq_false_iff_ne]; omega
      rw [show decide (sum = 0) = false by simp [hzsum], Bool.false_and]
      clear hzsum
      go_enter Try.func71, Try.ntmps71
      go_wp2_with fail
      refine (change_any k s on c sh pr si st sum _ _).mono ?_
      rintro e w1 ⟨rfl, b⟩
      have B1 := Lib.hid (below2' B0.out b)
      obtain ⟨hcl, _⟩ := bcellF b
      clear b
      go_wp2_with fail
      go_ret
      exact ⟨rfl, B1.out⟩

set_option maxHeartbeats 1600000 in
set_option maxRecDepth 100000 in
theorem mayResync_any {w : World} {v : Value} {t : List Row} (hv : Tab w v t) (k s : Int) (on : Bool) (c : List UInt8) (sh pr si : Int) (st : List UInt8) (sum : Nat) (hc : c.length ≤ 4294967296) (hs : st.length ≤ 4294967296) :
    Calls Try.prog 74 #[.agg #[.int .i64 k, .int .i64 s, .bool on, .string ⟨c.toArray⟩, .int .i64 sh, .int .i64 pr, .int .i64 si, .string ⟨st.toArray⟩, .int .u64 sum, v]] w fun e w' => e = .returned (.bool ((!on && (c == [] && vSame ⟨sh, pr, si, st⟩ Val.zero)) && (decide (sum = 0) && decide (t.length = 0)))) ∧ Below w.heap.size w w' := by
  have HV := Lib.hid hv
  obtain ⟨a, cap, rfl, _⟩ := hv.open'
  clear hv
  have B0 : Hid (Below w.heap.size w (w.alloc (.cells #[.int .i64 k, .int .i64 s, .bool on, .string ⟨c.toArray⟩, .int .i64 sh, .int .i64 pr, .int .i64 si, .string ⟨st.toArray⟩, .int .u64 sum, .slice a t.length cap] 27))) := Lib.hid ((Below.refl _ _).alloc (Nat.le_refl _) _)
  have hq : ∀ w, (binOp .eql 64 (.agg #[.string ⟨c.toArray⟩, .bool on, .int .i64 sh, .int .i64 pr, .int .i64 si, .string ⟨st.toArray⟩]) (.agg #[.string ⟨#[]⟩, .bool false, .int .i64 0, .int .i64 0, .int .i64 0, .string ⟨#[]⟩])).run Try.prog w = .ok (.bool (!on && (c == [] && vSame ⟨sh, pr, si, st⟩ Val.zero))) w := fun w => by
    have := chg_eql6 c [] on false sh pr si 0 0 0 st [] w
    rw [chg_zero] at this
    exact this
  have hgd : Try.prog.eqGuardType Try.prog.depth 64 = false := by kernel_rfl
  obtain ⟨r, hr⟩ : ∃ r, (!on && (c == [] && vSame ⟨sh, pr, si, st⟩ Val.zero)) = r := ⟨_, rfl⟩
  rw [hr]
  simp only [hr] at hq
  clear hr
  cases r with
  | false =>
    rw [Bool.false_and]
    go_enter Try.func74, Try.ntmps74
    go_wp2_with fail
    refine (change_any k s on c sh pr si st sum _ _).mono ?_
    rintro e w1 ⟨rfl, b⟩
    have B1 := Lib.hid (below2' B0.out b)
    obtain ⟨hcl, _⟩ := bcellF b
    clear b
    go_wp2_with fail
    go_ret
    exact ⟨rfl, B1.out⟩
  | true =>
    rw [Bool.true_and]
    by_cases hzsum : sum = 0
    · have esum : ((sum : Int) == 0) = true := by simp [hzsum]
      rw [show decide (sum = 0) = true by simp [hzsum], Bool.true_and]
      clear hzsum
      by_cases hzlen : t.length = 0
      · have elen : ((t.length : Int) == 0) = true := by simp [hzlen]
        rw [show decide (t.length = 0) = true by simp [hzlen]]
        clear hzlen
        go_enter Try.func74, Try.ntmps74
        go_wp2_with fail
        refine (change_any k s on c sh pr si st sum _ _).mono ?_
        rintro e w1 ⟨rfl, b⟩
        have B1 := Lib.hid (below2' B0.out b)
        obtain ⟨hcl, _⟩ := bcellF b
        clear b
        go_wp2_with fail
        go_ret
        exact ⟨rfl, B1.out⟩
      · have elen : ((t.length : Int) == 0) = false := by rw [beq_eq_false_iff_ne]; omega
        rw [show decide (t.length = 0) = false by simp [hzlen]]
        clear hzlen
        go_enter Try.func74, Try.ntmps74
        go_wp2_with fail
        refine (change_any k s on c sh pr si st sum _ _).mono ?_
        rintro e w1 ⟨rfl, b⟩
        have B1 := Lib.hid (below2' B0.out b)
        obtain ⟨hcl, _⟩ := bcellF b
        clear b
        go_wp2_with fail
        go_ret
        exact ⟨rfl, B1.out⟩
    · have esum : ((sum : Int) == 0) = false := by rw [beq_eq_false_iff_ne]; omega
      rw [show decide (sum = 0) = false by simp [hzsum], Bool.false_and]
      clear hzsum
      go_enter Try.func74, Try.ntmps74
      go_wp2_with fail
      refine (change_any k s on c sh pr si st sum _ _).mono ?_
      rintro e w1 ⟨rfl, b⟩
      have B1 := Lib.hid (below2' B0.out b)
      obtain ⟨hcl, _⟩ := bcellF b
      clear b
      go_wp2_with fail
      go_ret
      exact ⟨rfl, B1.out⟩

end Go.Proofs.Ytohfhphiofobcaa

end

section

/-
  LAYER 6, THE CODE: the contract of frame.May.
-/
namespace Go.Proofs.Ytohfhphiofobcaa
open Go.RowKit

abbrev frBox (w : World) (k s : Int) (on : Bool) (c : List UInt8) (sh pr si : Int) (st : List UInt8) (sum : Nat) (v : Value) : World :=
  w.alloc (.cells #[.int .i64 k, .int .i64 s, .bool on, .string ⟨c.toArray⟩, .int .i64 sh, .int .i64 pr, .int .i64 si, .string ⟨st.toArray⟩, .int .u64 sum, v] 27)

set_option maxHeartbeats 1600000 in
set_option maxRecDepth 100000 in
theorem frmay_out (k s : Int) (on : Bool) (c : List UInt8) (sh pr si : Int) (st : List UInt8) (sum : Nat) (v : Value) (hk : k < 1 ∨ 4 < k) (w : World) :
    Calls Try.prog 14 #[.agg #[.int .i64 k, .int .i64 s, .bool on, .string ⟨c.toArray⟩, .int .i64 sh, .int .i64 pr, .int .i64 si, .string ⟨st.toArray⟩, .int .u64 sum, v]] w fun e w' => e = .returned (.bool false) ∧ Below w.heap.size w w' := by
  have e0 : (decide (1 ≤ k) && decide (k ≤ 4)) = false := by simp; omega
  have HI := Lib.hid fun w => isKind_any k w
  simp only [e0] at HI
  have B0 : Hid (Below w.heap.size w (w.alloc (.cells #[.int .i64 k, .int .i64 s, .bool on, .string ⟨c.toArray⟩, .int .i64 sh, .int .i64 pr, .int .i64 si, .string ⟨st.toArray⟩, .int .u64 sum, v] 27))) := Lib.hid ((Below.refl _ _).alloc (Nat.le_refl _) _)
  have g0 := cell_regrown (w := w.alloc (.cells #[.int .i64 k, .int .i64 s, .bool on, .string ⟨c.toArray⟩, .int .i64 sh, .int .i64 pr, .int .i64 si, .string ⟨st.toArray⟩, .int .u64 sum, v] 27)) (a := ⟨w.heap.size, 0, none⟩) (v := .int .i64 k) (by simp)
  have g1 := cell_regrown (w := w.alloc (.cells #[.int .i64 k, .int .i64 s, .bool on, .string ⟨c.toArray⟩, .int .i64 sh, .int .i64 pr, .int .i64 si, .string ⟨st.toArray⟩, .int .u64 sum, v] 27)) (a := ⟨w.heap.size, 1, none⟩) (v := .int .i64 s) (by simp)
  have g2 := cell_regrown (w := w.alloc (.cells #[.int .i64 k, .int .i64 s, .bool on, .string ⟨c.toArray⟩, .int .i64 sh, .int .i64 pr, .int .i64 si, .string ⟨st.toArray⟩, .int .u64 sum, v] 27)) (a := ⟨w.heap.size, 2, none⟩) (v := .bool on) (by simp)
  have g3 := cell_regrown (w := w.alloc (.cells #[.int .i64 k, .int .i64 s, .bool on, .string ⟨c.toArray⟩, .int .i64 sh, .int .i64 pr, .int .i64 si, .string ⟨st.toArray⟩, .int .u64 sum, v] 27)) (a := ⟨w.heap.size, 3, none⟩) (v := .string ⟨c.toArray⟩) (by simp)
  have g4 := cell_regrown (w := w.alloc (.cells #[.int .i64 k, .int .i64 s, .bool on, .string ⟨c.toArray⟩, .int .i64 sh, .int .i64 pr, .int .i64 si, .string ⟨st.toArray⟩, .int .u64 sum, v] 27)) (a := ⟨w.heap.size, 4, none⟩) (v := .int .i64 sh) (by simp)
  have g5 := cell_regrown (w := w.alloc (.cells #[.int .i64 k, .int .i64 s, .bool on, .string ⟨c.toArray⟩, .int .i64 sh, .int .i64 pr, .int .i64 si, .string ⟨st.toArray⟩, .int .u64 sum, v] 27)) (a := ⟨w.heap.size, 5, none⟩) (v := .int .i64 pr) (by simp)
  have g6 := cell_regrown (w := w.alloc (.cells #[.int .i64 k, .int .i64 s, .bool on, .string ⟨c.toArray⟩, .int .i64 sh, .int .i64 pr, .int .i64 si, .string ⟨st.toArray⟩, .int .u64 sum, v] 27)) (a := ⟨w.heap.size, 6, none⟩) (v := .int .i64 si) (by simp)
  have g7 := cell_regrown (w := w.alloc (.cells #[.int .i64 k, .int .i64 s, .bool on, .string ⟨c.toArray⟩, .int .i64 sh, .int .i64 pr, .int .i64 si, .string ⟨st.toArray⟩, .int .u64 sum, v] 27)) (a := ⟨w.heap.size, 7, none⟩) (v := .string ⟨st.toArray⟩) (by simp)
  have g8 := cell_regrown (w := w.alloc (.cells #[.int .i64 k, .int .i64 s, .bool on, .string ⟨c.toArray⟩, .int .i64 sh, .int .i64 pr, .int .i64 si, .string ⟨st.toArray⟩, .int .u64 sum, v] 27)) (a := ⟨w.heap.size, 8, none⟩) (v := .int .u64 sum) (by simp)
  have g9 := cell_regrown (w := w.alloc (.cells #[.int .i64 k, .int .i64 s, .bool on, .string ⟨c.toArray⟩, .int .i64 sh, .int .i64 pr, .int .i64 si, .string ⟨st.toArray⟩, .int .u64 sum, v] 27)) (a := ⟨w.heap.size, 9, none⟩) (v := v) (by simp)
  clear hk e0
  go_enter Try.func14, Try.ntmps14
  go_wp2_with fail
  refine wp_region_quiet_below (by kernel_rfl) (by kernel_rfl) ?_
  repeat (go_big_quiet_step (with_reducible exact rgS HI.out _ _ _))
  refine wpQuiet_nil ?_
  intro w5 hw5
  have B5 := Lib.hid (below2' B0.out (below_regrownF hw5))
  clear hw5 g0 g1 g2 g3 g4 g5 g6 g7 g8 g9
  go_wp2_with fail
  go_ret
  exact ⟨rfl, B5.out⟩

set_option maxHeartbeats 3200000 in
set_option maxRecDepth 100000 in
theorem frmay_1 {w : World} {v : Value} {t : List Row} (hv : Tab w v t) (hsh : Short t) (s : Int) (on : Bool) (c : List UInt8) (sh pr si : Int) (st : List UInt8) (sum : Nat) (hc : c.length ≤ 4294967296) (hs : st.length ≤ 4294967296) :
    Calls Try.prog 14 #[.agg #[.int .i64 1, .int .i64 s, .bool on, .string ⟨c.toArray⟩, .int .i64 sh, .int .i64 pr, .int .i64 si, .string ⟨st.toArray⟩, .int .u64 sum, v]] w fun e w' => e = .returned (.bool (frMay ⟨1, s, on, c, ⟨sh, pr, si, st⟩, sum, t⟩)) ∧ Below w.heap.size w w' := by
  have e0 : (decide ((1 : Int) ≤ 1) && decide ((1 : Int) ≤ 4)) = true := by decide
  have HI := Lib.hid fun w => isKind_any 1 w
  simp only [e0] at HI
  clear e0
  have B0 : Hid (Below w.heap.size w (w.alloc (.cells #[.int .i64 1, .int .i64 s, .bool on, .string ⟨c.toArray⟩, .int .i64 sh, .int .i64 pr, .int .i64 si, .string ⟨st.toArray⟩, .int .u64 sum, v] 27))) := Lib.hid ((Below.refl _ _).alloc (Nat.le_refl _) _)
  have g0 := cell_regrown (w := w.alloc (.cells #[.int .i64 1, .int .i64 s, .bool on, .string ⟨c.toArray⟩, .int .i64 sh, .int .i64 pr, .int .i64 si, .string ⟨st.toArray⟩, .int .u64 sum, v] 27)) (a := ⟨w.heap.size, 0, none⟩) (v := .int .i64 1) (by simp)
  have g1 := cell_regrown (w := w.alloc (.cells #[.int .i64 1, .int .i64 s, .bool on, .string ⟨c.toArray⟩, .int .i64 sh, .int .i64 pr, .int .i64 si, .string ⟨st.toArray⟩, .int .u64 sum, v] 27)) (a := ⟨w.heap.size, 1, none⟩) (v := .int .i64 s) (by simp)
  have g2 := cell_regrown (w := w.alloc (.cells #[.int .i64 1, .int .i64 s, .bool on, .string ⟨c.toArray⟩, .int .i64 sh, .int .i64 pr, .int .i64 si, .string ⟨st.toArray⟩, .int .u64 sum, v] 27)) (a := ⟨w.heap.size, 2, none⟩) (v := .bool on) (by simp)
  have g3 := cell_regrown (w := w.alloc (.cells #[.int .i64 1, .int .i64 s, .bool on, .string ⟨c.toArray⟩, .int .i64 sh, .int .i64 pr, .int .i64 si, .string ⟨st.toArray⟩, .int .u64 sum, v] 27)) (a := ⟨w.heap.size, 3, none⟩) (v := .string ⟨c.toArray⟩) (by simp)
  have g4 := cell_regrown (w := w.alloc (.cells #[.int .i64 1, .int .i64 s, .bool on, .string ⟨c.toArray⟩, .int .i64 sh, .int .i64 pr, .int .i64 si, .string ⟨st.toArray⟩, .int .u64 sum, v] 27)) (a := ⟨w.heap.size, 4, none⟩) (v := .int .i64 sh) (by simp)
  have g5 := cell_regrown (w := w.alloc (.cells #[.int .i64 1, .int .i64 s, .bool on, .string ⟨c.toArray⟩, .int .i64 sh, .int .i64 pr, .int .i64 si, .string ⟨st.toArray⟩, .int .u64 sum, v] 27)) (a := ⟨w.heap.size, 5, none⟩) (v := .int .i64 pr) (by simp)
  have g6 := cell_regrown (w := w.alloc (.cells #[.int .i64 1, .int .i64 s, .bool on, .string ⟨c.toArray⟩, .int .i64 sh, .int .i64 pr, .int .i64 si, .string ⟨st.toArray⟩, .int .u64 sum, v] 27)) (a := ⟨w.heap.size, 6, none⟩) (v := .int .i64 si) (by simp)
  have g7 := cell_regrown (w := w.alloc (.cells #[.int .i64 1, .int .i64 s, .bool on, .string ⟨c.toArray⟩, .int .i64 sh, .int .i64 pr, .int .i64 si, .string ⟨st.toArray⟩, .int .u64 sum, v] 27)) (a := ⟨w.heap.size, 7, none⟩) (v := .string ⟨st.toArray⟩) (by simp)
  have g8 := cell_regrown (w := w.alloc (.cells #[.int .i64 1, .int .i64 s, .bool on, .string ⟨c.toArray⟩, .int .i64 sh, .int .i64 pr, .int .i64 si, .string ⟨st.toArray⟩, .int .u64 sum, v] 27)) (a := ⟨w.heap.size, 8, none⟩) (v := .int .u64 sum) (by simp)
  have g9 := cell_regrown (w := w.alloc (.cells #[.int .i64 1, .int .i64 s, .bool on, .string ⟨c.toArray⟩, .int .i64 sh, .int .i64 pr, .int .i64 si, .string ⟨st.toArray⟩, .int .u64 sum, v] 27)) (a := ⟨w.heap.size, 9, none⟩) (v := v) (by simp)
  have HK : Hid (∀ d os, Calls Try.prog 65 #[.agg #[.int .i64 1, .int .i64 s, .bool on, .string ⟨c.toArray⟩, .int .i64 sh, .int .i64 pr, .int .i64 si, .string ⟨st.toArray⟩, .int .u64 sum, v]] (Sort.grow (redrawn (w.alloc (.cells #[.int .i64 1, .int .i64 s, .bool on, .string ⟨c.toArray⟩, .int .i64 sh, .int .i64 pr, .int .i64 si, .string ⟨st.toArray⟩, .int .u64 sum, v] 27)) d) os) fun e w'' => e = .returned (.bool (frRest ⟨1, s, on, c, ⟨sh, pr, si, st⟩, sum, t⟩)) ∧ ∃ p : Regrown, w'' = Sort.grow (redrawn (w.alloc (.cells #[.int .i64 1, .int .i64 s, .bool on, .string ⟨c.toArray⟩, .int .i64 sh, .int .i64 pr, .int .i64 si, .string ⟨st.toArray⟩, .int .u64 sum, v] 27)) p.d) p.os) := Lib.hid fun d os =>
    Calls.regrown_of ((mayDelta_any ((hv.later B0.out).later (below_regrown _ d os)) 1 s on c sh pr si st sum hc hs).mono fun e w' h => ⟨h.1.trans (by unfold frRest; simp), h.2⟩)
  have hix : ∀ w, (Instr.index 77 kindsV (.int .i64 1)).run Try.prog w = .ok (.agg #[.func (.func 65) #[] #[], .func (.func 66) #[] #[], .func (.func 67) #[] #[]]) w := fun _ => by kernel_rfl
  have hfd : ∀ w, (Instr.field 76 (.agg #[.func (.func 65) #[] #[], .func (.func 66) #[] #[], .func (.func 67) #[] #[]]) 0).run Try.prog w = .ok (.func (.func 65) #[] #[]) w := fun _ => by kernel_rfl
  have HKD := Lib.hid kindsF_any
  have hm : frMay ⟨1, s, on, c, ⟨sh, pr, si, st⟩, sum, t⟩ = ((decide (0 ≤ s) && decide (s ≤ 1099511627776)) && frRest ⟨1, s, on, c, ⟨sh, pr, si, st⟩, sum, t⟩) := by unfold frMay; simp
  rw [hm]
  obtain ⟨r, hr⟩ : ∃ r, frRest ⟨1, s, on, c, ⟨sh, pr, si, st⟩, sum, t⟩ = r := ⟨_, rfl⟩
  rw [hr] at HK ⊢
  clear hr hm hv hsh hc hs
  by_cases h0 : 0 ≤ s
  · by_cases h1 : s ≤ 1099511627776
    · rw [show ((decide (0 ≤ s) && decide (s ≤ 1099511627776)) && r) = r by simp [h0, h1]]
      go_enter Try.func14, Try.ntmps14
      go_wp2_with fail
      refine wp_region_quiet_below (by kernel_rfl) (by kernel_rfl) ?_
      repeat (go_big_quiet_step (first | with_reducible exact rgS HI.out _ _ _ | with_reducible exact rgB HKD.out _ _ _ | with_reducible exact HK.out _ _))
      refine wpQuiet_nil ?_
      intro w5 hw5
      have B5 := Lib.hid (below2' B0.out (below_regrownF hw5))
      clear hw5 g0 g1 g2 g3 g4 g5 g6 g7 g8 g9
      go_wp2_with fail
      go_ret
      exact ⟨rfl, B5.out⟩
    · rw [show ((decide (0 ≤ s) && decide (s ≤ 1099511627776)) && r) = false by simp [h1]]
      have t1 : decide (s ≤ 1099511627776) = false := by simpa using h1
      go_enter Try.func14, Try.ntmps14
      go_wp2_with fail
      refine wp_region_quiet_below (by kernel_rfl) (by kernel_rfl) ?_
      repeat (go_big_quiet_step (with_reducible exact rgS HI.out _ _ _))
      refine wpQuiet_nil ?_
      intro w5 hw5
      have B5 := Lib.hid (below2' B0.out (below_regrownF hw5))
      clear hw5 g0 g1 g2 g3 g4 g5 g6 g7 g8 g9
      go_wp2_with fail
      go_ret
      exact ⟨rfl, B5.out⟩
  · rw [show ((decide (0 ≤ s) && decide (s ≤ 1099511627776)) && r) = false by simp [h0]]
    have t1 : decide (0 ≤ s) = false := by simpa using h0
    go_enter Try.func14, Try.ntmps14
    go_wp2_with fail
    refine wp_region_quiet_below (by kernel_rfl) (by kernel_rfl) ?_
    repeat (go_big_quiet_step (with_reducible exact rgS HI.out _ _ _))
    refine wpQuiet_nil ?_
    intro w5 hw5
    have B5 := Lib.hid (below2' B0.out (below_regrownF hw5))
    clear hw5 g0 g1 g2 g3 g4 g5 g6 g7 g8 g9
    go_wp2_with fail
    go_ret
    exact ⟨rfl, B5.out⟩

set_option maxHeartbeats 3200000 in
set_option maxRecDepth 100000 in
theorem frmay_2 {w : World} {v : Value} {t : List Row} (hv : Tab w v t) (hsh : Short t) (s : Int) (on : Bool) (c : List UInt8) (sh pr si : Int) (st : List UInt8) (sum : Nat) (hc : c.length ≤ 4294967296) (hs : st.length ≤ 4294967296) :
    Calls Try.prog 14 #[.agg #[.int .i64 2, .int .i64 s, .bool on, .string ⟨c.toArray⟩, .int .i64 sh, .int .i64 pr, .int .i64 si, .string ⟨st.toArray⟩, .int .u64 sum, v]] w fun e w' => e = .returned (.bool (frMay ⟨2, s, on, c, ⟨sh, pr, si, st⟩, sum, t⟩)) ∧ Below w.heap.size w w' := by
  have e0 : (decide ((1 : Int) ≤ 2) && decide ((2 : Int) ≤ 4)) = true := by decide
  have HI := Lib.hid fun w => isKind_any 2 w
  simp only [e0] at HI
  clear e0
  have B0 : Hid (Below w.heap.size w (w.alloc (.cells #[.int .i64 2, .int .i64 s, .bool on, .string ⟨c.toArray⟩, .int .i64 sh, .int .i64 pr, .int .i64 si, .string ⟨st.toArray⟩, .int .u64 sum, v] 27))) := Lib.hid ((Below.refl _ _).alloc (Nat.le_refl _) _)
  have g0 := cell_regrown (w := w.alloc (.cells #[.int .i64 2, .int .i64 s, .bool on, .string ⟨c.toArray⟩, .int .i64 sh, .int .i64 pr, .int .i64 si, .string ⟨st.toArray⟩, .int .u64 sum, v] 27)) (a := ⟨w.heap.size, 0, none⟩) (v := .int .i64 2) (by simp)
  have g1 := cell_regrown (w := w.alloc (.cells #[.int .i64 2, .int .i64 s, .bool on, .string ⟨c.toArray⟩, .int .i64 sh, .int .i64 pr, .int .i64 si, .string ⟨st.toArray⟩, .int .u64 sum, v] 27)) (a := ⟨w.heap.size, 1, none⟩) (v := .int .i64 s) (by simp)
  have g2 := cell_regrown (w := w.alloc (.cells #[.int .i64 2, .int .i64 s, .bool on, .string ⟨c.toArray⟩, .int .i64 sh, .int .i64 pr, .int .i64 si, .string ⟨st.toArray⟩, .int .u64 sum, v] 27)) (a := ⟨w.heap.size, 2, none⟩) (v := .bool on) (by simp)
  have g3 := cell_regrown (w := w.alloc (.cells #[.int .i64 2, .int .i64 s, .bool on, .string ⟨c.toArray⟩, .int .i64 sh, .int .i64 pr, .int .i64 si, .string ⟨st.toArray⟩, .int .u64 sum, v] 27)) (a := ⟨w.heap.size, 3, none⟩) (v := .string ⟨c.toArray⟩) (by simp)
  have g4 := cell_regrown (w := w.alloc (.cells #[.int .i64 2, .int .i64 s, .bool on, .string ⟨c.toArray⟩, .int .i64 sh, .int .i64 pr, .int .i64 si, .string ⟨st.toArray⟩, .int .u64 sum, v] 27)) (a := ⟨w.heap.size, 4, none⟩) (v := .int .i64 sh) (by simp)
  have g5 := cell_regrown (w := w.alloc (.cells #[.int .i64 2, .int .i64 s, .bool on, .string ⟨c.toArray⟩, .int .i64 sh, .int .i64 pr, .int .i64 si, .string ⟨st.toArray⟩, .int .u64 sum, v] 27)) (a := ⟨w.heap.size, 5, none⟩) (v := .int .i64 pr) (by simp)
  have g6 := cell_regrown (w := w.alloc (.cells #[.int .i64 2, .int .i64 s, .bool on, .string ⟨c.toArray⟩, .int .i64 sh, .int .i64 pr, .int .i64 si, .string ⟨st.toArray⟩, .int .u64 sum, v] 27)) (a := ⟨w.heap.size, 6, none⟩) (v := .int .i64 si) (by simp)
  have g7 := cell_regrown (w := w.alloc (.cells #[.int .i64 2, .int .i64 s, .bool on, .string ⟨c.toArray⟩, .int .i64 sh, .int .i64 pr, .int .i64 si, .string ⟨st.toArray⟩, .int .u64 sum, v] 27)) (a := ⟨w.heap.size, 7, none⟩) (v := .string ⟨st.toArray⟩) (by simp)
  have g8 := cell_regrown (w := w.alloc (.cells #[.int .i64 2, .int .i64 s, .bool on, .string ⟨c.toArray⟩, .int .i64 sh, .int .i64 pr, .int .i64 si, .string ⟨st.toArray⟩, .int .u64 sum, v] 27)) (a := ⟨w.heap.size, 8, none⟩) (v := .int .u64 sum) (by simp)
  have g9 := cell_regrown (w := w.alloc (.cells #[.int .i64 2, .int .i64 s, .bool on, .string ⟨c.toArray⟩, .int .i64 sh, .int .i64 pr, .int .i64 si, .string ⟨st.toArray⟩, .int .u64 sum, v] 27)) (a := ⟨w.heap.size, 9, none⟩) (v := v) (by simp)
  have HK : Hid (∀ d os, Calls Try.prog 68 #[.agg #[.int .i64 2, .int .i64 s, .bool on, .string ⟨c.toArray⟩, .int .i64 sh, .int .i64 pr, .int .i64 si, .string ⟨st.toArray⟩, .int .u64 sum, v]] (Sort.grow (redrawn (w.alloc (.cells #[.int .i64 2, .int .i64 s, .bool on, .string ⟨c.toArray⟩, .int .i64 sh, .int .i64 pr, .int .i64 si, .string ⟨st.toArray⟩, .int .u64 sum, v] 27)) d) os) fun e w'' => e = .returned (.bool (frRest ⟨2, s, on, c, ⟨sh, pr, si, st⟩, sum, t⟩)) ∧ ∃ p : Regrown, w'' = Sort.grow (redrawn (w.alloc (.cells #[.int .i64 2, .int .i64 s, .bool on, .string ⟨c.toArray⟩, .int .i64 sh, .int .i64 pr, .int .i64 si, .string ⟨st.toArray⟩, .int .u64 sum, v] 27)) p.d) p.os) := Lib.hid fun d os =>
    Calls.regrown_of ((mayDigest_any ((hv.later B0.out).later (below_regrown _ d os)) 2 s on c sh pr si st sum hc hs).mono fun e w' h => ⟨h.1.trans (by unfold frRest; simp), h.2⟩)
  have hix : ∀ w, (Instr.index 77 kindsV (.int .i64 2)).run Try.prog w = .ok (.agg #[.func (.func 68) #[] #[], .func (.func 69) #[] #[], .func (.func 70) #[] #[]]) w := fun _ => by kernel_rfl
  have hfd : ∀ w, (Instr.field 76 (.agg #[.func (.func 68) #[] #[], .func (.func 69) #[] #[], .func (.func 70) #[] #[]]) 0).run Try.prog w = .ok (.func (.func 68) #[] #[]) w := fun _ => by kernel_rfl
  have HKD := Lib.hid kindsF_any
  have hm : frMay ⟨2, s, on, c, ⟨sh, pr, si, st⟩, sum, t⟩ = ((decide (0 ≤ s) && decide (s ≤ 1099511627776)) && frRest ⟨2, s, on, c, ⟨sh, pr, si, st⟩, sum, t⟩) := by unfold frMay; simp
  rw [hm]
  obtain ⟨r, hr⟩ : ∃ r, frRest ⟨2, s, on, c, ⟨sh, pr, si, st⟩, sum, t⟩ = r := ⟨_, rfl⟩
  rw [hr] at HK ⊢
  clear hr hm hv hsh hc hs
  by_cases h0 : 0 ≤ s
  · by_cases h1 : s ≤ 1099511627776
    · rw [show ((decide (0 ≤ s) && decide (s ≤ 1099511627776)) && r) = r by simp [h0, h1]]
      go_enter Try.func14, Try.ntmps14
      go_wp2_with fail
      refine wp_region_quiet_below (by kernel_rfl) (by kernel_rfl) ?_
      repeat (go_big_quiet_step (first | with_reducible exact rgS HI.out _ _ _ | with_reducible exact rgB HKD.out _ _ _ | with_reducible exact HK.out _ _))
      refine wpQuiet_nil ?_
      intro w5 hw5
      have B5 := Lib.hid (below2' B0.out (below_regrownF hw5))
      clear hw5 g0 g1 g2 g3 g4 g5 g6 g7 g8 g9
      go_wp2_with fail
      go_ret
      exact ⟨rfl, B5.out⟩
    · rw [show ((decide (0 ≤ s) && decide (s ≤ 1099511627776)) && r) = false by simp [h1]]
      have t1 : decide (s ≤ 1099511627776) = false := by simpa using h1
      go_enter Try.func14, Try.ntmps14
      go_wp2_with fail
      refine wp_region_quiet_below (by kernel_rfl) (by kernel_rfl) ?_
      repeat (go_big_quiet_step (with_reducible exact rgS HI.out _ _ _))
      refine wpQuiet_nil ?_
      intro w5 hw5
      have B5 := Lib.hid (below2' B0.out (below_regrownF hw5))
      clear hw5 g0 g1 g2 g3 g4 g5 g6 g7 g8 g9
      go_wp2_with fail
      go_ret
      exact ⟨rfl, B5.out⟩
  · rw [show ((decide (0 ≤ s) && decide (s ≤ 1099511627776)) && r) = false by simp [h0]]
    have t1 : decide (0 ≤ s) = false := by simpa using h0
    go_enter Try.func14, Try.ntmps14
    go_wp2_with fail
    refine wp_region_quiet_below (by kernel_rfl) (by kernel_rfl) ?_
    repeat (go_big_quiet_step (with_reducible exact rgS HI.out _ _ _))
    refine wpQuiet_nil ?_
    intro w5 hw5
    have B5 := Lib.hid (below2' B0.out (below_regrownF hw5))
    clear hw5 g0 g1 g2 g3 g4 g5 g6 g7 g8 g9
    go_wp2_with fail
    go_ret
    exact ⟨rfl, B5.out⟩

set_option maxHeartbeats 3200000 in
set_option maxRecDepth 100000 in
theorem frmay_3 {w : World} {v : Value} {t : List Row} (hv : Tab w v t) (hsh : Short t) (s : Int) (on : Bool) (c : List UInt8) (sh pr si : Int) (st : List UInt8) (sum : Nat) (hc : c.length ≤ 4294967296) (hs : st.length ≤ 4294967296) :
    Calls Try.prog 14 #[.agg #[.int .i64 3, .int .i64 s, .bool on, .string ⟨c.toArray⟩, .int .i64 sh, .int .i64 pr, .int .i64 si, .string ⟨st.toArray⟩, .int .u64 sum, v]] w fun e w' => e = .returned (.bool (frMay ⟨3, s, on, c, ⟨sh, pr, si, st⟩, sum, t⟩)) ∧ Below w.heap.size w w' := by
  have e0 : (decide ((1 : Int) ≤ 3) && decide ((3 : Int) ≤ 4)) = true := by decide
  have HI := Lib.hid fun w => isKind_any 3 w
  simp only [e0] at HI
  clear e0
  have B0 : Hid (Below w.heap.size w (w.alloc (.cells #[.int .i64 3, .int .i64 s, .bool on, .string ⟨c.toArray⟩, .int .i64 sh, .int .i64 pr, .int .i64 si, .string ⟨st.toArray⟩, .int .u64 sum, v] 27))) := Lib.hid ((Below.refl _ _).alloc (Nat.le_refl _) _)
  have g0 := cell_regrown (w := w.alloc (.cells #[.int .i64 3, .int .i64 s, .bool on, .string ⟨c.toArray⟩, .int .i64 sh, .int .i64 pr, .int .i64 si, .string ⟨st.toArray⟩, .int .u64 sum, v] 27)) (a := ⟨w.heap.size, 0, none⟩) (v := .int .i64 3) (by simp)
  have g1 := cell_regrown (w := w.alloc (.cells #[.int .i64 3, .int .i64 s, .bool on, .string ⟨c.toArray⟩, .int .i64 sh, .int .i64 pr, .int .i64 si, .string ⟨st.toArray⟩, .int .u64 sum, v] 27)) (a := ⟨w.heap.size, 1, none⟩) (v := .int .i64 s) (by simp)
  have g2 := cell_regrown (w := w.alloc (.cells #[.int .i64 3, .int .i64 s, .bool on, .string ⟨c.toArray⟩, .int .i64 sh, .int .i64 pr, .int .i64 si, .string ⟨st.toArray⟩, .int .u64 sum, v] 27)) (a := ⟨w.heap.size, 2, none⟩) (v := .bool on) (by simp)
  have g3 := cell_regrown (w := w.alloc (.cells #[.int .i64 3, .int .i64 s, .bool on, .string ⟨c.toArray⟩, .int .i64 sh, .int .i64 pr, .int .i64 si, .string ⟨st.toArray⟩, .int .u64 sum, v] 27)) (a := ⟨w.heap.size, 3, none⟩) (v := .string ⟨c.toArray⟩) (by simp)
  have g4 := cell_regrown (w := w.alloc (.cells #[.int .i64 3, .int .i64 s, .bool on, .string ⟨c.toArray⟩, .int .i64 sh, .int .i64 pr, .int .i64 si, .string ⟨st.toArray⟩, .int .u64 sum, v] 27)) (a := ⟨w.heap.size, 4, none⟩) (v := .int .i64 sh) (by simp)
  have g5 := cell_regrown (w := w.alloc (.cells #[.int .i64 3, .int .i64 s, .bool on, .string ⟨c.toArray⟩, .int .i64 sh, .int .i64 pr, .int .i64 si, .string ⟨st.toArray⟩, .int .u64 sum, v] 27)) (a := ⟨w.heap.size, 5, none⟩) (v := .int .i64 pr) (by simp)
  have g6 := cell_regrown (w := w.alloc (.cells #[.int .i64 3, .int .i64 s, .bool on, .string ⟨c.toArray⟩, .int .i64 sh, .int .i64 pr, .int .i64 si, .string ⟨st.toArray⟩, .int .u64 sum, v] 27)) (a := ⟨w.heap.size, 6, none⟩) (v := .int .i64 si) (by simp)
  have g7 := cell_regrown (w := w.alloc (.cells #[.int .i64 3, .int .i64 s, .bool on, .string ⟨c.toArray⟩, .int .i64 sh, .int .i64 pr, .int .i64 si, .string ⟨st.toArray⟩, .int .u64 sum, v] 27)) (a := ⟨w.heap.size, 7, none⟩) (v := .string ⟨st.toArray⟩) (by simp)
  have g8 := cell_regrown (w := w.alloc (.cells #[.int .i64 3, .int .i64 s, .bool on, .string ⟨c.toArray⟩, .int .i64 sh, .int .i64 pr, .int .i64 si, .string ⟨st.toArray⟩, .int .u64 sum, v] 27)) (a := ⟨w.heap.size, 8, none⟩) (v := .int .u64 sum) (by simp)
  have g9 := cell_regrown (w := w.alloc (.cells #[.int .i64 3, .int .i64 s, .bool on, .string ⟨c.toArray⟩, .int .i64 sh, .int .i64 pr, .int .i64 si, .string ⟨st.toArray⟩, .int .u64 sum, v] 27)) (a := ⟨w.heap.size, 9, none⟩) (v := v) (by simp)
  have HK : Hid (∀ d os, Calls Try.prog 71 #[.agg #[.int .i64 3, .int .i64 s, .bool on, .string ⟨c.toArray⟩, .int .i64 sh, .int .i64 pr, .int .i64 si, .string ⟨st.toArray⟩, .int .u64 sum, v]] (Sort.grow (redrawn (w.alloc (.cells #[.int .i64 3, .int .i64 s, .bool on, .string ⟨c.toArray⟩, .int .i64 sh, .int .i64 pr, .int .i64 si, .string ⟨st.toArray⟩, .int .u64 sum, v] 27)) d) os) fun e w'' => e = .returned (.bool (frRest ⟨3, s, on, c, ⟨sh, pr, si, st⟩, sum, t⟩)) ∧ ∃ p : Regrown, w'' = Sort.grow (redrawn (w.alloc (.cells #[.int .i64 3, .int .i64 s, .bool on, .string ⟨c.toArray⟩, .int .i64 sh, .int .i64 pr, .int .i64 si, .string ⟨st.toArray⟩, .int .u64 sum, v] 27)) p.d) p.os) := Lib.hid fun d os =>
    Calls.regrown_of ((maySnapshot_any ((hv.later B0.out).later (below_regrown _ d os)) 3 s on c sh pr si st sum hc hs hsh).mono fun e w' h => ⟨h.1.trans (by unfold frRest; simp), h.2⟩)
  have hix : ∀ w, (Instr.index 77 kindsV (.int .i64 3)).run Try.prog w = .ok (.agg #[.func (.func 71) #[] #[], .func (.func 72) #[] #[], .func (.func 73) #[] #[]]) w := fun _ => by kernel_rfl
  have hfd : ∀ w, (Instr.field 76 (.agg #[.func (.func 71) #[] #[], .func (.func 72) #[] #[], .func (.func 73) #[] #[]]) 0).run Try.prog w = .ok (.func (.func 71) #[] #[]) w := fun _ => by kernel_rfl
  have HKD := Lib.hid kindsF_any
  have hm : frMay ⟨3, s, on, c, ⟨sh, pr, si, st⟩, sum, t⟩ = ((decide (0 ≤ s) && decide (s ≤ 1099511627776)) && frRest ⟨3, s, on, c, ⟨sh, pr, si, st⟩, sum, t⟩) := by unfold frMay; simp
  rw [hm]
  obtain ⟨r, hr⟩ : ∃ r, frRest ⟨3, s, on, c, ⟨sh, pr, si, st⟩, sum, t⟩ = r := ⟨_, rfl⟩
  rw [hr] at HK ⊢
  clear hr hm hv hsh hc hs
  by_cases h0 : 0 ≤ s
  · by_cases h1 : s ≤ 1099511627776
    · rw [show ((decide (0 ≤ s) && decide (s ≤ 1099511627776)) && r) = r by simp [h0, h1]]
      go_enter Try.func14, Try.ntmps14
      go_wp2_with fail
      refine wp_region_quiet_below (by kernel_rfl) (by kernel_rfl) ?_
      repeat (go_big_quiet_step (first | with_reducible exact rgS HI.out _ _ _ | with_reducible exact rgB HKD.out _ _ _ | with_reducible exact HK.out _ _))
      refine wpQuiet_nil ?_
      intro w5 hw5
      have B5 := Lib.hid (below2' B0.out (below_regrownF hw5))
      clear hw5 g0 g1 g2 g3 g4 g5 g6 g7 g8 g9
      go_wp2_with fail
      go_ret
      exact ⟨rfl, B5.out⟩
    · rw [show ((decide (0 ≤ s) && decide (s ≤ 1099511627776)) && r) = false by simp [h1]]
      have t1 : decide (s ≤ 1099511627776) = false := by simpa using h1
      go_enter Try.func14, Try.ntmps14
      go_wp2_with fail
      refine wp_region_quiet_below (by kernel_rfl) (by kernel_rfl) ?_
      repeat (go_big_quiet_step (with_reducible exact rgS HI.out _ _ _))
      refine wpQuiet_nil ?_
      intro w5 hw5
      have B5 := Lib.hid (below2' B0.out (below_regrownF hw5))
      clear hw5 g0 g1 g2 g3 g4 g5 g6 g7 g8 g9
      go_wp2_with fail
      go_ret
      exact ⟨rfl, B5.out⟩
  · rw [show ((decide (0 ≤ s) && decide (s ≤ 1099511627776)) && r) = false by simp [h0]]
    have t1 : decide (0 ≤ s) = false := by simpa using h0
    go_enter Try.func14, Try.ntmps14
    go_wp2_with fail
    refine wp_region_quiet_below (by kernel_rfl) (by kernel_rfl) ?_
    repeat (go_big_quiet_step (with_reducible exact rgS HI.out _ _ _))
    refine wpQuiet_nil ?_
    intro w5 hw5
    have B5 := Lib.hid (below2' B0.out (below_regrownF hw5))
    clear hw5 g0 g1 g2 g3 g4 g5 g6 g7 g8 g9
    go_wp2_with fail
    go_ret
    exact ⟨rfl, B5.out⟩

set_option maxHeartbeats 3200000 in
set_option maxRecDepth 100000 in
theorem frmay_4 {w : World} {v : Value} {t : List Row} (hv : Tab w v t) (hsh : Short t) (s : Int) (on : Bool) (c : List UInt8) (sh pr si : Int) (st : List UInt8) (sum : Nat) (hc : c.length ≤ 4294967296) (hs : st.length ≤ 4294967296) :
    Calls Try.prog 14 #[.agg #[.int .i64 4, .int .i64 s, .bool on, .string ⟨c.toArray⟩, .int .i64 sh, .int .i64 pr, .int .i64 si, .string ⟨st.toArray⟩, .int .u64 sum, v]] w fun e w' => e = .returned (.bool (frMay ⟨4, s, on, c, ⟨sh, pr, si, st⟩, sum, t⟩)) ∧ Below w.heap.size w w' := by
  have e0 : (decide ((1 : Int) ≤ 4) && decide ((4 : Int) ≤ 4)) = true := by decide
  have HI := Lib.hid fun w => isKind_any 4 w
  simp only [e0] at HI
  clear e0
  have B0 : Hid (Below w.heap.size w (w.alloc (.cells #[.int .i64 4, .int .i64 s, .bool on, .string ⟨c.toArray⟩, .int .i64 sh, .int .i64 pr, .int .i64 si, .string ⟨st.toArray⟩, .int .u64 sum, v] 27))) := Lib.hid ((Below.refl _ _).alloc (Nat.le_refl _) _)
  have g0 := cell_regrown (w := w.alloc (.cells #[.int .i64 4, .int .i64 s, .bool on, .string ⟨c.toArray⟩, .int .i64 sh, .int .i64 pr, .int .i64 si, .string ⟨st.toArray⟩, .int .u64 sum, v] 27)) (a := ⟨w.heap.size, 0, none⟩) (v := .int .i64 4) (by simp)
  have g1 := cell_regrown (w := w.alloc (.cells #[.int .i64 4, .int .i64 s, .bool on, .string ⟨c.toArray⟩, .int .i64 sh, .int .i64 pr, .int .i64 si, .string ⟨st.toArray⟩, .int .u64 sum, v] 27)) (a := ⟨w.heap.size, 1, none⟩) (v := .int .i64 s) (by simp)
  have g2 := cell_regrown (w := w.alloc (.cells #[.int .i64 4, .int .i64 s, .bool on, .string ⟨c.toArray⟩, .int .i64 sh, .int .i64 pr, .int .i64 si, .string ⟨st.toArray⟩, .int .u64 sum, v] 27)) (a := ⟨w.heap.size, 2, none⟩) (v := .bool on) (by simp)
  have g3 := cell_regrown (w := w.alloc (.cells #[.int .i64 4, .int .i64 s, .bool on, .string ⟨c.toArray⟩, .int .i64 sh, .int .i64 pr, .int .i64 si, .string ⟨st.toArray⟩, .int .u64 sum, v] 27)) (a := ⟨w.heap.size, 3, none⟩) (v := .string ⟨c.toArray⟩) (by simp)
  have g4 := cell_regrown (w := w.alloc (.cells #[.int .i64 4, .int .i64 s, .bool on, .string ⟨c.toArray⟩, .int .i64 sh, .int .i64 pr, .int .i64 si, .string ⟨st.toArray⟩, .int .u64 sum, v] 27)) (a := ⟨w.heap.size, 4, none⟩) (v := .int .i64 sh) (by simp)
  have g5 := cell_regrown (w := w.alloc (.cells #[.int .i64 4, .int .i64 s, .bool on, .string ⟨c.toArray⟩, .int .i64 sh, .int .i64 pr, .int .i64 si, .string ⟨st.toArray⟩, .int .u64 sum, v] 27)) (a := ⟨w.heap.size, 5, none⟩) (v := .int .i64 pr) (by simp)
  have g6 := cell_regrown (w := w.alloc (.cells #[.int .i64 4, .int .i64 s, .bool on, .string ⟨c.toArray⟩, .int .i64 sh, .int .i64 pr, .int .i64 si, .string ⟨st.toArray⟩, .int .u64 sum, v] 27)) (a := ⟨w.heap.size, 6, none⟩) (v := .int .i64 si) (by simp)
  have g7 := cell_regrown (w := w.alloc (.cells #[.int .i64 4, .int .i64 s, .bool on, .string ⟨c.toArray⟩, .int .i64 sh, .int .i64 pr, .int .i64 si, .string ⟨st.toArray⟩, .int .u64 sum, v] 27)) (a := ⟨w.heap.size, 7, none⟩) (v := .string ⟨st.toArray⟩) (by simp)
  have g8 := cell_regrown (w := w.alloc (.cells #[.int .i64 4, .int .i64 s, .bool on, .string ⟨c.toArray⟩, .int .i64 sh, .int .i64 pr, .int .i64 si, .string ⟨st.toArray⟩, .int .u64 sum, v] 27)) (a := ⟨w.heap.size, 8, none⟩) (v := .int .u64 sum) (by simp)
  have g9 := cell_regrown (w := w.alloc (.cells #[.int .i64 4, .int .i64 s, .bool on, .string ⟨c.toArray⟩, .int .i64 sh, .int .i64 pr, .int .i64 si, .string ⟨st.toArray⟩, .int .u64 sum, v] 27)) (a := ⟨w.heap.size, 9, none⟩) (v := v) (by simp)
  have HK : Hid (∀ d os, Calls Try.prog 74 #[.agg #[.int .i64 4, .int .i64 s, .bool on, .string ⟨c.toArray⟩, .int .i64 sh, .int .i64 pr, .int .i64 si, .string ⟨st.toArray⟩, .int .u64 sum, v]] (Sort.grow (redrawn (w.alloc (.cells #[.int .i64 4, .int .i64 s, .bool on, .string ⟨c.toArray⟩, .int .i64 sh, .int .i64 pr, .int .i64 si, .string ⟨st.toArray⟩, .int .u64 sum, v] 27)) d) os) fun e w'' => e = .returned (.bool (frRest ⟨4, s, on, c, ⟨sh, pr, si, st⟩, sum, t⟩)) ∧ ∃ p : Regrown, w'' = Sort.grow (redrawn (w.alloc (.cells #[.int .i64 4, .int .i64 s, .bool on, .string ⟨c.toArray⟩, .int .i64 sh, .int .i64 pr, .int .i64 si, .string ⟨st.toArray⟩, .int .u64 sum, v] 27)) p.d) p.os) := Lib.hid fun d os =>
    Calls.regrown_of ((mayResync_any ((hv.later B0.out).later (below_regrown _ d os)) 4 s on c sh pr si st sum hc hs).mono fun e w' h => ⟨h.1.trans (by unfold frRest; simp), h.2⟩)
  have hix : ∀ w, (Instr.index 77 kindsV (.int .i64 4)).run Try.prog w = .ok (.agg #[.func (.func 74) #[] #[], .func (.func 75) #[] #[], .func (.func 76) #[] #[]]) w := fun _ => by kernel_rfl
  have hfd : ∀ w, (Instr.field 76 (.agg #[.func (.func 74) #[] #[], .func (.func 75) #[] #[], .func (.func 76) #[] #[]]) 0).run Try.prog w = .ok (.func (.func 74) #[] #[]) w := fun _ => by kernel_rfl
  have HKD := Lib.hid kindsF_any
  have hm : frMay ⟨4, s, on, c, ⟨sh, pr, si, st⟩, sum, t⟩ = ((decide (0 ≤ s) && decide (s ≤ 1099511627776)) && frRest ⟨4, s, on, c, ⟨sh, pr, si, st⟩, sum, t⟩) := by unfold frMay; simp
  rw [hm]
  obtain ⟨r, hr⟩ : ∃ r, frRest ⟨4, s, on, c, ⟨sh, pr, si, st⟩, sum, t⟩ = r := ⟨_, rfl⟩
  rw [hr] at HK ⊢
  clear hr hm hv hsh hc hs
  by_cases h0 : 0 ≤ s
  · by_cases h1 : s ≤ 1099511627776
    · rw [show ((decide (0 ≤ s) && decide (s ≤ 1099511627776)) && r) = r by simp [h0, h1]]
      go_enter Try.func14, Try.ntmps14
      go_wp2_with fail
      refine wp_region_quiet_below (by kernel_rfl) (by kernel_rfl) ?_
      repeat (go_big_quiet_step (first | with_reducible exact rgS HI.out _ _ _ | with_reducible exact rgB HKD.out _ _ _ | with_reducible exact HK.out _ _))
      refine wpQuiet_nil ?_
      intro w5 hw5
      have B5 := Lib.hid (below2' B0.out (below_regrownF hw5))
      clear hw5 g0 g1 g2 g3 g4 g5 g6 g7 g8 g9
      go_wp2_with fail
      go_ret
      exact ⟨rfl, B5.out⟩
    · rw [show ((decide (0 ≤ s) && decide (s ≤ 1099511627776)) && r) = false by simp [h1]]
      have t1 : decide (s ≤ 1099511627776) = false := by simpa using h1
      go_enter Try.func14, Try.ntmps14
      go_wp2_with fail
      refine wp_region_quiet_below (by kernel_rfl) (by kernel_rfl) ?_
      repeat (go_big_quiet_step (with_reducible exact rgS HI.out _ _ _))
      refine wpQuiet_nil ?_
      intro w5 hw5
      have B5 := Lib.hid (below2' B0.out (below_regrownF hw5))
      clear hw5 g0 g1 g2 g3 g4 g5 g6 g7 g8 g9
      go_wp2_with fail
      go_ret
      exact ⟨rfl, B5.out⟩
  · rw [show ((decide (0 ≤ s) && decide (s ≤ 1099511627776)) && r) = false by simp [h0]]
    have t1 : decide (0 ≤ s) = false := by simpa using h0
    go_enter Try.func14, Try.ntmps14
    go_wp2_with fail
    refine wp_region_quiet_below (by kernel_rfl) (by kernel_rfl) ?_
    repeat (go_big_quiet_step (with_reducible exact rgS HI.out _ _ _))
    refine wpQuiet_nil ?_
    intro w5 hw5
    have B5 := Lib.hid (below2' B0.out (below_regrownF hw5))
    clear hw5 g0 g1 g2 g3 g4 g5 g6 g7 g8 g9
    go_wp2_with fail
    go_ret
    exact ⟨rfl, B5.out⟩

theorem frmay_any {w : World} {v : Value} {t : List Row} (hv : Tab w v t) (hsh : Short t) (k s : Int) (on : Bool) (c : List UInt8) (sh pr si : Int) (st : List UInt8) (sum : Nat) (hc : c.length ≤ 4294967296) (hs : st.length ≤ 4294967296) :
    Calls Try.prog 14 #[.agg #[.int .i64 k, .int .i64 s, .bool on, .string ⟨c.toArray⟩, .int .i64 sh, .int .i64 pr, .int .i64 si, .string ⟨st.toArray⟩, .int .u64 sum, v]] w fun e w' => e = .returned (.bool (frMay ⟨k, s, on, c, ⟨sh, pr, si, st⟩, sum, t⟩)) ∧ Below w.heap.size w w' := by
  by_cases h : k < 1 ∨ 4 < k
  · have : frMay ⟨k, s, on, c, ⟨sh, pr, si, st⟩, sum, t⟩ = false := by
      unfold frMay
      rcases h with h | h
      · rw [show decide (1 ≤ k) = false by simp; omega]; rfl
      · rw [show decide (k ≤ 4) = false by simp; omega]; simp
    rw [this]
    exact frmay_out k s on c sh pr si st sum v h w
  · have hk : k = 1 ∨ k = 2 ∨ k = 3 ∨ k = 4 := by omega
    rcases hk with rfl | rfl | rfl | rfl
    · exact frmay_1 hv hsh s on c sh pr si st sum hc hs
    · exact frmay_2 hv hsh s on c sh pr si st sum hc hs
    · exact frmay_3 hv hsh s on c sh pr si st sum hc hs
    · exact frmay_4 hv hsh s on c sh pr si st sum hc hs

end Go.Proofs.Ytohfhphiofobcaa

end

section

/-
  LAYER 6, THE CODE: the bytes of a Delta, a Snapshot, a Resync.
-/
namespace Go.Proofs.Ytohfhphiofobcaa
open Go.RowKit

attribute [local go_sem] ByteArray.mk_append_mk

theorem idPut_len {c : List UInt8} (h : idIs c = true) : idPut c = (vput c.length ++ c, true) ∧ (vput c.length ++ c).length ≤ 30 := by
  have h2 := (idIs_parts h).2.1
  refine ⟨by unfold idPut; rw [if_pos h], ?_⟩
  have := vput_len_le c.length
  rw [List.length_append]
  omega

set_option maxHeartbeats 800000 in
set_option maxRecDepth 100000 in
theorem putDelta_off (k s : Int) (c : List UInt8) (sh pr si : Int) (st : List UInt8) (sum : Nat) (v : Value) (hc : idIs c = true) (w : World) :
    Calls Try.prog 66 #[.agg #[.int .i64 k, .int .i64 s, .bool false, .string ⟨c.toArray⟩, .int .i64 sh, .int .i64 pr, .int .i64 si, .string ⟨st.toArray⟩, .int .u64 sum, v]] w fun e w' => e = .returned (.string ⟨(0 :: (idPut c).1).toArray⟩) ∧ Below w.heap.size w w' := by
  have hl := (idIs_parts hc).2.1
  obtain ⟨h1, h2⟩ := idPut_len hc
  rw [h1]
  obtain ⟨t, ht⟩ : ∃ t, vput c.length ++ c = t := ⟨_, rfl⟩
  rw [ht] at h1 h2 ⊢
  have H1 := Lib.hid h1
  have hl' : c.length ≤ 4294967296 := by omega
  have B0 : Hid (Below w.heap.size w (w.alloc (.cells #[.int .i64 k, .int .i64 s, .bool false, .string ⟨c.toArray⟩, .int .i64 sh, .int .i64 pr, .int .i64 si, .string ⟨st.toArray⟩, .int .u64 sum, v] 27))) := Lib.hid ((Below.refl _ _).alloc (Nat.le_refl _) _)
  clear hc ht h1
  go_enter Try.func66, Try.ntmps66
  go_wp2_with fail
  refine (idput_eq c hl' H1 _).mono ?_
  rintro e w1 ⟨rfl, b⟩
  have B1 := Lib.hid (below2' B0.out b)
  obtain ⟨hcl, _⟩ := bcellF b
  clear b
  go_wp2_with fail
  go_ret
  exact ⟨rfl, B1.out⟩

set_option maxHeartbeats 800000 in
set_option maxRecDepth 100000 in
theorem putDelta_on (k s : Int) (c : List UInt8) (sh pr si : Int) (st : List UInt8) (sum : Nat) (v : Value) (hc : idIs c = true) (hv : vaMay ⟨sh, pr, si, st⟩ = true) (w : World) :
    Calls Try.prog 66 #[.agg #[.int .i64 k, .int .i64 s, .bool true, .string ⟨c.toArray⟩, .int .i64 sh, .int .i64 pr, .int .i64 si, .string ⟨st.toArray⟩, .int .u64 sum, v]] w fun e w' => e = .returned (.string ⟨(1 :: ((idPut c).1 ++ vaBytes ⟨sh, pr, si, st⟩)).toArray⟩) ∧ Below w.heap.size w w' := by
  have hl := (idIs_parts hc).2.1
  obtain ⟨h1, h2⟩ := idPut_len hc
  rw [h1]
  obtain ⟨t, ht⟩ : ∃ t, vput c.length ++ c = t := ⟨_, rfl⟩
  rw [ht] at h1 h2 ⊢
  have H1 := Lib.hid h1
  have hl' : c.length ≤ 4294967296 := by omega
  have h3 : (vaBytes ⟨sh, pr, si, st⟩).length ≤ 100 := by
    obtain ⟨_, _, _, _, g5, g6, g7⟩ := vaMay_parts hv
    unfold vaBytes
    have a1 := vput_len_le si.toNat
    have a2 := vput_len_le st.length
    simp only [List.length_append, List.length_cons, List.length_nil] at g7 ⊢
    omega
  have HV := Lib.hid (vaput_yes sh pr si st hv)
  obtain ⟨u, hu⟩ : ∃ u, vaBytes ⟨sh, pr, si, st⟩ = u := ⟨_, rfl⟩
  rw [hu] at HV h3 ⊢
  have B0 : Hid (Below w.heap.size w (w.alloc (.cells #[.int .i64 k, .int .i64 s, .bool true, .string ⟨c.toArray⟩, .int .i64 sh, .int .i64 pr, .int .i64 si, .string ⟨st.toArray⟩, .int .u64 sum, v] 27))) := Lib.hid ((Below.refl _ _).alloc (Nat.le_refl _) _)
  clear hc ht h1 hv hu
  go_enter Try.func66, Try.ntmps66
  go_wp2_with fail
  refine (idput_eq c hl' H1 _).mono ?_
  rintro e w1 ⟨rfl, b⟩
  have B1 := Lib.hid (below2' B0.out b)
  obtain ⟨hcl, _⟩ := bcellF b
  clear b
  go_wp2_with fail
  refine (HV.out _).mono ?_
  rintro e w2 ⟨rfl, b⟩
  have B2 := Lib.hid (below2' B1.out b)
  clear b
  go_wp2_with fail
  go_ret
  exact ⟨rfl, B2.out⟩

set_option maxHeartbeats 800000 in
set_option maxRecDepth 100000 in
theorem putSnapshot_any {w : World} {v : Value} {t : List Row} (hv : Tab w v t) (hsh : Short t) (k s : Int) (on : Bool) (c : List UInt8) (sh pr si : Int) (st : List UInt8) (sum : Nat) :
    Calls Try.prog 72 #[.agg #[.int .i64 k, .int .i64 s, .bool on, .string ⟨c.toArray⟩, .int .i64 sh, .int .i64 pr, .int .i64 si, .string ⟨st.toArray⟩, .int .u64 sum, v]] w fun e w' => e = .returned (.string ⟨((diPut t).1).toArray⟩) ∧ Below w.heap.size w w' := by
  have B0 : Hid (Below w.heap.size w (w.alloc (.cells #[.int .i64 k, .int .i64 s, .bool on, .string ⟨c.toArray⟩, .int .i64 sh, .int .i64 pr, .int .i64 si, .string ⟨st.toArray⟩, .int .u64 sum, v] 27))) := Lib.hid ((Below.refl _ _).alloc (Nat.le_refl _) _)
  have HV := Lib.hid (hv.later B0.out)
  obtain ⟨l, r, hr⟩ : ∃ l r, diPut t = (l, r) := ⟨_, _, rfl⟩
  rw [hr]
  have HR := Lib.hid hr
  have HS := Lib.hid hsh
  clear hr hv hsh
  go_enter Try.func72, Try.ntmps72
  go_wp2_with fail
  refine (diput_eq HV.out HS.out HR).mono ?_
  rintro e w1 ⟨rfl, b⟩
  have B1 := Lib.hid (below2' B0.out b)
  clear b
  go_wp2_with fail
  go_ret
  exact ⟨rfl, B1.out⟩

set_option maxHeartbeats 800000 in
set_option maxRecDepth 100000 in
theorem putResync_any (k s : Int) (on : Bool) (c : List UInt8) (sh pr si : Int) (st : List UInt8) (sum : Nat) (v : Value) (w : World) :
    Calls Try.prog 75 #[.agg #[.int .i64 k, .int .i64 s, .bool on, .string ⟨c.toArray⟩, .int .i64 sh, .int .i64 pr, .int .i64 si, .string ⟨st.toArray⟩, .int .u64 sum, v]] w fun e w' => e = .returned (.string ⟨([] : List UInt8).toArray⟩) ∧ Below w.heap.size w w' := by
  go_enter Try.func75, Try.ntmps75
  go_wp2_with fail
  go_ret
  exact ⟨rfl, (Below.refl _ _).alloc (Nat.le_refl _) _⟩

end Go.Proofs.Ytohfhphiofobcaa

end
