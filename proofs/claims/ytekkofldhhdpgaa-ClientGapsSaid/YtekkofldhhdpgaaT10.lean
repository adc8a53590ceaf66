/-
  TEXTS OF THE PROOF, one behind the other: FraMay.
-/
import Derived.Test.YtekkofldhhdpgaaT09
import Derived.Deep.RegionHeld3
import Derived.Laws.EntriesVeiled

set_option linter.unusedVariables false

/-
  LAYER 6, THE CODE: whether a frame may be.
-/
namespace Go.Proofs.Ytekkofldhhdpgaa
open Go.RowKit

theorem below_regrownF {w w' : World} (h : ∃ p : Regrown, w' = Sort.grow (redrawn w p.d) p.os) : Below w.heap.size w w' := by
  obtain ⟨p, rfl⟩ := h
  exact below_regrown _ _ _

set_option maxHeartbeats 400000 in
theorem isKind_any (k : Int) (w : World) : Calls Try.prog 43 #[.int .i64 k] w fun e w' => e = .returned (.bool (decide (1 ≤ k) && decide (k ≤ 4))) ∧ w = w' := by
  by_cases h1 : 1 ≤ k
  · by_cases h4 : k ≤ 4
    · have e : (decide (1 ≤ k) && decide (k ≤ 4)) = true := by simp [h1, h4]
      rw [e]
      go_enter Try.func43, Try.ntmps43
      go_wp2_with fail
      go_ret
      exact ⟨rfl, rfl⟩
    · have e : (decide (1 ≤ k) && decide (k ≤ 4)) = false := by simp [h4]
      rw [e]
      go_enter Try.func43, Try.ntmps43
      go_wp2_with fail
      go_ret
      exact ⟨rfl, rfl⟩
  · have e : (decide (1 ≤ k) && decide (k ≤ 4)) = false := by simp [h1]
    rw [e]
    go_enter Try.func43, Try.ntmps43
    go_wp2_with fail
    go_ret
    exact ⟨rfl, rfl⟩

set_option maxHeartbeats 800000 in
set_option maxRecDepth 100000 in
theorem change_any (k s : Int) (on : Bool) (c : List UInt8) (sh pr si : Int) (st : List UInt8) (sum : Nat) (v : Value) (w : World) :
    Calls Try.prog 85 #[.agg #[.int .i64 k, .int .i64 s, .bool on, .string ⟨c.toArray⟩, .int .i64 sh, .int .i64 pr, .int .i64 si, .string ⟨st.toArray⟩, .int .u64 sum, v]] w fun e w' => e = .returned (.agg #[.string ⟨c.toArray⟩, .bool on, .int .i64 sh, .int .i64 pr, .int .i64 si, .string ⟨st.toArray⟩]) ∧ Below w.heap.size w w' := by
  go_enter Try.func85, Try.ntmps85
  go_wp2_with fail
  refine bodyPost_ret (v := .agg #[.string ⟨c.toArray⟩, .bool on, .int .i64 sh, .int .i64 pr, .int .i64 si, .string ⟨st.toArray⟩]) (by simp [results, Try.results85, go_sem]) rfl ⟨rfl, ?_⟩
  repeat (first | exact Below.refl _ _ | refine Below.setCell ?_ (by first | (simp; done) | (simp; omega)) _ | refine Below.alloc ?_ (by first | (simp; done) | (simp; omega)) _ | refine Below.drew ?_)

/-- The kinds, five of three functions each. -/
abbrev kindsV : Value := .agg #[.nilFunc, .nilFunc, .nilFunc, .func (.func 61) #[] #[], .func (.func 62) #[] #[], .func (.func 63) #[] #[], .func (.func 64) #[] #[], .func (.func 65) #[] #[], .func (.func 66) #[] #[], .func (.func 67) #[] #[], .func (.func 68) #[] #[], .func (.func 69) #[] #[], .func (.func 70) #[] #[], .func (.func 71) #[] #[], .func (.func 72) #[] #[]]

set_option maxHeartbeats 800000 in
set_option maxRecDepth 100000 in
theorem kindsF_any  (w : World) :
    Calls Try.prog 44 #[] w fun e w' => e = .returned (kindsV) ∧ Below w.heap.size w w' := by
  go_enter Try.func44, Try.ntmps44
  go_wp2_with fail
  refine bodyPost_ret (v := kindsV) (by simp [results, Try.results44, go_sem]) rfl ⟨rfl, ?_⟩
  repeat (first | exact Below.refl _ _ | refine Below.setCell ?_ (by first | (simp; done) | (simp; omega)) _ | refine Below.alloc ?_ (by first | (simp; done) | (simp; omega)) _ | refine Below.drew ?_)

theorem chg_zero (c : List UInt8) (on : Bool) (sh pr si : Int) (st : List UInt8) : cSame ⟨c, on, sh, pr, si, st⟩ ⟨[], false, 0, 0, 0, []⟩ = (!on && (c == [] && vSame ⟨sh, pr, si, st⟩ Val.zero)) := by
  unfold cSame Val.zero
  cases on <;> cases c <;> simp

theorem bcellF {W w1 : World} (hb : Below W.heap.size W w1) : (∀ b o, b < W.heap.size → w1.cell? ⟨b, o, none⟩ = W.cell? ⟨b, o, none⟩) ∧ (∀ b o, b < W.heap.size → w1.frozen? ⟨b, o, none⟩ = W.frozen? ⟨b, o, none⟩) :=
  ⟨fun b o h => hb.cell (p := ⟨b, o, none⟩) h, fun b o h => hb.frozen (p := ⟨b, o, none⟩) h⟩

set_option maxHeartbeats 1600000 in
set_option maxRecDepth 100000 in
theorem mayDelta_any {w : World} {v : Value} {t : List Row} (hv : Tab w v t) (k s : Int) (on : Bool) (c : List UInt8) (sh pr si : Int) (st : List UInt8) (sum : Nat) (hc : c.length ≤ 4294967296) (hs : st.length ≤ 4294967296) :
    Calls Try.prog 61 #[.agg #[.int .i64 k, .int .i64 s, .bool on, .string ⟨c.toArray⟩, .int .i64 sh, .int .i64 pr, .int .i64 si, .string ⟨st.toArray⟩, .int .u64 sum, v]] w fun e w' => e = .returned (.bool (decide (sum = 0) && (decide (t.length = 0) && (idIs c && (if on = true then vaMay ⟨sh, pr, si, st⟩ else vSame ⟨sh, pr, si, st⟩ Val.zero))))) ∧ Below w.heap.size w w' := by
  obtain ⟨a, cap, rfl, _⟩ := hv.open'
  clear hv
  have B0 : Hid (Below w.heap.size w (w.alloc (.cells #[.int .i64 k, .int .i64 s, .bool on, .string ⟨c.toArray⟩, .int .i64 sh, .int .i64 pr, .int .i64 si, .string ⟨st.toArray⟩, .int .u64 sum, .slice a t.length cap] 34))) := Lib.hid ((Below.refl _ _).alloc (Nat.le_refl _) _)
  by_cases h1 : sum = 0
  · subst h1
    by_cases h2 : t.length = 0
    · have e2 : ((t.length : Int) != 0) = false := by simp [h2]
      have H2 := Lib.hid h2
      clear h2
      cases hi : idIs c with
      | false =>
        have HI := Lib.hid hi
        rw [show (decide ((0 : Nat) = 0) && (decide (t.length = 0) && (false && (if on = true then vaMay ⟨sh, pr, si, st⟩ else vSame ⟨sh, pr, si, st⟩ Val.zero)))) = false by simp]
        clear hi
        go_enter Try.func61, Try.ntmps61
        go_wp2_with fail
        refine (is_eq c hc HI _).mono ?_
        rintro e w1 ⟨rfl, b⟩
        have B1 := Lib.hid (below2' B0.out b)
        clear b
        go_wp2_with fail
        go_ret
        exact ⟨rfl, B1.out⟩
      | true =>
        have HI := Lib.hid hi
        clear hi
        cases on with
        | false =>
          rw [show (decide ((0 : Nat) = 0) && (decide (t.length = 0) && (true && (if false = true then vaMay ⟨sh, pr, si, st⟩ else vSame ⟨sh, pr, si, st⟩ Val.zero)))) = vSame ⟨sh, pr, si, st⟩ Val.zero by simp [H2.out]]
          have hq : ∀ w, (binOp .eql 31 (.agg #[.int .i64 sh, .int .i64 pr, .int .i64 si, .string ⟨st.toArray⟩]) (.agg #[.int .i64 0, .int .i64 0, .int .i64 0, .string ⟨#[]⟩])).run Try.prog w = .ok (.bool (vSame ⟨sh, pr, si, st⟩ Val.zero)) w := fun w => val_eql5 sh pr si 0 0 0 st [] w
          obtain ⟨r, hr⟩ : ∃ r, vSame ⟨sh, pr, si, st⟩ Val.zero = r := ⟨_, rfl⟩
          rw [hr]
          simp only [hr] at hq
          clear hr
          go_enter Try.func61, Try.ntmps61
          go_wp2_with fail
          refine (is_eq c hc HI _).mono ?_
          rintro e w1 ⟨rfl, b⟩
          have B1 := Lib.hid (below2' B0.out b)
          obtain ⟨hcl, _⟩ := bcellF b
          clear b
          go_wp2_with fail
          go_ret
          exact ⟨rfl, B1.out⟩
        | true =>
          rw [show (decide ((0 : Nat) = 0) && (decide (t.length = 0) && (true && (if true = true then vaMay ⟨sh, pr, si, st⟩ else vSame ⟨sh, pr, si, st⟩ Val.zero)))) = vaMay ⟨sh, pr, si, st⟩ by simp [H2.out]]
          obtain ⟨r, hr⟩ : ∃ r, vaMay ⟨sh, pr, si, st⟩ = r := ⟨_, rfl⟩
          rw [hr]
          have HM := Lib.hid hr
          clear hr
          go_enter Try.func61, Try.ntmps61
          go_wp2_with fail
          refine (is_eq c hc HI _).mono ?_
          rintro e w1 ⟨rfl, b⟩
          have B1 := Lib.hid (below2' B0.out b)
          obtain ⟨hcl, _⟩ := bcellF b
          clear b
          go_wp2_with fail
          refine (may_eq sh pr si st hs HM _).mono ?_
          rintro e w2 ⟨rfl, b⟩
          have B2 := Lib.hid (below2' B1.out b)
          clear b
          go_wp2_with fail
          go_ret
          exact ⟨rfl, B2.out⟩
    · have e2 : ((t.length : Int) != 0) = true := by rw [bne_iff_ne]; omega
      rw [show (decide ((0 : Nat) = 0) && (decide (t.length = 0) && (idIs c && (if on = true then vaMay ⟨sh, pr, si, st⟩ else vSame ⟨sh, pr, si, st⟩ Val.zero)))) = false by simp [h2]]
      clear h2
      go_enter Try.func61, Try.ntmps61
      go_wp2_with fail
      go_ret
      exact ⟨rfl, B0.out⟩
  · have e1 : ((sum : Int) != 0) = true := by rw [bne_iff_ne]; omega
    rw [show (decide (sum = 0) && (decide (t.length = 0) && (idIs c && (if on = true then vaMay ⟨sh, pr, si, st⟩ else vSame ⟨sh, pr, si, st⟩ Val.zero)))) = false by simp [h1]]
    clear h1
    go_enter Try.func61, Try.ntmps61
    go_wp2_with fail
    go_ret
    exact ⟨rfl, B0.out⟩

set_option maxHeartbeats 1600000 in
set_option maxRecDepth 100000 in
theorem mayDigest_any {w : World} {v : Value} {t : List Row} (hv : Tab w v t) (k s : Int) (on : Bool) (c : List UInt8) (sh pr si : Int) (st : List UInt8) (sum : Nat) (hc : c.length ≤ 4294967296) (hs : st.length ≤ 4294967296) :
    Calls Try.prog 64 #[.agg #[.int .i64 k, .int .i64 s, .bool on, .string ⟨c.toArray⟩, .int .i64 sh, .int .i64 pr, .int .i64 si, .string ⟨st.toArray⟩, .int .u64 sum, v]] w fun e w' => e = .returned (.bool ((!on && (c == [] && vSame ⟨sh, pr, si, st⟩ Val.zero)) && decide (t.length = 0))) ∧ Below w.heap.size w w' := by
  have HV := Lib.hid hv
  obtain ⟨a, cap, rfl, _⟩ := hv.open'
  clear hv
  have B0 : Hid (Below w.heap.size w (w.alloc (.cells #[.int .i64 k, .int .i64 s, .bool on, .string ⟨c.toArray⟩, .int .i64 sh, .int .i64 pr, .int .i64 si, .string ⟨st.toArray⟩, .int .u64 sum, .slice a t.length cap] 34))) := Lib.hid ((Below.refl _ _).alloc (Nat.le_refl _) _)
  have hq : ∀ w, (binOp .eql 45 (.agg #[.string ⟨c.toArray⟩, .bool on, .int .i64 sh, .int .i64 pr, .int .i64 si, .string ⟨st.toArray⟩]) (.agg #[.string ⟨#[]⟩, .bool false, .int .i64 0, .int .i64 0, .int .i64 0, .string ⟨#[]⟩])).run Try.prog w = .ok (.bool (!on && (c == [] && vSame ⟨sh, pr, si, st⟩ Val.zero))) w := fun w => by
    have := chg_eql6 c [] on false sh pr si 0 0 0 st [] w
    rw [chg_zero] at this
    exact this
  have hgd : Try.prog.eqGuardType Try.prog.depth 45 = false := by kernel_rfl
  obtain ⟨r, hr⟩ : ∃ r, (!on && (c == [] && vSame ⟨sh, pr, si, st⟩ Val.zero)) = r := ⟨_, rfl⟩
  rw [hr]
  simp only [hr] at hq
  clear hr
  cases r with
  | false =>
    rw [Bool.false_and]
    go_enter Try.func64, Try.ntmps64
    go_wp2_with fail
    refine (change_any k s on c sh pr si st sum _ _).mono ?_
    rintro e w1 ⟨rfl, b⟩
    have B1 := Lib.hid (below2' B0.out b)
    obtain ⟨hcl, _⟩ := bcellF b
    clear b
    go_wp2_with fail
    go_ret
    exact ⟨rfl, B1.out⟩
  | true =>
    rw [Bool.true_and]
    by_cases hzlen : t.length = 0
    · have elen : ((t.length : Int) == 0) = true := by simp [hzlen]
      rw [show decide (t.length = 0) = true by simp [hzlen]]
      clear hzlen
      go_enter Try.func64, Try.ntmps64
      go_wp2_with fail
      refine (change_any k s on c sh pr si st sum _ _).mono ?_
      rintro e w1 ⟨rfl, b⟩
      have B1 := Lib.hid (below2' B0.out b)
      obtain ⟨hcl, _⟩ := bcellF b
      clear b
      go_wp2_with fail
      go_ret
      exact ⟨rfl, B1.out⟩
    · have elen : ((t.length : Int) == 0) = false := by rw [beq_eq_false_iff_ne]; omega
      rw [show decide (t.length = 0) = false by simp [hzlen]]
      clear hzlen
      go_enter Try.func64, Try.ntmps64
      go_wp2_with fail
      refine (change_any k s on c sh pr si st sum _ _).mono ?_
      rintro e w1 ⟨rfl, b⟩
      have B1 := Lib.hid (below2' B0.out b)
      obtain ⟨hcl, _⟩ := bcellF b
      clear b
      go_wp2_with fail
      go_ret
      exact ⟨rfl, B1.out⟩

set_option maxHeartbeats 1600000 in
set_option maxRecDepth 100000 in
theorem maySnapshot_any {w : World} {v : Value} {t : List Row} (hv : Tab w v t) (k s : Int) (on : Bool) (c : List UInt8) (sh pr si : Int) (st : List UInt8) (sum : Nat) (hc : c.length ≤ 4294967296) (hs : st.length ≤ 4294967296) (hsh : Short t) :
    Calls Try.prog 67 #[.agg #[.int .i64 k, .int .i64 s, .bool on, .string ⟨c.toArray⟩, .int .i64 sh, .int .i64 pr, .int .i64 si, .string ⟨st.toArray⟩, .int .u64 sum, v]] w fun e w' => e = .returned (.bool ((!on && (c == [] && vSame ⟨sh, pr, si, st⟩ Val.zero)) && (decide (sum = 0) && diMay t))) ∧ Below w.heap.size w w' := by
  have HV := Lib.hid hv
  obtain ⟨a, cap, rfl, _⟩ := hv.open'
  clear hv
  have B0 : Hid (Below w.heap.size w (w.alloc (.cells #[.int .i64 k, .int .i64 s, .bool on, .string ⟨c.toArray⟩, .int .i64 sh, .int .i64 pr, .int .i64 si, .string ⟨st.toArray⟩, .int .u64 sum, .slice a t.length cap] 34))) := Lib.hid ((Below.refl _ _).alloc (Nat.le_refl _) _)
  have hq : ∀ w, (binOp .eql 45 (.agg #[.string ⟨c.toArray⟩, .bool on, .int .i64 sh, .int .i64 pr, .int .i64 si, .string ⟨st.toArray⟩]) (.agg #[.string ⟨#[]⟩, .bool false, .int .i64 0, .int .i64 0, .int .i64 0, .string ⟨#[]⟩])).run Try.prog w = .ok (.bool (!on && (c == [] && vSame ⟨sh, pr, si, st⟩ Val.zero))) w := fun w => by
    have := chg_eql6 c [] on false sh pr si 0 0 0 st [] w
    rw [chg_zero] at this
    exact this
  have hgd : Try.prog.eqGuardType Try.prog.depth 45 = false := by kernel_rfl
  obtain ⟨r, hr⟩ : ∃ r, (!on && (c == [] && vSame ⟨sh, pr, si, st⟩ Val.zero)) = r := ⟨_, rfl⟩
  rw [hr]
  simp only [hr] at hq
  clear hr
  cases r with
  | false =>
    rw [Bool.false_and]
    go_enter Try.func67, Try.ntmps67
    go_wp2_with fail
    refine (change_any k s on c sh pr si st sum _ _).mono ?_
    rintro e w1 ⟨rfl, b⟩
    have B1 := Lib.hid (below2' B0.out b)
    obtain ⟨hcl, _⟩ := bcellF b
    clear b
    go_wp2_with fail
    go_ret
    exact ⟨rfl, B1.out⟩
  | true =>
    rw [Bool.true_and]
    by_cases hzsum : sum = 0
    · have esum : ((sum : Int) == 0) = true := by simp [hzsum]
      rw [show decide (sum = 0) = true by simp [hzsum], Bool.true_and]
      clear hzsum
      obtain ⟨r2, hr2⟩ : ∃ r2, diMay t = r2 := ⟨_, rfl⟩
      rw [hr2]
      have HM := Lib.hid hr2
      clear hr2
      go_enter Try.func67, Try.ntmps67
      go_wp2_with fail
      refine (change_any k s on c sh pr si st sum _ _).mono ?_
      rintro e w1 ⟨rfl, b⟩
      have B1 := Lib.hid (below2' B0.out b)
      obtain ⟨hcl, _⟩ := bcellF b
      clear b
      go_wp2_with fail
      refine (dimay_eq (HV.out.later B1.out) hsh HM).mono ?_
      rintro e w2 ⟨rfl, b⟩
      have B2 := Lib.hid (below2' B1.out b)
      clear b
      go_wp2_with fail
      go_ret
      exact ⟨rfl, B2.out⟩
    · have esum : ((sum : Int) == 0) = false := by rw [beq_eq_false_iff_ne]; omega
      rw [show decide (sum = 0) = false by simp [hzsum], Bool.false_and]
      clear hzsum
      go_enter Try.func67, Try.ntmps67
      go_wp2_with fail
      refine (change_any k s on c sh pr si st sum _ _).mono ?_
      rintro e w1 ⟨rfl, b⟩
      have B1 := Lib.hid (below2' B0.out b)
      obtain ⟨hcl, _⟩ := bcellF b
      clear b
      go_wp2_with fail
      go_ret
      exact ⟨rfl, B1.out⟩

set_option maxHeartbeats 1600000 in
set_option maxRecDepth 100000 in
theorem mayResync_any {w : World} {v : Value} {t : List Row} (hv : Tab w v t) (k s : Int) (on : Bool) (c : List UInt8) (sh pr si : Int) (st : List UInt8) (sum : Nat) (hc : c.length ≤ 4294967296) (hs : st.length ≤ 4294967296) :
    Calls Try.prog 70 #[.agg #[.int .i64 k, .int .i64 s, .bool on, .string ⟨c.toArray⟩, .int .i64 sh, .int .i64 pr, .int .i64 si, .string ⟨st.toArray⟩, .int .u64 sum, v]] w fun e w' => e = .returned (.bool ((!on && (c == [] && vSame ⟨sh, pr, si, st⟩ Val.zero)) && (decide (sum = 0) && decide (t.length = 0)))) ∧ Below w.heap.size w w' := by
  have HV := Lib.hid hv
  obtain ⟨a, cap, rfl, _⟩ := hv.open'
  clear hv
  have B0 : Hid (Below w.heap.size w (w.alloc (.cells #[.int .i64 k, .int .i64 s, .bool on, .string ⟨c.toArray⟩, .int .i64 sh, .int .i64 pr, .int .i64 si, .string ⟨st.toArray⟩, .int .u64 sum, .slice a t.length cap] 34))) := Lib.hid ((Below.refl _ _).alloc (Nat.le_refl _) _)
  have hq : ∀ w, (binOp .eql 45 (.agg #[.string ⟨c.toArray⟩, .bool on, .int .i64 sh, .int .i64 pr, .int .i64 si, .string ⟨st.toArray⟩]) (.agg #[.string ⟨#[]⟩, .bool false, .int .i64 0, .int .i64 0, .int .i64 0, .string ⟨#[]⟩])).run Try.prog w = .ok (.bool (!on && (c == [] && vSame ⟨sh, pr, si, st⟩ Val.zero))) w := fun w => by
    have := chg_eql6 c [] on false sh pr si 0 0 0 st [] w
    rw [chg_zero] at this
    exact this
  have hgd : Try.prog.eqGuardType Try.prog.depth 45 = false := by kernel_rfl
  obtain ⟨r, hr⟩ : ∃ r, (!on && (c == [] && vSame ⟨sh, pr, si, st⟩ Val.zero)) = r := ⟨_, rfl⟩
  rw [hr]
  simp only [hr] at hq
  clear hr
  cases r with
  | false =>
    rw [Bool.false_and]
    go_enter Try.func70, Try.ntmps70
    go_wp2_with fail
    refine (change_any k s on c sh pr si st sum _ _).mono ?_
    rintro e w1 ⟨rfl, b⟩
    have B1 := Lib.hid (below2' B0.out b)
    obtain ⟨hcl, _⟩ := bcellF b
    clear b
    go_wp2_with fail
    go_ret
    exact ⟨rfl, B1.out⟩
  | true =>
    rw [Bool.true_and]
    by_cases hzsum : sum = 0
    · have esum : ((sum : Int) == 0) = true := by simp [hzsum]
      rw [show decide (sum = 0) = true by simp [hzsum], Bool.true_and]
      clear hzsum
      by_cases hzlen : t.length = 0
      · have elen : ((t.length : Int) == 0) = true := by simp [hzlen]
        rw [show decide (t.length = 0) = true by simp [hzlen]]
        clear hzlen
        go_enter Try.func70, Try.ntmps70
        go_wp2_with fail
        refine (change_any k s on c sh pr si st sum _ _).mono ?_
        rintro e w1 ⟨rfl, b⟩
        have B1 := Lib.hid (below2' B0.out b)
        obtain ⟨hcl, _⟩ := bcellF b
        clear b
        go_wp2_with fail
        go_ret
        exact ⟨rfl, B1.out⟩
      · have elen : ((t.length : Int) == 0) = false := by rw [beq_eq_false_iff_ne]; omega
        rw [show decide (t.length = 0) = false by simp [hzlen]]
        clear hzlen
        go_enter Try.func70, Try.ntmps70
        go_wp2_with fail
        refine (change_any k s on c sh pr si st sum _ _).mono ?_
        rintro e w1 ⟨rfl, b⟩
        have B1 := Lib.hid (below2' B0.out b)
        obtain ⟨hcl, _⟩ := bcellF b
        clear b
        go_wp2_with fail
        go_ret
        exact ⟨rfl, B1.out⟩
    · have esum : ((sum : Int) == 0) = false := by rw [beq_eq_false_iff_ne]; omega
      rw [show decide (sum = 0) = false by simp [hzsum], Bool.false_and]
      clear hzsum
      go_enter Try.func70, Try.ntmps70
      go_wp2_with fail
      refine (change_any k s on c sh pr si st sum _ _).mono ?_
      rintro e w1 ⟨rfl, b⟩
      have B1 := Lib.hid (below2' B0.out b)
      obtain ⟨hcl, _⟩ := bcellF b
      clear b
      go_wp2_with fail
      go_ret
      exact ⟨rfl, B1.out⟩

end Go.Proofs.Ytekkofldhhdpgaa
