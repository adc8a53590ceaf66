/-
  LAYER 9: the document's Same; its place.
-/
import Derived.Test.YtkmbnpjnjlcjmaaSesIns
import Derived.Test.YtkmbnpjnjlcjmaaSesPure
import Derived.Deep.QuietTactic
import Derived.BigQuiet
namespace Go.Proofs.Ytkmbnpjnjlcjmaa
open Go.RowKit

/-- Two lists of sessions are the same. -/
def sessSame (a b : List Ses) : Bool := decide (a.length = b.length) && (List.range a.length).all fun i => sesSame (a.getD i Ses.zero) (b.getD i Ses.zero)

theorem sessSame_self (a : List Ses) : sessSame a a = true := by
  unfold sessSame
  simp [sesSame_self]

set_option maxHeartbeats 1600000 in
set_option maxRecDepth 100000 in
theorem rssame_any {w : World} {v u : Value} {l m : List Ses} (hv : Sess w v l) (hu : Sess w u m) {r : Bool} (h : Hid (sessSame l m = r)) :
    Calls Try.prog 19 #[v, u] w fun e w' => e = .returned (.bool r) ∧ Below w.heap.size w w' := by
  have HV := Lib.hid hv
  have HU := Lib.hid hu
  obtain ⟨a, cap, rfl, _⟩ := hv.open'
  obtain ⟨a2, cap2, rfl, _⟩ := hu.open'
  clear hv hu
  by_cases hln : l.length = m.length
  · have t0 : ((l.length : Int) != (m.length : Int)) = false := by rw [hln]; simp
    go_enter Try.func19, Try.ntmps19
    go_wp2_with fail
    go_loopw [5] (fun i wr => ∃ k : Nat, k ≤ l.length ∧ i = .int .i64 k ∧ Hid (Below w.heap.size w wr) ∧ Hid ((List.range k).all (fun i => sesSame (l.getD i Ses.zero) (m.getD i Ses.zero)) = true)) (fun i _ => l.length - (intOf i).toNat)
    case atStart => exact ⟨0, by omega, rfl, Below.refl _ _, rfl⟩
    case round =>
      obtain ⟨k, hk, rfl, HB, HA⟩ := hrel
      by_cases hlt : k < l.length
      · have hltm : k < m.length := by omega
        obtain ⟨b, off, rfl, hc⟩ := HV.out.row HB.out k hlt
        obtain ⟨b2, off2, rfl, hd⟩ := HU.out.row HB.out k hltm
        obtain ⟨⟨eu, ei, ⟨ea, eb, ec, es⟩⟩, hr⟩ : ∃ r, l.getD k Ses.zero = r := ⟨_, rfl⟩
        obtain ⟨⟨fu, fi, ⟨fa, fb, fc, fs⟩⟩, hr2⟩ : ∃ r, m.getD k Ses.zero = r := ⟨_, rfl⟩
        rw [hr] at hc
        rw [hr2] at hd
        obtain ⟨p0, p1, p2, p3, p4, p5⟩ := cells6_regrown hc
        obtain ⟨q0, q1, q2, q3, q4, q5⟩ := cells6_regrown hd
        try simp only at p0 p1 p2 p3 p4 p5 q0 q1 q2 q3 q4 q5
        obtain ⟨q, hq⟩ : ∃ q, sesSame ⟨eu, ei, ⟨ea, eb, ec, es⟩⟩ ⟨fu, fi, ⟨fa, fb, fc, fs⟩⟩ = q := ⟨_, rfl⟩
        have he := fun w => ses_neq eu fu ei ea eb ec fi fa fb fc es fs w
        rw [hq] at he
        have HQ : Hid (sesSame (l.getD k Ses.zero) (m.getD k Ses.zero) = q) := by show _ = _; rw [hr, hr2]; exact hq
        have hnn : (0 : Int) ≤ (k : Int) := by omega
        have hli : (k : Int) < (l.length : Int) := by omega
        have hlm : (k : Int) < (m.length : Int) := by omega
        clear hr hr2 hq hc hd
        go_wp2_with fail
        refine wp_region_quiet_below (by kernel_rfl) (by kernel_rfl) ?_
        repeat (go_big_quiet_step (fail))
        refine wpQuiet_nil ?_
        intro w5 hw5
        have B5 := Lib.hid (below2Z HB.out (regrownZ hw5))
        clear hw5 p0 p1 p2 p3 p4 p5 q0 q1 q2 q3 q4 q5
        cases q with
        | false =>
          have HR : sessSame l m = false := by
            unfold sessSame
            rw [show (List.range l.length).all (fun i => sesSame (l.getD i Ses.zero) (m.getD i Ses.zero)) = false from all_off hlt HQ.out, Bool.and_false]
          rw [h.out] at HR
          subst HR
          go_wp2_with fail
          go_ret
          exact ⟨rfl, B5.out⟩
        | true =>
          have HA2 : Hid ((List.range (k + 1)).all (fun i => sesSame (l.getD i Ses.zero) (m.getD i Ses.zero)) = true) := all_next HA.out HQ.out
          clear HQ
          go_wp2_with fail
          go_roundw
          case rel => exact ⟨k + 1, by omega, by go_num, B5, HA2⟩
          case measure => simp [intOf]; omega
      · obtain rfl : k = l.length := by omega
        have HR : sessSame l m = true := by
          unfold sessSame
          rw [show (List.range l.length).all (fun i => sesSame (l.getD i Ses.zero) (m.getD i Ses.zero)) = true from HA.out]
          simp [hln]
        rw [h.out] at HR
        subst HR
        go_wp2_with fail
        go_ret
        exact ⟨rfl, HB.out⟩
  · have t0 : ((l.length : Int) != (m.length : Int)) = true := by rw [bne_iff_ne]; omega
    have HR : sessSame l m = false := by
      unfold sessSame
      simp [hln]
    rw [h.out] at HR
    subst HR
    go_enter Try.func19, Try.ntmps19
    go_wp2_with fail
    go_ret
    exact ⟨rfl, Below.refl _ _⟩

end Go.Proofs.Ytkmbnpjnjlcjmaa
