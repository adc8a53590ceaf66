/-
  THE CONTRACT OF THE DOCUMENT'S SameChanges.
-/
import Derived.Test.YtocjeehoghfnmaaDigChgs
namespace Go.Proofs.Ytocjeehoghfnmaa
open Go.RowKit

def csSame (a b : List Chg) : Bool := decide (a.length = b.length) && (List.range a.length).all fun i => cSame (a.getD i Chg.zero) (b.getD i Chg.zero)

theorem csSame_self (a : List Chg) : csSame a a = true := by
  unfold csSame
  simp only [decide_true, Bool.true_and, List.all_eq_true]
  intro i _
  exact cSame_self _

theorem csSame_len {a b : List Chg} (h : ¬ a.length = b.length) : csSame a b = false := by
  unfold csSame
  simp [h]

theorem csSame_off {a b : List Chg} {k : Nat} (hk : k < a.length) (h : cSame (a.getD k Chg.zero) (b.getD k Chg.zero) = false) : csSame a b = false := by
  rw [Bool.eq_false_iff]
  intro h'
  unfold csSame at h'
  rw [Bool.and_eq_true, List.all_eq_true] at h'
  rw [h'.2 k (by simpa using hk)] at h
  cases h

theorem csSame_on {a b : List Chg} (hl : a.length = b.length) (h : (List.range a.length).all (fun i => cSame (a.getD i Chg.zero) (b.getD i Chg.zero)) = true) : csSame a b = true := by
  unfold csSame
  rw [h]
  simp [hl]

theorem csSame_next {t u : List Chg} {k : Nat} (h : (List.range k).all (fun i => cSame (t.getD i Chg.zero) (u.getD i Chg.zero)) = true) (hk : cSame (t.getD k Chg.zero) (u.getD k Chg.zero) = true) :
    (List.range (k + 1)).all (fun i => cSame (t.getD i Chg.zero) (u.getD i Chg.zero)) = true := range_all_succ h hk

set_option maxHeartbeats 800000 in
set_option maxRecDepth 100000 in
theorem csame_any {w : World} {v u : Value} {t s : List Chg} (hv : Chgs w v t) (hu : Chgs w u s) :
    Calls Try.prog 30 #[v, u] w fun e w' => e = .returned (.bool (csSame t s)) ∧ Below w.heap.size w w' := by
  have HV := Lib.hid hv
  have HU := Lib.hid hu
  obtain ⟨a, cap, rfl, hm⟩ := hv.open'
  obtain ⟨a2, cap2, rfl, hm2⟩ := hu.open'
  clear hv hu
  by_cases hl : t.length = s.length
  · have HL := Lib.hid hl
    have t1 : ((t.length : Int) != (s.length : Int)) = false := by simp [hl]
    clear hl
    go_enter Try.func30, Try.ntmps30
    go_wp2_with fail
    go_loopw [5] (fun i wr => ∃ k : Nat, k ≤ t.length ∧ i = .int .i64 k ∧ Hid (Below w.heap.size w wr) ∧ Hid ((List.range k).all (fun i => cSame (t.getD i Chg.zero) (s.getD i Chg.zero)) = true)) (fun i _ => t.length - (intOf i).toNat)
    case atStart => exact ⟨0, by omega, rfl, Below.refl _ _, by show _ = _; simp⟩
    case round =>
      obtain ⟨k, hk, rfl, HN, HA⟩ := hrel
      by_cases hlt : k < t.length
      · obtain ⟨b, off, rfl, h0, h1, h2, h3, h4, h5⟩ := HV.out.row HN.out k hlt
        obtain ⟨b2, off2, rfl, i0, i1, i2, i3, i4, i5⟩ := HU.out.row HN.out k (by rw [← HL.out]; exact hlt)
        have hlt2 : k < s.length := by rw [← HL.out]; exact hlt
        obtain ⟨⟨c, o, ⟨x, y, z, st⟩⟩, hr⟩ : ∃ r, t.getD k Chg.zero = r := ⟨_, rfl⟩
        obtain ⟨⟨c', o', ⟨x', y', z', st'⟩⟩, hr'⟩ : ∃ r, s.getD k Chg.zero = r := ⟨_, rfl⟩
        rw [hr] at h0 h1 h2 h3 h4 h5
        rw [hr'] at i0 i1 i2 i3 i4 i5
        have hgd : Try.prog.eqGuardType Try.prog.depth 37 = false := by kernel_rfl
        have hne := chg_neq6 c c' o o' x y z x' y' z' st st'
        cases hs : cSame ⟨c, o, x, y, z, st⟩ ⟨c', o', x', y', z', st'⟩ with
        | false =>
          have HR : Hid (csSame t s = false) := by show _ = _; exact csSame_off hlt (by rw [hr, hr']; exact hs)
          rw [hs] at hne
          simp only at h0 h1 h2 h3 h4 h5 i0 i1 i2 i3 i4 i5
          clear hr hr' hs
          go_wp2_with fail
          go_region
          go_wp2_with fail
          go_ret
          exact ⟨by rw [HR.out]; rfl, HN.out.drew⟩
        | true =>
          have HA2 : Hid ((List.range (k + 1)).all (fun i => cSame (t.getD i Chg.zero) (s.getD i Chg.zero)) = true) := by show _ = _; exact csSame_next HA.out (by rw [hr, hr']; exact hs)
          rw [hs] at hne
          simp only at h0 h1 h2 h3 h4 h5 i0 i1 i2 i3 i4 i5
          clear hr hr' hs
          go_wp2_with fail
          go_region
          go_wp2_with fail
          go_roundw
          case rel => exact ⟨k + 1, by omega, by go_num, HN.out.drew, HA2⟩
          case measure => simp [intOf]; omega
      · obtain rfl : k = t.length := by omega
        have HR : Hid (csSame t s = true) := by show _ = _; exact csSame_on HL.out HA.out
        go_wp2_with fail
        go_ret
        exact ⟨by rw [HR.out]; rfl, HN.out⟩
  · have HR := Lib.hid (csSame_len hl)
    have t1 : ((t.length : Int) != (s.length : Int)) = true := by simp; omega
    clear hl
    go_enter Try.func30, Try.ntmps30
    go_wp2_with fail
    go_ret
    exact ⟨by rw [HR.out]; rfl, Below.refl _ _⟩

end Go.Proofs.Ytocjeehoghfnmaa
