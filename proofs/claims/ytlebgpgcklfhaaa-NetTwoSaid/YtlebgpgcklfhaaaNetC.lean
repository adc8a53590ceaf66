/-
  LAYER 22: the code's contracts.
-/
import Derived.Test.YtlebgpgcklfhaaaNetPure
import Derived.Test.YtlebgpgcklfhaaaIdConcat
import Derived.Lib.Hide
import Derived.Maps.OwnSet
import Derived.Deep.RegionHeld
import Derived.Deep.AppendLies
import Derived.WalkSpells
namespace Go.Proofs.Ytlebgpgcklfhaaa
open Go.RowKit

set_option maxHeartbeats 800000 in
set_option maxRecDepth 100000 in
theorem txt_clone {w : World} {v : Value} {t : List (List UInt8)} (hv : Texts w v t) (hl : t.length ≤ 4294967) :
    Calls Try.prog 24 #[v] w fun e w' => ∃ u, e = .returned u ∧ OwnS txtVals 1 9 w' w.heap.size u t ∧ Below w.heap.size w w' := by
  have HV := Lib.hid hv.rd
  obtain ⟨a, cap, rfl, h1, h2, h3, h4⟩ := hv
  cases a with
  | none =>
    obtain rfl : cap = 0 := h3 rfl
    obtain rfl : t = [] := List.length_eq_zero_iff.1 (by omega)
    have heq := fun w => eqlS_nil_nil txtOK w 0 0
    clear h4
    go_enter Try.func24, Try.ntmps24
    go_wp2_with fail
    go_ret
    exact ⟨_, rfl, ownS_nil _ _, Below.refl _ _⟩
  | some x =>
    have HS := Lib.hid ((HV.out.later ((Below.refl _ _).alloc (Nat.le_refl _) (.cells #[] 9))).src txtOK)
    have heq := fun w => eqlS_nil_some txtOK w x t.length cap
    clear h4 h3
    go_enter Try.func24, Try.ntmps24
    go_wp2_with (at_builtin; go_must (refine wpList_append_S txtOK rfl _ _ rfl w.heap.size _ [] rfl (by exact ownS_made w) (some x) t.length cap t rfl rfl (fun e => nomatch e) ?c1 (by simp only [List.length_nil]; omega) (by simp) ?_))
    case c1 => intro ad had; obtain rfl := Option.some.inj had; exact HS.out
    intro v' w' ho' hb'
    have O := Lib.hid ho'
    have hbB : Hid (Below w.heap.size w w') := ((Below.refl w.heap.size w).alloc (Nat.le_refl _) _).trans hb'
    clear ho' hb'
    go_wp2_with fail
    go_ret
    exact ⟨_, rfl, by have := O.out; simpa using this, hbB.out⟩

set_option maxHeartbeats 400000 in
set_option maxRecDepth 100000 in
theorem nhas_yes (a : Option Addr) (n cap : Nat) (k : Nat) (hk : k < n) (w : World) :
    Calls Try.prog 23 #[.slice a n cap, .int .i64 k] w fun e w' => e = .returned (.bool true) ∧ w = w' := by
  have t1 : decide ((0 : Int) ≤ (k : Int)) = true := by simp
  have t2 : decide ((k : Int) < (n : Int)) = true := by simp; omega
  go_enter Try.func23, Try.ntmps23
  go_wp2_with fail
  go_ret
  exact ⟨rfl, rfl⟩

set_option maxHeartbeats 400000 in
set_option maxRecDepth 100000 in
theorem nhas_no (a : Option Addr) (n cap : Nat) (i : Int) (h : ¬ ntIn n i) (w : World) :
    Calls Try.prog 23 #[.slice a n cap, .int .i64 i] w fun e w' => e = .returned (.bool false) ∧ w = w' := by
  unfold ntIn at h
  by_cases h0 : 0 ≤ i
  · have t1 : decide ((0 : Int) ≤ i) = true := by simp; omega
    have t2 : decide (i < (n : Int)) = false := by simp; omega
    clear h
    go_enter Try.func23, Try.ntmps23
    go_wp2_with fail
    go_ret
    exact ⟨rfl, rfl⟩
  · have t1 : decide ((0 : Int) ≤ i) = false := by simp; omega
    clear h
    go_enter Try.func23, Try.ntmps23
    go_wp2_with fail
    go_ret
    exact ⟨rfl, rfl⟩

theorem in_nat {n : Nat} {i : Int} (h : ntIn n i) : ∃ k : Nat, i = (k : Int) ∧ k < n := by
  unfold ntIn at h
  exact ⟨i.toNat, by omega, by omega⟩

set_option maxHeartbeats 800000 in
set_option maxRecDepth 100000 in
theorem nsend_any {w : World} {v u : Value} {ls ms : List (List UInt8)} (hv : Texts w v ls) (hu : Texts w u ms) (hl : ls.length + ms.length ≤ 1000) :
    Calls Try.prog 21 #[v, u] w fun e w' => ∃ x, e = .returned x ∧ Texts w' x (ls ++ ms) ∧ Below w.heap.size w w' := by
  have HC := Lib.hid (concat_sum (w := w.alloc (.cells #[v, u] 22)) (va := v) (vb := u) (hv.later ((Below.refl _ _).alloc (Nat.le_refl _) _)) (hu.later ((Below.refl _ _).alloc (Nat.le_refl _) _)) hl w.heap.size (by simp) (by simp))
  obtain ⟨a, cap, rfl, _, _, _, _⟩ := hv
  obtain ⟨a2, cap2, rfl, _, _, _, _⟩ := hu
  go_enter Try.func21, Try.ntmps21
  go_wp2_with fail
  refine HC.out.mono ?_
  rintro e w1 ⟨x, rfl, ho, hb⟩
  have hb' : Hid (Below w.heap.size w w1) := ((Below.refl w.heap.size w).alloc (Nat.le_refl _) _).trans (hb.mono (by simp))
  have HO := Lib.hid ho.texts
  clear ho hb
  go_wp2_with fail
  go_ret
  exact ⟨_, rfl, HO.out, hb'.out⟩

end Go.Proofs.Ytlebgpgcklfhaaa
