/-
  THE CONTRACTS OF ident.Put AND ident.Take.
-/
import Derived.Test.YthfkfonfiejbmaaIdFold
import Derived.Test.YthfkfonfiejbmaaVarTake
namespace Go.Proofs.Ythfkfonfiejbmaa
open Go.RowKit

theorem vtake_short {l : List UInt8} {p m : Int} {t : List UInt8} {f er : Nat} (h : vtake l p m = (t, f, er)) : t.length ≤ l.length := by
  unfold vtake at h
  generalize vget l p = g at h
  obtain ⟨n, g, e⟩ := g
  dsimp only at h
  repeat' split at h
  all_goals
    simp only [Prod.mk.injEq] at h
    obtain ⟨rfl, _, _⟩ := h
    simp
  try omega

set_option maxHeartbeats 400000 in
set_option maxRecDepth 100000 in
theorem idput_eq (l : List UInt8) (hl : l.length ≤ 4294967296) {t : List UInt8} {r : Bool} (h : Hid (idPut l = (t, r))) (w : World) :
    Calls Try.prog 58 #[.string ⟨l.toArray⟩] w fun e w' => e = .returned (.tuple #[.string ⟨t.toArray⟩, .bool r]) ∧ Below w.heap.size w w' := by
  have e := h.out
  unfold idPut at e
  clear h
  cases hi : idIs l with
  | false =>
    rw [hi] at e
    simp only [Bool.false_eq_true, if_false, Prod.mk.injEq] at e
    obtain ⟨rfl, rfl⟩ := e
    have HI := Lib.hid hi
    clear hi
    go_enter Try.func58, Try.ntmps58
    go_wp2_with fail
    refine (is_eq l hl HI _).mono ?_
    rintro e w1 ⟨rfl, hb1⟩
    go_wp2_with fail
    go_ret2
    exact ⟨rfl, hb1⟩
  | true =>
    rw [hi] at e
    simp only [if_true, Prod.mk.injEq] at e
    obtain ⟨rfl, rfl⟩ := e
    have HI := Lib.hid hi
    clear hi
    go_enter Try.func58, Try.ntmps58
    go_wp2_with fail
    refine (is_eq l hl HI _).mono ?_
    rintro e w1 ⟨rfl, hb1⟩
    go_wp2_with fail
    refine (text_any l hl _).mono ?_
    rintro e w2 ⟨rfl, hb2⟩
    go_wp2_with fail
    go_ret2
    exact ⟨rfl, below2' hb1 hb2⟩

theorem take_eq16 (l : List UInt8) (hl : l.length ≤ 4294967296) (p : Int) (w : World) {t : List UInt8} {f er : Nat} (h : Hid (vtake l p 16 = (t, f, er))) :
    Calls Try.prog 53 #[.string ⟨l.toArray⟩, .int .i64 p, .int .i64 16] w fun e w' => e = .returned (.tuple #[.string ⟨t.toArray⟩, .int .i64 f, .int .i64 er]) ∧ w = w' := take_eq l hl p 16 (by decide) w h

set_option maxHeartbeats 400000 in
set_option maxRecDepth 100000 in
theorem idtake_eq (l : List UInt8) (hl : l.length ≤ 4294967296) (p : Int) {t : List UInt8} {f er : Nat} (h : Hid (idTake l p = (t, f, er))) (w : World) :
    Calls Try.prog 47 #[.string ⟨l.toArray⟩, .int .i64 p] w fun e w' => e = .returned (.tuple #[.string ⟨t.toArray⟩, .int .i64 f, .int .i64 er]) ∧ Below w.heap.size w w' := by
  obtain ⟨u, g, ue, hu⟩ : ∃ u g ue, vtake l p 16 = (u, g, ue) := ⟨_, _, _, rfl⟩
  have e := h.out
  unfold idTake at e
  rw [hu] at e
  dsimp only at e
  have hs := vtake_short hu
  have HU := Lib.hid hu
  clear h hu
  by_cases he : ue = 0
  · subst he
    rw [if_neg (by simp)] at e
    cases hi : idIs u with
    | false =>
      rw [hi] at e
      simp only [Bool.false_eq_true, if_false, Prod.mk.injEq] at e
      obtain ⟨rfl, rfl, rfl⟩ := e
      have HI := Lib.hid hi
      clear hi
      go_enter Try.func47, Try.ntmps47
      go_wp2_with fail
      refine (take_eq16 l hl p _ HU).mono ?_
      rintro e w1 ⟨rfl, rfl⟩
      go_wp2_with fail
      refine (is_eq u (by omega) HI _).mono ?_
      rintro e w1 ⟨rfl, hb1⟩
      go_wp2_with fail
      go_ret3
      exact ⟨rfl, hb1⟩
    | true =>
      rw [hi] at e
      simp only [if_true, Prod.mk.injEq] at e
      obtain ⟨rfl, rfl, rfl⟩ := e
      have HI := Lib.hid hi
      clear hi
      go_enter Try.func47, Try.ntmps47
      go_wp2_with fail
      refine (take_eq16 l hl p _ HU).mono ?_
      rintro e w1 ⟨rfl, rfl⟩
      go_wp2_with fail
      refine (is_eq u (by omega) HI _).mono ?_
      rintro e w1 ⟨rfl, hb1⟩
      go_wp2_with fail
      go_ret3
      exact ⟨rfl, hb1⟩
  · rw [if_pos he] at e
    simp only [Prod.mk.injEq] at e
    obtain ⟨rfl, rfl, rfl⟩ := e
    have t1 : ((ue : Int) != 0) = true := by simp; omega
    clear he
    go_enter Try.func47, Try.ntmps47
    go_wp2_with fail
    refine (take_eq16 l hl p _ HU).mono ?_
    rintro e w1 ⟨rfl, rfl⟩
    go_wp2_with fail
    go_ret3
    exact ⟨rfl, Below.refl _ _⟩

end Go.Proofs.Ythfkfonfiejbmaa
