/-
  LAYER 10, THE CODE: find, Len, Top, Get, Slots, New.
-/
import Derived.Test.YtkmbnpjnjlcjmaaHeaRise
namespace Go.Proofs.Ytkmbnpjnjlcjmaa
open Go.RowKit

/-- What find tells. -/
def findV (l : List Sl) (id : Int) : Value := .tuple #[.int .i64 ((spot l id).getD 0 : Nat), .bool (spot l id).isSome]

set_option maxHeartbeats 1600000 in
set_option maxRecDepth 100000 in
theorem find_any {w : World} {base B : Nat} {v : Value} {M : Nat} {l : List Sl} (h : HOk w base B v M l) (id : Int) (hid : (Lit.int .i64 id).wf = true) {p : Nat} {r : Bool} (hr : (spot l id).isSome = r) (hp : (spot l id).getD 0 = p) :
    Calls Try.prog 140 #[.pointer (some ⟨B, 0, none⟩), .int .i64 id] w fun e w' => e = .returned (.tuple #[.int .i64 p, .bool r]) ∧ w = w' := by
  obtain ⟨c0, c1, f0, f1⟩ := h.hat.cells
  have hlook := h.hat.places.look id hid hr hp
  cases r with
  | true =>
    have hlt : p < l.length := by
      cases hs : spot l id with
      | none => rw [hs] at hr; cases hr
      | some q => rw [hs] at hp; obtain rfl : q = p := hp; exact (spot_some hs).1
    obtain ⟨g, cap, rfl, hcap, hlc⟩ := h.hat.block (by omega)
    have t1 : decide ((l.length : Int) ≤ (p : Int)) = false := by simp; omega
    clear hr hp h
    go_enter Try.func140, Try.ntmps140
    go_wp2_with fail
    go_ret2
    exact ⟨rfl, rfl⟩
  | false =>
    have hp0 : p = 0 := by
      cases hs : spot l id with
      | none => rw [hs] at hp; exact hp.symm
      | some q => rw [hs] at hr; cases hr
    subst hp0
    clear hr hp h
    go_enter Try.func140, Try.ntmps140
    go_wp2_with fail
    go_ret2
    exact ⟨rfl, rfl⟩

theorem own_len {α : Type} {vals : α → List Value} {sz : Nat} {T : TypeId} {w : World} {base : Nat} {v : Value} {t : List α} (h : OwnS vals sz T w base v t) : ∃ a cap, v = .slice a t.length cap := by
  rcases h.2 with ⟨rfl, h0⟩ | ⟨g, cap, cur, rfl, _⟩
  · rw [h0]; exact ⟨none, 0, rfl⟩
  · exact ⟨_, _, rfl⟩

set_option maxHeartbeats 1600000 in
set_option maxRecDepth 100000 in
theorem len_any {w : World} {base B : Nat} {v : Value} {M : Nat} {l : List Sl} (h : HOk w base B v M l) :
    Calls Try.prog 139 #[.pointer (some ⟨B, 0, none⟩)] w fun e w' => e = .returned (.int .i64 l.length) ∧ w = w' := by
  obtain ⟨c0, c1, f0, f1⟩ := h.hat.cells
  obtain ⟨a, cap, rfl⟩ := own_len h.hat.own
  clear h
  go_enter Try.func139, Try.ntmps139
  go_wp2_with fail
  go_ret
  exact ⟨rfl, rfl⟩

/-- Who is on top. -/
def topV (l : List Sl) : Value := .tuple #[.agg #[.int .i64 (at0 l 0).id, .int .i64 (at0 l 0).r0, .int .i64 (at0 l 0).r1, .int .i64 (at0 l 0).r2], .bool (decide (0 < l.length))]

set_option maxHeartbeats 1600000 in
set_option maxRecDepth 100000 in
theorem top_any {w : World} {base B : Nat} {v : Value} {M : Nat} {l : List Sl} (h : HOk w base B v M l) {i r0 r1 r2 : Int} (ht : at0 l 0 = ⟨i, r0, r1, r2⟩) {q : Bool} (hq : decide (0 < l.length) = q) :
    Calls Try.prog 118 #[.pointer (some ⟨B, 0, none⟩)] w fun e w' => e = .returned (.tuple #[.agg #[.int .i64 i, .int .i64 r0, .int .i64 r1, .int .i64 r2], .bool q]) ∧ Below w.heap.size w w' := by
  have H := Lib.hid h
  have H1 := Lib.hid (h.later (bl_newZ w (.cells #[.int .i64 0, .int .i64 0, .int .i64 0, .int .i64 0] 92)))
  have HL := Lib.hid (len_any H1.out)
  obtain ⟨c0, c1, f0, f1⟩ := H1.out.hat.cells
  have hlen := h.few
  cases q with
  | true =>
    have hl : 0 < l.length := by simpa using hq
    obtain ⟨g, cap, rfl, hcap, hlc⟩ := h.hat.block hl
    obtain ⟨s0, s1, s2, s3⟩ := cells4 (H1.out.hat.own.row slOK hl)
    rw [show l.getD 0 Sl.zero = at0 l 0 from rfl, ht] at s0 s1 s2 s3
    simp only [Nat.zero_mul, Nat.zero_add] at s0 s1 s2 s3
    have t1 : ((l.length : Int) == 0) = false := by rw [beq_eq_false_iff_ne]; omega
    have t2 : (0 : Int) < (l.length : Int) := by omega
    clear h ht hq
    go_enter Try.func118, Try.ntmps118
    go_wp2_with fail
    refine HL.out.mono ?_
    rintro e w2 ⟨rfl, rfl⟩
    go_wp2_with fail
    refine bodyPost_ret (v := .tuple #[.agg #[.int .i64 i, .int .i64 r0, .int .i64 r1, .int .i64 r2], .bool true]) (by simp [results, Try.results118, go_sem]) rfl ⟨rfl, ?_⟩
    repeat (first | exact Below.refl _ _ | refine Below.setCell ?_ (by first | (simp; done) | (simp; omega)) _ | refine Below.alloc ?_ (by first | (simp; done) | (simp; omega)) _)
  | false =>
    obtain rfl : l = [] := List.length_eq_zero_iff.1 (by simpa using hq)
    have t1 : (((0 : Nat) : Int) == 0) = true := by simp
    have e : at0 [] 0 = Sl.zero := rfl
    rw [e] at ht
    injection ht with e0 e1 e2 e3
    subst e0 e1 e2 e3
    clear h hq
    go_enter Try.func118, Try.ntmps118
    go_wp2_with fail
    refine HL.out.mono ?_
    rintro e w2 ⟨rfl, rfl⟩
    go_wp2_with fail
    refine bodyPost_ret (v := .tuple #[.agg #[.int .i64 0, .int .i64 0, .int .i64 0, .int .i64 0], .bool false]) (by simp [results, Try.results118, go_sem]) rfl ⟨rfl, ?_⟩
    repeat (first | exact Below.refl _ _ | refine Below.setCell ?_ (by first | (simp; done) | (simp; omega)) _ | refine Below.alloc ?_ (by first | (simp; done) | (simp; omega)) _)

set_option maxHeartbeats 1600000 in
set_option maxRecDepth 100000 in
theorem new_any (w : World) : Calls Try.prog 99 #[] w fun e w' => ∃ B v M, e = .returned (.pointer (some ⟨B, 0, none⟩)) ∧ HOk w' w.heap.size B v M [] ∧ Below w.heap.size w w' := by
  have hmk := fun w => run_makeMap (P := Try.prog) 151 w
  go_enter Try.func99, Try.ntmps99
  go_wp2_with fail
  go_ret
  refine ⟨w.heap.size + 1, .slice none 0 0, w.heap.size, rfl, ⟨⟨by omega, by omega, ?_, ownS_nil _ _, ?_⟩, List.nodup_nil, (fun s hs => by cases hs), by simp⟩, ((Below.refl _ _).alloc (Nat.le_refl _) _).alloc (by simp) _⟩
  · have hs : (w.alloc (.map #[] 0)).heap.size = w.heap.size + 1 := by simp
    rw [← hs]
    exact heap_alloc_new _ _
  · exact (placesAt_made w).kept ((bl_newZ (w.alloc (.map #[] 0)) _).block w.heap.size (by simp))

/-! ### of a nil heap -/

set_option maxHeartbeats 1600000 in
set_option maxRecDepth 100000 in
theorem find_nil (id : Int) (w : World) : Calls Try.prog 140 #[.pointer none, .int .i64 id] w fun e w' => e = .returned (.tuple #[.int .i64 0, .bool false]) ∧ w = w' := by
  go_enter Try.func140, Try.ntmps140
  go_wp2_with fail
  go_ret2
  exact ⟨rfl, rfl⟩

set_option maxRecDepth 100000 in
theorem len_nil (w : World) : Calls Try.prog 139 #[.pointer none] w fun e w' => e = .returned (.int .i64 0) ∧ w = w' := by
  go_enter Try.func139, Try.ntmps139
  go_wp2_with fail
  go_ret
  exact ⟨rfl, rfl⟩

set_option maxHeartbeats 1600000 in
set_option maxRecDepth 100000 in
theorem top_nil (w : World) : Calls Try.prog 118 #[.pointer none] w fun e w' => e = .returned (.tuple #[.agg #[.int .i64 0, .int .i64 0, .int .i64 0, .int .i64 0], .bool false]) ∧ Below w.heap.size w w' := by
  go_enter Try.func118, Try.ntmps118
  go_wp2_with fail
  refine (len_nil _).mono ?_
  rintro e w2 ⟨rfl, rfl⟩
  go_wp2_with fail
  refine bodyPost_ret (v := .tuple #[.agg #[.int .i64 0, .int .i64 0, .int .i64 0, .int .i64 0], .bool false]) (by simp [results, Try.results118, go_sem]) rfl ⟨rfl, ?_⟩
  repeat (first | exact Below.refl _ _ | refine Below.setCell ?_ (by first | (simp; done) | (simp; omega)) _ | refine Below.alloc ?_ (by first | (simp; done) | (simp; omega)) _)

set_option maxHeartbeats 1600000 in
set_option maxRecDepth 100000 in
theorem put_nil (id r0 r1 r2 : Int) (w : World) : Calls Try.prog 119 #[.pointer none, .int .i64 id, .agg #[.int .i64 r0, .int .i64 r1, .int .i64 r2]] w fun e w' => e = .returned (.bool false) ∧ Below w.heap.size w w' := by
  go_enter Try.func119, Try.ntmps119
  go_wp2_with fail
  go_ret
  exact ⟨rfl, (Below.refl _ _).alloc (Nat.le_refl _) _⟩

set_option maxHeartbeats 1600000 in
set_option maxRecDepth 100000 in
theorem drop_nil (id : Int) (w : World) : Calls Try.prog 120 #[.pointer none, .int .i64 id] w fun e w' => e = .returned (.bool false) ∧ Below w.heap.size w w' := by
  go_enter Try.func120, Try.ntmps120
  go_wp2_with fail
  refine (find_nil _ _).mono ?_
  rintro e w2 ⟨rfl, rfl⟩
  go_wp2_with fail
  go_ret
  exact ⟨rfl, Below.refl _ _⟩

end Go.Proofs.Ytkmbnpjnjlcjmaa
