/-
  EVENTS IN MEMORY; whether they are short.
-/
import Derived.Test.YthfkfonfiejbmaaEvP
import Derived.Test.YthfkfonfiejbmaaAid
import Derived.Lib.Hide
import Derived.Test.YthfkfonfiejbmaaProg
namespace Go.Proofs.Ythfkfonfiejbmaa
open Go.RowKit

def evVals (e : Ev) : List Value := [.int .i64 e.k, .string ⟨e.u.toArray⟩, .string ⟨e.o.toArray⟩, .int .i64 e.id, .int .i64 e.v.sh, .int .i64 e.v.pr, .int .i64 e.v.si, .string ⟨e.v.st.toArray⟩]

theorem evOK : RowOK Try.prog evVals 8 Ev.zero 26 31 (.agg #[.int .i64 0, .string ⟨#[]⟩, .string ⟨#[]⟩, .int .i64 0, .int .i64 0, .int .i64 0, .int .i64 0, .string ⟨#[]⟩]) 88 where
  len _ := rfl
  one a u hu := by
    simp only [evVals, List.mem_cons, List.not_mem_nil, or_false] at hu
    rcases hu with rfl | rfl | rfl | rfl | rfl | rfl | rfl | rfl <;> rfl
  pos := by decide
  small := by decide
  under := Try.underlying31
  info := by kernel_rfl
  zvals := rfl
  fits := by decide

/-- Events that may be read. -/
def Evs (w : World) (v : Value) (l : List Ev) : Prop := RdS evVals 8 Ev.zero w v l

theorem Evs.later {w w' : World} {v : Value} {l : List Ev} (h : Evs w v l) (hb : Below w.heap.size w w') : Evs w' v l := RdS.later h hb

theorem eightAt {X : World} {B off : Nat} {k id a b c : Int} {u o st : List UInt8} (h : CellsAt X B off (evVals ⟨k, u, o, id, ⟨a, b, c, st⟩⟩)) :
    X.cell? ⟨B, off, none⟩ = some (.int .i64 k) ∧ X.cell? ⟨B, off + 1, none⟩ = some (.string ⟨u.toArray⟩) ∧ X.cell? ⟨B, off + 2, none⟩ = some (.string ⟨o.toArray⟩) ∧ X.cell? ⟨B, off + 3, none⟩ = some (.int .i64 id) ∧ X.cell? ⟨B, off + 4, none⟩ = some (.int .i64 a) ∧ X.cell? ⟨B, off + 5, none⟩ = some (.int .i64 b) ∧ X.cell? ⟨B, off + 6, none⟩ = some (.int .i64 c) ∧ X.cell? ⟨B, off + 7, none⟩ = some (.string ⟨st.toArray⟩) :=
  ⟨h 0 _ rfl, h 1 _ rfl, h 2 _ rfl, h 3 _ rfl, h 4 _ rfl, h 5 _ rfl, h 6 _ rfl, h 7 _ rfl⟩

set_option maxHeartbeats 1600000 in
set_option maxRecDepth 100000 in
theorem short14_any (k : Int) (u o st : List UInt8) (id a b c : Int) {r : Bool} (hr : Hid (shortEv ⟨k, u, o, id, ⟨a, b, c, st⟩⟩ = r)) (w : World) :
    Calls Try.prog 21 #[.agg #[.int .i64 k, .string ⟨u.toArray⟩, .string ⟨o.toArray⟩, .int .i64 id, .int .i64 a, .int .i64 b, .int .i64 c, .string ⟨st.toArray⟩]] w fun e w' => e = .returned (.bool r) ∧ Below w.heap.size w w' := by
  have hr := hr.out
  unfold shortEv at hr
  simp only at hr
  have HB := Lib.hid (bl_newZ w (.cells #[.int .i64 k, .string ⟨u.toArray⟩, .string ⟨o.toArray⟩, .int .i64 id, .int .i64 a, .int .i64 b, .int .i64 c, .string ⟨st.toArray⟩] 26))
  by_cases h1 : u.length ≤ 40
  · have t1 : decide ((u.length : Int) ≤ 40) = true := by rw [decide_eq_true_eq]; omega
    rw [decide_eq_true h1, Bool.true_and] at hr
    by_cases h2 : o.length ≤ 40
    · have t2 : decide ((o.length : Int) ≤ 40) = true := by rw [decide_eq_true_eq]; omega
      rw [decide_eq_true h2, Bool.true_and] at hr
      have t3 : decide ((st.length : Int) ≤ 60) = r := by rw [← hr]; congr 1; rw [eq_iff_iff]; omega
      clear hr
      go_enter Try.func21, Try.ntmps21
      go_wp2_with fail
      go_ret
      exact ⟨rfl, HB.out⟩
    · have t2 : decide ((o.length : Int) ≤ 40) = false := by rw [decide_eq_false_iff_not]; omega
      rw [decide_eq_false h2, Bool.false_and] at hr
      subst hr
      go_enter Try.func21, Try.ntmps21
      go_wp2_with fail
      go_ret
      exact ⟨rfl, HB.out⟩
  · have t1 : decide ((u.length : Int) ≤ 40) = false := by rw [decide_eq_false_iff_not]; omega
    rw [decide_eq_false h1, Bool.false_and] at hr
    subst hr
    go_enter Try.func21, Try.ntmps21
    go_wp2_with fail
    go_ret
    exact ⟨rfl, HB.out⟩

set_option maxHeartbeats 3200000 in
set_option maxRecDepth 100000 in
theorem events_any {w : World} {v : Value} {l : List Ev} (hv : Evs w v l) (n : Nat) (hn9 : n ≤ 1000) {r : Bool} (hr : Hid (evsShort n l = r)) :
    Calls Try.prog 15 #[v, .int .i64 n] w fun e w' => e = .returned (.bool r) ∧ Below w.heap.size w w' := by
  have HV := Lib.hid hv
  obtain ⟨av, cv, rfl, -⟩ := RdS.open' hv
  clear hv
  by_cases hn : l.length ≤ n
  · have t1 : decide ((n : Int) < (l.length : Int)) = false := by rw [decide_eq_false_iff_not]; omega
    have t1' : decide (n < l.length) = false := by rw [decide_eq_false_iff_not]; omega
    have hr2 : l.all shortEv = r := by have := hr.out; unfold evsShort at this; rw [decide_eq_true hn, Bool.true_and] at this; exact this
    have HR := Lib.hid hr2
    clear hr hr2
    go_enter Try.func15, Try.ntmps15
    go_wp2_with fail
    go_loopw [5] (fun i wr => ∃ k : Nat, k ≤ l.length ∧ i = .int .i64 k ∧ Hid (∀ n, n < k → shortEv (l.getD n Ev.zero) = true) ∧ Hid (Below w.heap.size w wr)) (fun i _ => l.length - (intOf i).toNat)
    case atStart => exact ⟨0, by omega, rfl, Lib.hid (fun i h => absurd h (by omega)), Below.refl _ _⟩
    case round =>
      obtain ⟨k, hk, rfl, HA, HB⟩ := hrel
      by_cases hlt : k < l.length
      · obtain ⟨vb, vo, rfl, hc⟩ := RdS.row HV.out HB.out k hlt
        obtain ⟨⟨kk, u, o, id, ⟨a, b, c, st⟩⟩, he⟩ : ∃ r, l.getD k Ev.zero = r := ⟨_, rfl⟩
        rw [he] at hc
        obtain ⟨m0, m1, m2, m3, m4, m5, m6, m7⟩ := eightAt hc
        obtain ⟨q, hq⟩ : ∃ q, shortEv ⟨kk, u, o, id, ⟨a, b, c, st⟩⟩ = q := ⟨_, rfl⟩
        have HQ := Lib.hid hq
        have HE := Lib.hid he
        have hnn : (0 : Int) ≤ (k : Int) := by omega
        have hli : (k : Int) < (l.length : Int) := by omega
        clear hc he hq
        go_wp2_with fail
        refine (short14_any kk u o st id a b c HQ _).mono ?_
        rintro e w1 ⟨rfl, b1⟩
        have HB1 := Lib.hid (below2Z HB.out b1)
        clear b1 m0 m1 m2 m3 m4 m5 m6 m7
        cases q with
        | false =>
          have hf : l.all shortEv = false := by
            rw [Bool.eq_false_iff]
            intro h
            have := List.all_eq_true.1 h _ (show l.getD k Ev.zero ∈ l by rw [evgetD hlt]; exact List.getElem_mem hlt)
            rw [HE.out, HQ.out] at this
            cases this
          rw [HR.out] at hf
          subst hf
          go_wp2_with fail
          go_ret
          exact ⟨rfl, HB1.out⟩
        | true =>
          have HA2 : Hid (∀ i, i < k + 1 → shortEv (l.getD i Ev.zero) = true) := Lib.hid (fun i hi => by
            by_cases h : i < k
            · exact HA.out i h
            · obtain rfl : i = k := by omega
              rw [HE.out]; exact HQ.out)
          go_wp2_with fail
          go_roundw
          case rel => exact ⟨k + 1, by omega, by go_num, HA2, HB1⟩
          case measure => simp [intOf]; omega
      · obtain rfl : k = l.length := by omega
        have hf : l.all shortEv = true := by
          rw [List.all_eq_true]
          intro e he
          obtain ⟨i, hi, e1⟩ := List.getElem_of_mem he
          have := HA.out i hi
          rw [evgetD hi, e1] at this
          exact this
        rw [HR.out] at hf
        subst hf
        go_wp2_with fail
        go_ret
        exact ⟨rfl, HB.out⟩
  · have t1 : decide ((n : Int) < (l.length : Int)) = true := by rw [decide_eq_true_eq]; omega
    have hr2 := hr.out
    unfold evsShort at hr2
    rw [decide_eq_false hn, Bool.false_and] at hr2
    subst hr2
    clear hr
    go_enter Try.func15, Try.ntmps15
    go_wp2_with fail
    go_ret
    exact ⟨rfl, Below.refl _ _⟩

/-- The numbers of an event are ints. -/
def evFit (e : Ev) : Prop := (Lit.int .i64 e.k).wf = true ∧ (Lit.int .i64 e.id).wf = true ∧ (Lit.int .i64 e.v.sh).wf = true ∧ (Lit.int .i64 e.v.pr).wf = true ∧ (Lit.int .i64 e.v.si).wf = true

theorem evs_noneW {w : World} {a : Option Addr} {n c : Nat} {l : List Ev} (h : Evs w (.slice a n c) l) : a = none → c = 0 ∧ l = [] := by
  rintro rfl
  obtain ⟨a', cap', e, h1, _, h3, _⟩ := h
  simp only [Value.slice.injEq] at e
  obtain ⟨rfl, _, rfl⟩ := e
  have := h3 rfl
  exact ⟨this, List.length_eq_zero_iff.1 (by omega)⟩

theorem evs_srcW {w : World} {a : Option Addr} {n c : Nat} {l : List Ev} (h : Evs w (.slice a n c) l) : ∀ ad, a = some ad → SrcS evVals w ad l := by
  rintro ad rfl
  exact RdS.src evOK h

end Go.Proofs.Ythfkfonfiejbmaa
