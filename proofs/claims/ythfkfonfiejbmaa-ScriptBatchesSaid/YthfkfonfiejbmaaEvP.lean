/-
  EVENTS, PLAIN. No program in sight.
-/
import Derived.Test.YthfkfonfiejbmaaValPure
namespace Go.Proofs.Ythfkfonfiejbmaa

structure Ev where
  k : Int
  u : List UInt8
  o : List UInt8
  id : Int
  v : Val

def Ev.zero : Ev := ⟨0, [], [], 0, Val.zero⟩

/-- Texts that the contracts serve. -/
def evShort (e : Ev) : Prop := e.u.length ≤ 4294967296 ∧ e.o.length ≤ 4294967296 ∧ e.v.st.length ≤ 4294967296

theorem evgetD {l : List Ev} {i : Nat} (h : i < l.length) : l.getD i Ev.zero = l[i] := by
  rw [List.getD_eq_getElem?_getD, List.getElem?_eq_getElem h]; rfl

/-- Short texts. -/
def shortEv (e : Ev) : Bool := decide (e.u.length ≤ 40) && (decide (e.o.length ≤ 40) && decide (e.v.st.length ≤ 60))

theorem shortEv_get {e : Ev} (h : shortEv e = true) : e.u.length ≤ 40 ∧ e.o.length ≤ 40 ∧ e.v.st.length ≤ 60 := by
  unfold shortEv at h
  simpa only [Bool.and_eq_true, decide_eq_true_eq] using h

def evsShort (n : Nat) (l : List Ev) : Bool := decide (l.length ≤ n) && l.all shortEv

theorem evsShort_get {n : Nat} {l : List Ev} (h : evsShort n l = true) : l.length ≤ n ∧ ∀ e ∈ l, shortEv e = true := by
  unfold evsShort at h
  simpa only [Bool.and_eq_true, decide_eq_true_eq, List.all_eq_true] using h

theorem evsShort_ev {n : Nat} {l : List Ev} (h : evsShort n l = true) : ∀ e ∈ l, evShort e := fun e he => by
  obtain ⟨h1, h2, h3⟩ := shortEv_get ((evsShort_get h).2 e he)
  exact ⟨Nat.le_trans h1 (by decide), Nat.le_trans h2 (by decide), Nat.le_trans h3 (by decide)⟩

end Go.Proofs.Ythfkfonfiejbmaa
