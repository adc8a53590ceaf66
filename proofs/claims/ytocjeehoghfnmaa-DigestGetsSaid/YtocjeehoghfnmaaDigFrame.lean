/-
  FOR THE FRAMES OF LAYER 5's PROOFS: tables and changes that came in, opened.
-/
import Derived.Test.YtocjeehoghfnmaaDigSet
import Derived.ProofKit
import Derived.OpenShut
import Derived.Lib.SmallJoins
import Derived.Deep.Slices
import Derived.Deep.Fields
import Derived.ChangeSame
namespace Go.Proofs.Ytocjeehoghfnmaa
open Go.ChangeShapes Go.WideShapes Go.ChangeAt Go.RowKit Go.Deep

section
variable {H : Type} {enc : TypeId × Value → H} {w : World} {base : Nat} {spare : Nat → Bool} {held : Bool}

theorem trod_int1 {fuel : Nat} {cs : List Value} {x : DataW H × List MemPlace} (h : DataW.trod enc Try.prog w base spare held fuel 3 cs = some x) : ∃ z, cs = [.int .i64 z] := by
  obtain ⟨z, e, _, _⟩ := DataW.trod_int Try.underlying3 h
  exact ⟨z, e⟩

theorem trod_text {fuel : Nat} {cs : List Value} {x : DataW H × List MemPlace} (h : DataW.trod enc Try.prog w base spare held fuel 9 cs = some x) : ∃ l : List UInt8, cs = [.string ⟨l.toArray⟩] ∧ l.length ≤ maxLen := by
  obtain ⟨s, e, _, ws⟩ := DataW.trod_string Try.underlying9 h
  exact ⟨s.data.toList, by rw [e], Nat.le_trans (Nat.le_of_eq (Array.length_toList (xs := s.data))) ws⟩

theorem trod_truth {fuel : Nat} {cs : List Value} {x : DataW H × List MemPlace} (h : DataW.trod enc Try.prog w base spare held fuel 4 cs = some x) : ∃ b, cs = [.bool b] := by
  obtain ⟨b, e, _⟩ := DataW.trod_bool Try.underlying4 h
  exact ⟨b, e⟩

theorem list4 {α : Type} {l : List α} (h : l.length = 4) : ∃ a b c d, l = [a, b, c, d] := by
  match l, h with
  | [a, b, c, d], _ => exact ⟨a, b, c, d, rfl⟩
theorem list5 {α : Type} {l : List α} (h : l.length = 5) : ∃ a b c d e, l = [a, b, c, d, e] := by
  match l, h with
  | [a, b, c, d, e], _ => exact ⟨a, b, c, d, e, rfl⟩
theorem list6 {α : Type} {l : List α} (h : l.length = 6) : ∃ a b c d e f, l = [a, b, c, d, e, f] := by
  match l, h with
  | [a, b, c, d, e, f], _ => exact ⟨a, b, c, d, e, f, rfl⟩

set_option maxRecDepth 100000 in
/-- A value's cells. -/
theorem trod_value {fuel : Nat} {cs : List Value} {x : DataW H × List MemPlace} (h : DataW.trod enc Try.prog w base spare held fuel 35 cs = some x) :
    ∃ v : Val, cs = [.int .i64 v.sh, .int .i64 v.pr, .int .i64 v.si, .string ⟨v.st.toArray⟩] ∧ v.st.length ≤ maxLen := by
  obtain ⟨xs, n, _, _, hl, hx, hf⟩ := DataW.trod_struct Try.underlying35 h
  have c35 : Try.prog.cellsOf 35 = 4 := by kernel_rfl
  have c3 : Try.prog.cellsOf 3 = 1 := by kernel_rfl
  have c9 : Try.prog.cellsOf 9 = 1 := by kernel_rfl
  rw [c35] at hl
  obtain ⟨a, b, c, d, rfl⟩ := list4 hl
  have get : ∀ i, i < 4 → xs[i]? = some (xs.getD i (.nil, [])) := fun i hi => by
    have : i < xs.length := by rw [hx]; exact hi
    simp [List.getD, List.getElem?_eq_getElem this]
  have f0 : DataW.trod enc Try.prog w base spare held n 3 (([a, b, c, d].drop 0).take (Try.prog.cellsOf 3)) = some (xs.getD 0 (.nil, [])) := (hf 0 _ rfl).trans (get 0 (by omega))
  have f1 : DataW.trod enc Try.prog w base spare held n 3 (([a, b, c, d].drop 1).take (Try.prog.cellsOf 3)) = some (xs.getD 1 (.nil, [])) := (hf 1 _ rfl).trans (get 1 (by omega))
  have f2 : DataW.trod enc Try.prog w base spare held n 3 (([a, b, c, d].drop 2).take (Try.prog.cellsOf 3)) = some (xs.getD 2 (.nil, [])) := (hf 2 _ rfl).trans (get 2 (by omega))
  have f3 : DataW.trod enc Try.prog w base spare held n 9 (([a, b, c, d].drop 3).take (Try.prog.cellsOf 9)) = some (xs.getD 3 (.nil, [])) := (hf 3 _ rfl).trans (get 3 (by omega))
  rw [c3] at f0 f1 f2
  rw [c9] at f3
  obtain ⟨z0, e0⟩ := trod_int1 f0
  obtain ⟨z1, e1⟩ := trod_int1 f1
  obtain ⟨z2, e2⟩ := trod_int1 f2
  obtain ⟨l, e3, w3⟩ := trod_text f3
  simp at e0 e1 e2 e3
  subst e0 e1 e2 e3
  exact ⟨⟨z0, z1, z2, l⟩, rfl, w3⟩

set_option maxRecDepth 100000 in
/-- A row's cells. -/
theorem trod_row {fuel : Nat} {cs : List Value} {x : DataW H × List MemPlace} (h : DataW.trod enc Try.prog w base spare held fuel 48 cs = some x) :
    ∃ r : Row, cs = rowVals r ∧ r.c.length ≤ maxLen ∧ r.v.st.length ≤ maxLen := by
  obtain ⟨xs, n, _, _, hl, hx, hf⟩ := DataW.trod_struct Try.underlying48 h
  have c48 : Try.prog.cellsOf 48 = 5 := by kernel_rfl
  have c35 : Try.prog.cellsOf 35 = 4 := by kernel_rfl
  have c9 : Try.prog.cellsOf 9 = 1 := by kernel_rfl
  rw [c48] at hl
  obtain ⟨a, b, c, d, e, rfl⟩ := list5 hl
  have get : ∀ i, i < 2 → xs[i]? = some (xs.getD i (.nil, [])) := fun i hi => by
    have : i < xs.length := by rw [hx]; exact hi
    simp [List.getD, List.getElem?_eq_getElem this]
  have f0 : DataW.trod enc Try.prog w base spare held n 9 (([a, b, c, d, e].drop 0).take (Try.prog.cellsOf 9)) = some (xs.getD 0 (.nil, [])) := (hf 0 _ rfl).trans (get 0 (by omega))
  have f1 : DataW.trod enc Try.prog w base spare held n 35 (([a, b, c, d, e].drop 1).take (Try.prog.cellsOf 35)) = some (xs.getD 1 (.nil, [])) := (hf 1 _ rfl).trans (get 1 (by omega))
  rw [c9] at f0
  rw [c35] at f1
  obtain ⟨l, e0, w0⟩ := trod_text f0
  obtain ⟨v, e1, w1⟩ := trod_value f1
  simp at e0 e1
  obtain ⟨e1, e2, e3, e4⟩ := e1
  subst e0 e1 e2 e3 e4
  exact ⟨⟨l, v⟩, rfl, w0, w1⟩

set_option maxRecDepth 100000 in
/-- A change's cells. -/
theorem trod_chg {fuel : Nat} {cs : List Value} {x : DataW H × List MemPlace} (h : DataW.trod enc Try.prog w base spare held fuel 37 cs = some x) :
    ∃ c : Chg, cs = [.string ⟨c.c.toArray⟩, .bool c.on, .int .i64 c.v.sh, .int .i64 c.v.pr, .int .i64 c.v.si, .string ⟨c.v.st.toArray⟩] ∧ c.c.length ≤ maxLen ∧ c.v.st.length ≤ maxLen := by
  obtain ⟨xs, n, _, _, hl, hx, hf⟩ := DataW.trod_struct Try.underlying37 h
  have c37 : Try.prog.cellsOf 37 = 6 := by kernel_rfl
  have c35 : Try.prog.cellsOf 35 = 4 := by kernel_rfl
  have c9 : Try.prog.cellsOf 9 = 1 := by kernel_rfl
  have c4 : Try.prog.cellsOf 4 = 1 := by kernel_rfl
  rw [c37] at hl
  obtain ⟨a, b, c, d, e, f, rfl⟩ := list6 hl
  have get : ∀ i, i < 3 → xs[i]? = some (xs.getD i (.nil, [])) := fun i hi => by
    have : i < xs.length := by rw [hx]; exact hi
    simp [List.getD, List.getElem?_eq_getElem this]
  have f0 : DataW.trod enc Try.prog w base spare held n 9 (([a, b, c, d, e, f].drop 0).take (Try.prog.cellsOf 9)) = some (xs.getD 0 (.nil, [])) := (hf 0 _ rfl).trans (get 0 (by omega))
  have f1 : DataW.trod enc Try.prog w base spare held n 4 (([a, b, c, d, e, f].drop 1).take (Try.prog.cellsOf 4)) = some (xs.getD 1 (.nil, [])) := (hf 1 _ rfl).trans (get 1 (by omega))
  have f2 : DataW.trod enc Try.prog w base spare held n 35 (([a, b, c, d, e, f].drop 2).take (Try.prog.cellsOf 35)) = some (xs.getD 2 (.nil, [])) := (hf 2 _ rfl).trans (get 2 (by omega))
  rw [c9] at f0
  rw [c4] at f1
  rw [c35] at f2
  obtain ⟨l, e0, w0⟩ := trod_text f0
  obtain ⟨o, e5⟩ := trod_truth f1
  obtain ⟨v, e1, w1⟩ := trod_value f2
  simp at e0 e1 e5
  obtain ⟨e1, e2, e3, e4⟩ := e1
  subst e0 e1 e2 e3 e4 e5
  exact ⟨⟨l, o, v⟩, rfl, w0, w1⟩

theorem choose_rows {n : Nat} {Q : Nat → Row → Prop} (h : ∀ i, i < n → ∃ r, Q i r) : ∃ t : List Row, t.length = n ∧ ∀ i, i < n → Q i (t.getD i Row.zero) := by
  induction n with
  | zero => exact ⟨[], rfl, fun i hi => absurd hi (by omega)⟩
  | succ n ih =>
    obtain ⟨t, hl, ht⟩ := ih fun i hi => h i (by omega)
    obtain ⟨r, hr⟩ := h n (by omega)
    refine ⟨t ++ [r], by simp [hl], fun i hi => ?_⟩
    by_cases hin : i < n
    · have := ht i hin
      simp only [List.getD] at this ⊢
      rwa [List.getElem?_append_left (by omega)]
    · obtain rfl : i = n := by omega
      simp only [List.getD]
      rw [List.getElem?_append_right (by omega), hl]
      simpa using hr

set_option maxRecDepth 100000 in
/-- A table that came in. -/
theorem open_tab {r : Reach} {b0 : Nat} {v : Value} {d : DataW H} {p : List MemPlace} (hv : Value.okWide Try.prog w r b0 22 v) (h : DataW.Trod enc Try.prog w base spare held 22 v d p) :
    ∃ t : List Row, Tab w v t ∧ ∀ r ∈ t, r.c.length ≤ maxLen ∧ r.v.st.length ≤ maxLen := by
  obtain ⟨a, len, cap, rfl⟩ := okWide_slice Try.underlying22 hv
  obtain ⟨fuel, hf⟩ := h
  rcases open_slice Try.underlying22 hf with ⟨hcs, _⟩ | ⟨x, l, c, m, n, D, Pl, hcs, _, hl, hm, hmm, _, hi⟩
  · simp [Value.cells] at hcs
    obtain ⟨rfl, rfl, rfl⟩ := hcs
    exact ⟨[], tab_nil w, by simp⟩
  · simp [Value.cells] at hcs
    obtain ⟨rfl, rfl, rfl⟩ := hcs
    have hlm : len ≤ m := by rw [hmm]; split <;> omega
    have c48 : Try.prog.cellsOf 48 = 5 := by kernel_rfl
    rw [c48] at hi
    obtain ⟨t, htl, ht⟩ := choose_rows (n := len) (Q := fun i r => (∀ j u, (rowVals r)[j]? = some u → w.cell? ((x.add (i * 5)).add j) = some u) ∧ r.c.length ≤ maxLen ∧ r.v.st.length ≤ maxLen) (fun i hil => by
      obtain ⟨cs', hc, htr⟩ := hi i (by omega)
      obtain ⟨_, hcl, hat⟩ := World.cells?_some hc
      obtain ⟨r, rfl, w1, w2⟩ := trod_row htr
      refine ⟨r, fun j u hu => ?_, w1, w2⟩
      have hj : j < 5 := by have := (List.getElem?_eq_some_iff.1 hu).1; rwa [rowVals_len] at this
      rw [hat j hj, hu])
    refine ⟨t, ⟨some x, cap, by rw [htl], by omega, by omega, (fun e => by cases e), ?_⟩, fun r hr => ?_⟩
    · by_cases h0 : len = 0
      · exact .inl (List.length_eq_zero_iff.1 (by omega))
      · obtain ⟨b, off, spot⟩ := x
        have hc := (ht 0 (by omega)).1 0 _ rfl
        have hspot : spot = none := by simpa [Addr.add] using World.cell?_spot hc
        subst hspot
        refine .inr ⟨b, off, rfl, ?_, fun i hil => cells5_of fun j u hu => ?_⟩
        · have := World.block_lt_of_cell? w _ hc
          simpa [Addr.add] using this
        · have := (ht i (by omega)).1 j u hu
          rwa [Addr.add_lit, Addr.add_lit] at this
    · obtain ⟨i, hil, rfl⟩ := List.getElem_of_mem hr
      rw [row_get hil]
      exact (ht i (by omega)).2

set_option maxRecDepth 100000 in
/-- A change that came in. -/
theorem open_chg {r : Reach} {b0 : Nat} {v : Value} {d : DataW H} {p : List MemPlace} (hv : Value.okWide Try.prog w r b0 37 v) (h : DataW.Trod enc Try.prog w base spare held 37 v d p) :
    ∃ c : Chg, v = chgAgg c ∧ c.c.length ≤ maxLen ∧ c.v.st.length ≤ maxLen := by
  obtain ⟨cs, rfl, _⟩ := okWide_struct Try.underlying37 hv
  obtain ⟨fuel, hf⟩ := h
  obtain ⟨c, hc, w1, w2⟩ := trod_chg hf
  refine ⟨c, ?_, w1, w2⟩
  unfold chgAgg
  obtain ⟨l⟩ := cs
  simp [Value.cells] at hc
  rw [hc]

end

end Go.Proofs.Ytocjeehoghfnmaa
