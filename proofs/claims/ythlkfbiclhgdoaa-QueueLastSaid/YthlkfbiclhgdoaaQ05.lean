/-
  TEXTS OF THE PROOF, one behind the other: DigFrame, OpenS, QueFrame, QueOne, Rgm, QueMay, ChgIns, QueFind, QuePush, SeqS, DigRset, DigSameC, QueOver, QuePop, Held.
-/
import Derived.Test.YthlkfbiclhgdoaaQ04
import Derived.ProofKit
import Derived.OpenShut
import Derived.Lib.SmallJoins
import Derived.Deep.Slices
import Derived.Deep.Fields
import Derived.ChangeSame
import Derived.Test.YthlkfbiclhgdoaaQ01
import Derived.Test.YthlkfbiclhgdoaaQ02
import Derived.Lib.QuietBelow
import Derived.Test.YthlkfbiclhgdoaaQ03
import Derived.Lib.Hide
import Derived.Maps.OwnSet
import Derived.Deep.RegionHeld
import Derived.Deep.AppendLies
import Derived.WalkSpells
import Derived.StillTailTactics
import Derived.Deep.DeepCutAuto
import Derived.Deep.CutBlock
import Derived.BigRegion

section

/-
  FOR THE FRAMES OF LAYER 5's PROOFS: tables and changes that came in, opened.
-/
namespace Go.Proofs.Ythlkfbiclhgdoaa
open Go.ChangeShapes Go.WideShapes Go.ChangeAt Go.RowKit Go.Deep

section
variable {H : Type} {enc : TypeId × Value → H} {w : World} {base : Nat} {spare : Nat → Bool} {held : Bool}

theorem trod_int1 {fuel : Nat} {cs : List Value} {x : DataW H × List MemPlace} (h : DataW.trod enc Try.prog w base spare held fuel 3 cs = some x) : ∃ z, cs = [.int .i64 z] := by
  obtain ⟨z, e, _, _⟩ := DataW.trod_int Try.underlying3 h
  exact ⟨z, e⟩

theorem trod_text {fuel : Nat} {cs : List Value} {x : DataW H × List MemPlace} (h : DataW.trod enc Try.prog w base spare held fuel 9 cs = some x) : ∃ l : List UInt8, cs = [.string ⟨l.toArray⟩] ∧ l.length ≤ maxLen := by
  obtain ⟨s, e, _, ws⟩ := DataW.trod_string Try.underlying9 h
  exact ⟨s.data.toList, by rw [e], Nat.le_trans (Nat.le_of_eq (Array.length_toList (xs := s.data))) ws⟩

theorem trod_truth {fuel : Nat} {cs : List Value} {x : DataW H × List MemPlace} (h : DataW.trod enc Try.prog w base spare held fuel 4 cs = some x) : ∃ b, cs = [.bool b] := by
  obtain ⟨b, e, _⟩ := DataW.trod_bool Try.underlying4 h
  exact ⟨b, e⟩

theorem list4 {α : Type} {l : List α} (h : l.length = 4) : ∃ a b c d, l = [a, b, c, d] := by
  match l, h with
  | [a, b, c, d], _ => exact ⟨a, b, c, d, rfl⟩
theorem list5 {α : Type} {l : List α} (h : l.length = 5) : ∃ a b c d e, l = [a, b, c, d, e] := by
  match l, h with
  | [a, b, c, d, e], _ => exact ⟨a, b, c, d, e, rfl⟩
theorem list6 {α : Type} {l : List α} (h : l.length = 6) : ∃ a b c d e f, l = [a, b, c, d, e, f] := by
  match l, h with
  | [a, b, c, d, e, f], _ => exact ⟨a, b, c, d, e, f, rfl⟩

set_option maxRecDepth 100000 in
/-- A value's cells. -/
theorem trod_value {fuel : Nat} {cs : List Value} {x : DataW H × List MemPlace} (h : DataW.trod enc Try.prog w base spare held fuel 31 cs = some x) :
    ∃ v : Val, cs = [.int .i64 v.sh, .int .i64 v.pr, .int .i64 v.si, .string ⟨v.st.toArray⟩] ∧ v.st.length ≤ maxLen := by
  obtain ⟨xs, n, _, _, hl, hx, hf⟩ := DataW.trod_struct Try.underlying31 h
  have c35 : Try.prog.cellsOf 31 = 4 := by kernel_rfl
  have c3 : Try.prog.cellsOf 3 = 1 := by kernel_rfl
  have c9 : Try.prog.cellsOf 9 = 1 := by kernel_rfl
  rw [c35] at hl
  obtain ⟨a, b, c, d, rfl⟩ := list4 hl
  have get : ∀ i, i < 4 → xs[i]? = some (xs.getD i (.nil, [])) := fun i hi => by
    have : i < xs.length := by rw [hx]; exact hi
    simp [List.getD, List.getElem?_eq_getElem this]
  have f0 : DataW.trod enc Try.prog w base spare held n 3 (([a, b, c, d].drop 0).take (Try.prog.cellsOf 3)) = some (xs.getD 0 (.nil, [])) := (hf 0 _ rfl).trans (get 0 (by omega))
  have f1 : DataW.trod enc Try.prog w base spare held n 3 (([a, b, c, d].drop 1).take (Try.prog.cellsOf 3)) = some (xs.getD 1 (.nil, [])) := (hf 1 _ rfl).trans (get 1 (by omega))
  have f2 : DataW.trod enc Try.prog w base spare held n 3 (([a, b, c, d].drop 2).take (Try.prog.cellsOf 3)) = some (xs.getD 2 (.nil, [])) := (hf 2 _ rfl).trans (get 2 (by omega))
  have f3 : DataW.trod enc Try.prog w base spare held n 9 (([a, b, c, d].drop 3).take (Try.prog.cellsOf 9)) = some (xs.getD 3 (.nil, [])) := (hf 3 _ rfl).trans (get 3 (by omega))
  rw [c3] at f0 f1 f2
  rw [c9] at f3
  obtain ⟨z0, e0⟩ := trod_int1 f0
  obtain ⟨z1, e1⟩ := trod_int1 f1
  obtain ⟨z2, e2⟩ := trod_int1 f2
  obtain ⟨l, e3, w3⟩ := trod_text f3
  simp at e0 e1 e2 e3
  subst e0 e1 e2 e3
  exact ⟨⟨z0, z1, z2, l⟩, rfl, w3⟩

set_option maxRecDepth 100000 in
/-- A row's cells. -/
theorem trod_row {fuel : Nat} {cs : List Value} {x : DataW H × List MemPlace} (h : DataW.trod enc Try.prog w base spare held fuel 72 cs = some x) :
    ∃ r : Row, cs = rowVals r ∧ r.c.length ≤ maxLen ∧ r.v.st.length ≤ maxLen := by
  obtain ⟨xs, n, _, _, hl, hx, hf⟩ := DataW.trod_struct Try.underlying72 h
  have c48 : Try.prog.cellsOf 72 = 5 := by kernel_rfl
  have c35 : Try.prog.cellsOf 31 = 4 := by kernel_rfl
  have c9 : Try.prog.cellsOf 9 = 1 := by kernel_rfl
  rw [c48] at hl
  obtain ⟨a, b, c, d, e, rfl⟩ := list5 hl
  have get : ∀ i, i < 2 → xs[i]? = some (xs.getD i (.nil, [])) := fun i hi => by
    have : i < xs.length := by rw [hx]; exact hi
    simp [List.getD, List.getElem?_eq_getElem this]
  have f0 : DataW.trod enc Try.prog w base spare held n 9 (([a, b, c, d, e].drop 0).take (Try.prog.cellsOf 9)) = some (xs.getD 0 (.nil, [])) := (hf 0 _ rfl).trans (get 0 (by omega))
  have f1 : DataW.trod enc Try.prog w base spare held n 31 (([a, b, c, d, e].drop 1).take (Try.prog.cellsOf 31)) = some (xs.getD 1 (.nil, [])) := (hf 1 _ rfl).trans (get 1 (by omega))
  rw [c9] at f0
  rw [c35] at f1
  obtain ⟨l, e0, w0⟩ := trod_text f0
  obtain ⟨v, e1, w1⟩ := trod_value f1
  simp at e0 e1
  obtain ⟨e1, e2, e3, e4⟩ := e1
  subst e0 e1 e2 e3 e4
  exact ⟨⟨l, v⟩, rfl, w0, w1⟩

set_option maxRecDepth 100000 in
/-- A change's cells. -/
theorem trod_chg {fuel : Nat} {cs : List Value} {x : DataW H × List MemPlace} (h : DataW.trod enc Try.prog w base spare held fuel 33 cs = some x) :
    ∃ c : Chg, cs = [.string ⟨c.c.toArray⟩, .bool c.on, .int .i64 c.v.sh, .int .i64 c.v.pr, .int .i64 c.v.si, .string ⟨c.v.st.toArray⟩] ∧ c.c.length ≤ maxLen ∧ c.v.st.length ≤ maxLen := by
  obtain ⟨xs, n, _, _, hl, hx, hf⟩ := DataW.trod_struct Try.underlying33 h
  have c37 : Try.prog.cellsOf 33 = 6 := by kernel_rfl
  have c35 : Try.prog.cellsOf 31 = 4 := by kernel_rfl
  have c9 : Try.prog.cellsOf 9 = 1 := by kernel_rfl
  have c4 : Try.prog.cellsOf 4 = 1 := by kernel_rfl
  rw [c37] at hl
  obtain ⟨a, b, c, d, e, f, rfl⟩ := list6 hl
  have get : ∀ i, i < 3 → xs[i]? = some (xs.getD i (.nil, [])) := fun i hi => by
    have : i < xs.length := by rw [hx]; exact hi
    simp [List.getD, List.getElem?_eq_getElem this]
  have f0 : DataW.trod enc Try.prog w base spare held n 9 (([a, b, c, d, e, f].drop 0).take (Try.prog.cellsOf 9)) = some (xs.getD 0 (.nil, [])) := (hf 0 _ rfl).trans (get 0 (by omega))
  have f1 : DataW.trod enc Try.prog w base spare held n 4 (([a, b, c, d, e, f].drop 1).take (Try.prog.cellsOf 4)) = some (xs.getD 1 (.nil, [])) := (hf 1 _ rfl).trans (get 1 (by omega))
  have f2 : DataW.trod enc Try.prog w base spare held n 31 (([a, b, c, d, e, f].drop 2).take (Try.prog.cellsOf 31)) = some (xs.getD 2 (.nil, [])) := (hf 2 _ rfl).trans (get 2 (by omega))
  rw [c9] at f0
  rw [c4] at f1
  rw [c35] at f2
  obtain ⟨l, e0, w0⟩ := trod_text f0
  obtain ⟨o, e5⟩ := trod_truth f1
  obtain ⟨v, e1, w1⟩ := trod_value f2
  simp at e0 e1 e5
  obtain ⟨e1, e2, e3, e4⟩ := e1
  subst e0 e1 e2 e3 e4 e5
  exact ⟨⟨l, o, v⟩, rfl, w0, w1⟩

theorem choose_rows {n : Nat} {Q : Nat → Row → Prop} (h : ∀ i, i < n → ∃ r, Q i r) : ∃ t : List Row, t.length = n ∧ ∀ i, i < n → Q i (t.getD i Row.zero) := by
  induction n with
  | zero => exact ⟨[], rfl, fun i hi => absurd hi (by omega)⟩
  | succ n ih =>
    obtain ⟨t, hl, ht⟩ := ih fun i hi => h i (by omega)
    obtain ⟨r, hr⟩ := h n (by omega)
    refine ⟨t ++ [r], by simp [hl], fun i hi => ?_⟩
    by_cases hin : i < n
    · have := ht i hin
      simp only [List.getD] at this ⊢
      rwa [List.getElem?_append_left (by omega)]
    · obtain rfl : i = n := by omega
      simp only [List.getD]
      rw [List.getElem?_append_right (by omega), hl]
      simpa using hr

set_option maxRecDepth 100000 in
/-- A table that came in. -/
theorem open_tab {r : Reach} {b0 : Nat} {v : Value} {d : DataW H} {p : List MemPlace} (hv : Value.okWide Try.prog w r b0 25 v) (h : DataW.Trod enc Try.prog w base spare held 25 v d p) :
    ∃ t : List Row, Tab w v t ∧ ∀ r ∈ t, r.c.length ≤ maxLen ∧ r.v.st.length ≤ maxLen := by
  obtain ⟨a, len, cap, rfl⟩ := okWide_slice Try.underlying25 hv
  obtain ⟨fuel, hf⟩ := h
  rcases open_slice Try.underlying25 hf with ⟨hcs, _⟩ | ⟨x, l, c, m, n, D, Pl, hcs, _, hl, hm, hmm, _, hi⟩
  · simp [Value.cells] at hcs
    obtain ⟨rfl, rfl, rfl⟩ := hcs
    exact ⟨[], tab_nil w, by simp⟩
  · simp [Value.cells] at hcs
    obtain ⟨rfl, rfl, rfl⟩ := hcs
    have hlm : len ≤ m := by rw [hmm]; split <;> omega
    have c48 : Try.prog.cellsOf 72 = 5 := by kernel_rfl
    rw [c48] at hi
    obtain ⟨t, htl, ht⟩ := choose_rows (n := len) (Q := fun i r => (∀ j u, (rowVals r)[j]? = some u → w.cell? ((x.add (i * 5)).add j) = some u) ∧ r.c.length ≤ maxLen ∧ r.v.st.length ≤ maxLen) (fun i hil => by
      obtain ⟨cs', hc, htr⟩ := hi i (by omega)
      obtain ⟨_, hcl, hat⟩ := World.cells?_some hc
      obtain ⟨r, rfl, w1, w2⟩ := trod_row htr
      refine ⟨r, fun j u hu => ?_, w1, w2⟩
      have hj : j < 5 := by have := (List.getElem?_eq_some_iff.1 hu).1; rwa [rowVals_len] at this
      rw [hat j hj, hu])
    refine ⟨t, ⟨some x, cap, by rw [htl], by omega, by omega, (fun e => by cases e), ?_⟩, fun r hr => ?_⟩
    · by_cases h0 : len = 0
      · exact .inl (List.length_eq_zero_iff.1 (by omega))
      · obtain ⟨b, off, spot⟩ := x
        have hc := (ht 0 (by omega)).1 0 _ rfl
        have hspot : spot = none := by simpa [Addr.add] using World.cell?_spot hc
        subst hspot
        refine .inr ⟨b, off, rfl, ?_, fun i hil => cells5_of fun j u hu => ?_⟩
        · have := World.block_lt_of_cell? w _ hc
          simpa [Addr.add] using this
        · have := (ht i (by omega)).1 j u hu
          rwa [Addr.add_lit, Addr.add_lit] at this
    · obtain ⟨i, hil, rfl⟩ := List.getElem_of_mem hr
      rw [row_get hil]
      exact (ht i (by omega)).2

set_option maxRecDepth 100000 in
/-- A change that came in. -/
theorem open_chg {r : Reach} {b0 : Nat} {v : Value} {d : DataW H} {p : List MemPlace} (hv : Value.okWide Try.prog w r b0 33 v) (h : DataW.Trod enc Try.prog w base spare held 33 v d p) :
    ∃ c : Chg, v = chgAgg c ∧ c.c.length ≤ maxLen ∧ c.v.st.length ≤ maxLen := by
  obtain ⟨cs, rfl, _⟩ := okWide_struct Try.underlying33 hv
  obtain ⟨fuel, hf⟩ := h
  obtain ⟨c, hc, w1, w2⟩ := trod_chg hf
  refine ⟨c, ?_, w1, w2⟩
  unfold chgAgg
  obtain ⟨l⟩ := cs
  simp [Value.cells] at hc
  rw [hc]

end

end Go.Proofs.Ythlkfbiclhgdoaa

end

section

/-
  FOR THE FRAMES: a slice of structs that came in, opened; over any program.
-/
namespace Go.Proofs.Ythlkfbiclhgdoaa
open Go.ChangeShapes Go.WideShapes Go.ChangeAt Go.RowKit Go.Deep

theorem choose_S {α : Type} (zero : α) {n : Nat} {Q : Nat → α → Prop} (h : ∀ i, i < n → ∃ r, Q i r) : ∃ t : List α, t.length = n ∧ ∀ i, i < n → Q i (t.getD i zero) := by
  induction n with
  | zero => exact ⟨[], rfl, fun i hi => absurd hi (by omega)⟩
  | succ n ih =>
    obtain ⟨t, hl, ht⟩ := ih fun i hi => h i (by omega)
    obtain ⟨r, hr⟩ := h n (by omega)
    refine ⟨t ++ [r], by simp [hl], fun i hi => ?_⟩
    by_cases hin : i < n
    · have := ht i hin
      simp only [List.getD] at this ⊢
      rwa [List.getElem?_append_left (by omega)]
    · obtain rfl : i = n := by omega
      simp only [List.getD]
      rw [List.getElem?_append_right (by omega), hl]
      simpa using hr

/-- A slice of structs that came in. -/
theorem open_rdS {α : Type} {P : Program} {vals : α → List Value} {sz : Nat} {zero : α} {T S : TypeId} {Z : Value} {bytes : Nat} (D : RowOK P vals sz zero T S Z bytes) (hcells : P.cellsOf T = sz)
    {H : Type} {enc : TypeId × Value → H} {w : World} {base : Nat} {spare : Nat → Bool} {held : Bool} {ok : α → Prop}
    (helem : ∀ fuel cs x, DataW.trod enc P w base spare held fuel T cs = some x → ∃ r, cs = vals r ∧ ok r)
    {r : Reach} {b0 : Nat} {v : Value} {d : DataW H} {p : List MemPlace} (hv : Value.okWide P w r b0 S v) (h : DataW.Trod enc P w base spare held S v d p) :
    ∃ t : List α, RdS vals sz zero w v t ∧ ∀ r ∈ t, ok r := by
  obtain ⟨a, len, cap, rfl⟩ := okWide_slice D.under hv
  obtain ⟨fuel, hf⟩ := h
  rcases open_slice D.under hf with ⟨hcs, _⟩ | ⟨x, l, c, m, n, D', Pl, hcs, _, hl, hm, hmm, _, hi⟩
  · simp [Value.cells] at hcs
    obtain ⟨rfl, rfl, rfl⟩ := hcs
    exact ⟨[], rdS_nil w, by simp⟩
  · simp [Value.cells] at hcs
    obtain ⟨rfl, rfl, rfl⟩ := hcs
    have hlm : len ≤ m := by rw [hmm]; split <;> omega
    rw [hcells] at hi
    obtain ⟨t, htl, ht⟩ := choose_S zero (n := len) (Q := fun i r => (∀ j u, (vals r)[j]? = some u → w.cell? ((x.add (i * sz)).add j) = some u) ∧ ok r) (fun i hil => by
      obtain ⟨cs', hc, htr⟩ := hi i (by omega)
      obtain ⟨_, hcl, hat⟩ := World.cells?_some hc
      obtain ⟨r, rfl, w1⟩ := helem _ _ _ htr
      refine ⟨r, fun j u hu => ?_, w1⟩
      have hj : j < sz := by have := (List.getElem?_eq_some_iff.1 hu).1; rwa [D.len] at this
      rw [hat j hj, hu])
    refine ⟨t, ⟨some x, cap, by rw [htl], by omega, by omega, (fun e => by cases e), ?_⟩, fun r hr => ?_⟩
    · by_cases h0 : len = 0
      · exact .inl (List.length_eq_zero_iff.1 (by omega))
      · obtain ⟨b, off, spot⟩ := x
        have hne : 0 < (vals (t.getD 0 zero)).length := by rw [D.len]; exact D.pos
        have hc := (ht 0 (by omega)).1 0 _ (List.getElem?_eq_getElem hne)
        have hspot : spot = none := by simpa [Addr.add] using World.cell?_spot hc
        subst hspot
        refine .inr ⟨b, off, rfl, ?_, fun i hil => fun j u hu => ?_⟩
        · have := World.block_lt_of_cell? w _ hc
          simpa [Addr.add] using this
        · have := (ht i (by omega)).1 j u hu
          rwa [Addr.add_lit, Addr.add_lit] at this
    · obtain ⟨i, hil, rfl⟩ := List.getElem_of_mem hr
      have := (ht i (by omega)).2
      rwa [List.getD_eq_getElem?_getD, List.getElem?_eq_getElem hil] at this

end Go.Proofs.Ythlkfbiclhgdoaa

end

section

/-
  LAYER 17: queues and changes that come in.
-/
namespace Go.Proofs.Ythlkfbiclhgdoaa
open Go.ChangeShapes Go.WideShapes Go.ChangeAt Go.RowKit Go.Deep

section
variable {H : Type} {enc : TypeId × Value → H} {w : World} {base : Nat} {spare : Nat → Bool} {held : Bool}

def cFit (c : Chg) : Prop := c.c.length ≤ maxLen ∧ c.v.st.length ≤ maxLen

theorem trod_chgQ (fuel : Nat) (cs : List Value) (x : DataW H × List MemPlace) (h : DataW.trod enc Try.prog w base spare held fuel 33 cs = some x) : ∃ c : Chg, cs = chgVals c ∧ cFit c := by
  obtain ⟨c, hc, w1, w2⟩ := trod_chg h
  exact ⟨c, hc, w1, w2⟩

theorem rdS_trodQ {fuel : Nat} {cs : List Value} {z : DataW H × List MemPlace} (hf : DataW.trod enc Try.prog w base spare held fuel 22 cs = some z) :
    ∃ v, cs = [v] ∧ ∃ t : List Chg, Chgs w v t := by
  rcases open_slice Try.underlying22 hf with ⟨hcs, _⟩ | ⟨x, len, cap, m, n, D', Pl, hcs, _, hl, hm, hmm, _, hi⟩
  · exact ⟨_, hcs, [], chgs_nil w⟩
  · refine ⟨_, hcs, ?_⟩
    have hlm : len ≤ m := by rw [hmm]; split <;> omega
    rw [show Try.prog.cellsOf 33 = 6 from by kernel_rfl] at hi
    obtain ⟨t, htl, ht⟩ := choose_S Chg.zero (n := len) (Q := fun i r => ∀ j u, (chgVals r)[j]? = some u → w.cell? ((x.add (i * 6)).add j) = some u) (fun i hil => by
      obtain ⟨cs', hc, htr⟩ := hi i (by omega)
      obtain ⟨_, hcl, hat⟩ := World.cells?_some hc
      obtain ⟨r, rfl, _⟩ := trod_chgQ _ _ _ htr
      refine ⟨r, fun j u hu => ?_⟩
      have hj : j < 6 := by have := (List.getElem?_eq_some_iff.1 hu).1; rwa [chgVals_len] at this
      rw [hat j hj, hu])
    refine ⟨t, chgs_of ⟨some x, cap, by rw [htl], by omega, by omega, (fun e => by cases e), ?_⟩⟩
    by_cases h0 : len = 0
    · exact .inl (List.length_eq_zero_iff.1 (by omega))
    · obtain ⟨b, off, spot⟩ := x
      have hc := ht 0 (by omega) 0 _ rfl
      have hspot : spot = none := by simpa [Addr.add] using World.cell?_spot hc
      subst hspot
      refine .inr ⟨b, off, rfl, ?_, fun i hil => fun j u hu => ?_⟩
      · have := World.block_lt_of_cell? w _ hc
        simpa [Addr.add] using this
      · have := ht i (by omega) j u hu
        rwa [Addr.add_lit, Addr.add_lit] at this

theorem list2Q {α : Type} {l : List α} (h : l.length = 2) : ∃ a b, l = [a, b] := by
  match l, h with
  | [a, b], _ => exact ⟨a, b, rfl⟩

set_option maxRecDepth 100000 in
/-- A queue that came in. -/
theorem open_que {r : Reach} {b0 : Nat} {v : Value} {d : DataW H} {p : List MemPlace} (hv : Value.okWide Try.prog w r b0 24 v) (h : DataW.Trod enc Try.prog w base spare held 24 v d p) :
    ∃ (x : Value) (q : Que), v = .agg #[x, .bool q.la] ∧ Chgs w x q.l := by
  obtain ⟨cs, rfl, _⟩ := okWide_struct Try.underlying24 hv
  obtain ⟨fuel, hf0⟩ := h
  obtain ⟨xs, n, _, _, hl, hx, hf⟩ := DataW.trod_struct Try.underlying24 hf0
  have c2 : Try.prog.cellsOf 24 = 2 := by kernel_rfl
  have c1 : Try.prog.cellsOf 22 = 1 := by kernel_rfl
  have c9 : Try.prog.cellsOf 4 = 1 := by kernel_rfl
  rw [c2] at hl
  obtain ⟨a, b, hab⟩ := list2Q hl
  rw [hab] at hf
  have get : ∀ i, i < 2 → xs[i]? = some (xs.getD i (.nil, [])) := fun i hi => by
    have : i < xs.length := by rw [hx]; exact hi
    simp [List.getD, List.getElem?_eq_getElem this]
  have f0 : DataW.trod enc Try.prog w base spare held n 22 (([a, b].drop 0).take (Try.prog.cellsOf 22)) = some (xs.getD 0 (.nil, [])) := (hf 0 _ rfl).trans (get 0 (by omega))
  have f1 : DataW.trod enc Try.prog w base spare held n 4 (([a, b].drop 1).take (Try.prog.cellsOf 4)) = some (xs.getD 1 (.nil, [])) := (hf 1 _ rfl).trans (get 1 (by omega))
  rw [c1] at f0
  rw [c9] at f1
  simp only [List.drop_succ_cons, List.drop_zero, List.take_succ_cons, List.take_zero] at f0 f1
  obtain ⟨x, hx0, le, hle⟩ := rdS_trodQ f0
  obtain ⟨bb, hb0, _⟩ := DataW.trod_bool Try.underlying4 f1
  simp only [List.cons.injEq, and_true] at hx0 hb0
  subst hx0 hb0
  refine ⟨a, ⟨le, bb⟩, ?_, hle⟩
  obtain ⟨l⟩ := cs
  simp only [Value.cells] at hab
  rw [hab]

set_option maxRecDepth 100000 in
/-- Changes that came in. -/
theorem open_chgs {r : Reach} {b0 : Nat} {v : Value} {d : DataW H} {p : List MemPlace} (hv : Value.okWide Try.prog w r b0 22 v) (h : DataW.Trod enc Try.prog w base spare held 22 v d p) :
    ∃ l : List Chg, Chgs w v l := by
  obtain ⟨t, ht, _⟩ := open_rdS (ok := cFit) chgOK (by kernel_rfl) trod_chgQ hv h
  exact ⟨t, chgs_of ht⟩

def chg2Agg (a b : Chg) : Value := .agg #[.string ⟨a.c.toArray⟩, .bool a.on, .int .i64 a.v.sh, .int .i64 a.v.pr, .int .i64 a.v.si, .string ⟨a.v.st.toArray⟩, .string ⟨b.c.toArray⟩, .bool b.on, .int .i64 b.v.sh, .int .i64 b.v.pr, .int .i64 b.v.si, .string ⟨b.v.st.toArray⟩]

set_option maxRecDepth 100000 in
/-- Two changes that came in by value. -/
theorem open_chg2 {r : Reach} {b0 : Nat} {v : Value} {d : DataW H} {p : List MemPlace} (hv : Value.okWide Try.prog w r b0 49 v) (h : DataW.Trod enc Try.prog w base spare held 49 v d p) :
    ∃ a b : Chg, v = chg2Agg a b := by
  simp only [Value.okWide, Try.underlying49] at hv
  obtain ⟨cs, rfl, hsz, _⟩ := hv
  rw [show Try.prog.cellsOf 49 = 12 from by kernel_rfl] at hsz
  obtain ⟨fuel, hf⟩ := h
  obtain ⟨xs, m, _, _, _, hxl, hi⟩ := DataW.trod_array Try.underlying49 hf
  have hcells : (Value.agg cs).cells.toList = cs.toList := rfl
  have hlen : cs.toList.length = 12 := by simp; omega
  have get : ∀ i, i < 2 → ∃ c : Chg, (cs.toList.drop (i * 6)).take 6 = chgVals c := fun i hil => by
    have h1 := hi i (by omega)
    rw [show Try.prog.cellsOf 33 = 6 from by kernel_rfl, hcells] at h1
    have h2 : xs[i]? = some xs[i] := List.getElem?_eq_getElem (by omega)
    rw [h2] at h1
    obtain ⟨c, hc, _⟩ := trod_chgQ _ _ _ h1
    exact ⟨c, hc⟩
  obtain ⟨a, ha⟩ := get 0 (by omega)
  obtain ⟨b, hb⟩ := get 1 (by omega)
  refine ⟨a, b, ?_⟩
  have hall : cs.toList = chgVals a ++ chgVals b := by
    have e1 : cs.toList = cs.toList.take 6 ++ cs.toList.drop 6 := (List.take_append_drop 6 _).symm
    have e2 : (cs.toList.drop 6).take 6 = cs.toList.drop 6 := List.take_of_length_le (by simp only [List.length_drop]; omega)
    rw [Nat.zero_mul, List.drop_zero] at ha
    rw [Nat.one_mul, e2] at hb
    rw [e1, ha, hb]
  have : cs = (chgVals a ++ chgVals b).toArray := by rw [← hall]
  rw [this]
  rfl

end

end Go.Proofs.Ythlkfbiclhgdoaa

end

section

/-
  LAYER 17: whether a change may be, the code's and the document's.
-/
namespace Go.Proofs.Ythlkfbiclhgdoaa
open Go.RowKit

theorem six_new (w : World) (a b c d e f : Value) (t : TypeId) : (w.alloc (.cells #[a, b, c, d, e, f] t)).cell? ⟨w.heap.size, 0, none⟩ = some a ∧ (w.alloc (.cells #[a, b, c, d, e, f] t)).cell? ⟨w.heap.size, 1, none⟩ = some b ∧ (w.alloc (.cells #[a, b, c, d, e, f] t)).cell? ⟨w.heap.size, 2, none⟩ = some c ∧ (w.alloc (.cells #[a, b, c, d, e, f] t)).cell? ⟨w.heap.size, 3, none⟩ = some d ∧ (w.alloc (.cells #[a, b, c, d, e, f] t)).cell? ⟨w.heap.size, 4, none⟩ = some e ∧ (w.alloc (.cells #[a, b, c, d, e, f] t)).cell? ⟨w.heap.size, 5, none⟩ = some f := six_cells w a b c d e f t

theorem zero_eql (a b d : Int) (st : List UInt8) {r : Bool} (h : vSame ⟨a, b, d, st⟩ Val.zero = r) (w : World) :
    (binOp .eql 31 (.agg #[.int .i64 a, .int .i64 b, .int .i64 d, .string ⟨st.toArray⟩]) (.agg #[.int .i64 0, .int .i64 0, .int .i64 0, .string ⟨#[]⟩])).run Try.prog w = .ok (.bool r) w := by
  have := val_eql5 a b d 0 0 0 st [] w
  rw [show (⟨0, 0, 0, []⟩ : Val) = Val.zero from rfl, h] at this
  exact this

set_option maxHeartbeats 1600000 in
set_option maxRecDepth 100000 in
theorem quone_is (c st : List UInt8) (on : Bool) (a b d : Int) (hc : c.length ≤ 4294967296) (h : idIs c = false) (w : World) :
    Calls Try.prog 12 #[.agg #[.string ⟨c.toArray⟩, .bool on, .int .i64 a, .int .i64 b, .int .i64 d, .string ⟨st.toArray⟩]] w fun e w' => e = .returned (.bool false) ∧ Below w.heap.size w w' := by
  have b0 := bl_newZ w (.cells #[.string ⟨c.toArray⟩, .bool on, .int .i64 a, .int .i64 b, .int .i64 d, .string ⟨st.toArray⟩] 33)
  have HB := Lib.hid b0
  have C : Hid (Cells6 (w.alloc (.cells #[.string ⟨c.toArray⟩, .bool on, .int .i64 a, .int .i64 b, .int .i64 d, .string ⟨st.toArray⟩] 33)) w.heap.size 0 ⟨c, on, ⟨a, b, d, st⟩⟩) := Lib.hid (six_new w _ _ _ _ _ _ _)
  have hlt := Nat.lt_succ_self w.heap.size
  clear b0
  have HH := Lib.hid h
  clear h
  go_enter Try.func12, Try.ntmps12
  go_wp2_with fail
  refine (is_eq c hc HH _).mono ?_
  rintro e w1 ⟨rfl, b1⟩
  replace C := Lib.hid (C.out.later b1 (by simp))
  replace HB := Lib.hid (below2Z HB.out b1)
  clear b1
  obtain ⟨q0, q1, q2, q3, q4, q5⟩ := C.out
  simp only [Nat.zero_add] at q1 q2 q3 q4 q5
  go_wp2_with fail
  go_ret
  exact ⟨rfl, HB.out⟩

set_option maxHeartbeats 1600000 in
set_option maxRecDepth 100000 in
theorem quone_on (c st : List UInt8) (a b d : Int) (hc : c.length ≤ 4294967296) (hs : st.length ≤ 4294967296) (h : idIs c = true) {r : Bool} (hr : vaMay ⟨a, b, d, st⟩ = r) (w : World) :
    Calls Try.prog 12 #[.agg #[.string ⟨c.toArray⟩, .bool true, .int .i64 a, .int .i64 b, .int .i64 d, .string ⟨st.toArray⟩]] w fun e w' => e = .returned (.bool r) ∧ Below w.heap.size w w' := by
  have b0 := bl_newZ w (.cells #[.string ⟨c.toArray⟩, .bool true, .int .i64 a, .int .i64 b, .int .i64 d, .string ⟨st.toArray⟩] 33)
  have HB := Lib.hid b0
  have C : Hid (Cells6 (w.alloc (.cells #[.string ⟨c.toArray⟩, .bool true, .int .i64 a, .int .i64 b, .int .i64 d, .string ⟨st.toArray⟩] 33)) w.heap.size 0 ⟨c, true, ⟨a, b, d, st⟩⟩) := Lib.hid (six_new w _ _ _ _ _ _ _)
  have hlt := Nat.lt_succ_self w.heap.size
  clear b0
  have HH := Lib.hid h
  have HR := Lib.hid hr
  clear h hr
  go_enter Try.func12, Try.ntmps12
  go_wp2_with fail
  refine (is_eq c hc HH _).mono ?_
  rintro e w1 ⟨rfl, b1⟩
  replace C := Lib.hid (C.out.later b1 (by simp))
  replace HB := Lib.hid (below2Z HB.out b1)
  clear b1
  obtain ⟨q0, q1, q2, q3, q4, q5⟩ := C.out
  simp only [Nat.zero_add] at q1 q2 q3 q4 q5
  go_wp2_with fail
  refine (may_eq a b d st hs HR _).mono ?_
  rintro e w2 ⟨rfl, b2⟩
  replace HB := Lib.hid (below2Z HB.out b2)
  clear b2
  go_wp2_with fail
  go_ret
  exact ⟨rfl, HB.out⟩

set_option maxHeartbeats 1600000 in
set_option maxRecDepth 100000 in
theorem quone_off (c st : List UInt8) (a b d : Int) (hc : c.length ≤ 4294967296) (h : idIs c = true) {r : Bool} (hr : vSame ⟨a, b, d, st⟩ Val.zero = r) (w : World) :
    Calls Try.prog 12 #[.agg #[.string ⟨c.toArray⟩, .bool false, .int .i64 a, .int .i64 b, .int .i64 d, .string ⟨st.toArray⟩]] w fun e w' => e = .returned (.bool r) ∧ Below w.heap.size w w' := by
  have b0 := bl_newZ w (.cells #[.string ⟨c.toArray⟩, .bool false, .int .i64 a, .int .i64 b, .int .i64 d, .string ⟨st.toArray⟩] 33)
  have HB := Lib.hid b0
  have C : Hid (Cells6 (w.alloc (.cells #[.string ⟨c.toArray⟩, .bool false, .int .i64 a, .int .i64 b, .int .i64 d, .string ⟨st.toArray⟩] 33)) w.heap.size 0 ⟨c, false, ⟨a, b, d, st⟩⟩) := Lib.hid (six_new w _ _ _ _ _ _ _)
  have hlt := Nat.lt_succ_self w.heap.size
  clear b0
  have HH := Lib.hid h
  have heq := fun w => zero_eql a b d st hr w
  have hgd : Try.prog.eqGuardType Try.prog.depth 31 = false := by kernel_rfl
  clear h hr
  go_enter Try.func12, Try.ntmps12
  go_wp2_with fail
  refine (is_eq c hc HH _).mono ?_
  rintro e w1 ⟨rfl, b1⟩
  replace C := Lib.hid (C.out.later b1 (by simp))
  replace HB := Lib.hid (below2Z HB.out b1)
  clear b1
  obtain ⟨q0, q1, q2, q3, q4, q5⟩ := C.out
  simp only [Nat.zero_add] at q1 q2 q3 q4 q5
  go_wp2_with fail
  go_ret
  exact ⟨rfl, HB.out⟩

theorem quone_any (c st : List UInt8) (on : Bool) (a b d : Int) (hc : c.length ≤ 4294967296) (hs : st.length ≤ 4294967296) {r : Bool} (h : Hid (quOne ⟨c, on, ⟨a, b, d, st⟩⟩ = r)) (w : World) :
    Calls Try.prog 12 #[.agg #[.string ⟨c.toArray⟩, .bool on, .int .i64 a, .int .i64 b, .int .i64 d, .string ⟨st.toArray⟩]] w fun e w' => e = .returned (.bool r) ∧ Below w.heap.size w w' := by
  have h := h.out
  unfold quOne at h
  simp only at h
  cases hi : idIs c with
  | false =>
    rw [hi, Bool.false_and] at h
    subst h
    exact quone_is c st on a b d hc hi w
  | true =>
    rw [hi, Bool.true_and] at h
    cases on with
    | true =>
      rw [if_pos rfl] at h
      exact quone_on c st a b d hc hs hi h w
    | false =>
      rw [if_neg (by simp)] at h
      exact quone_off c st a b d hc hi h w

set_option maxHeartbeats 1600000 in
set_option maxRecDepth 100000 in
theorem rquone_is (c st : List UInt8) (on : Bool) (a b d : Int) (hc : c.length ≤ 4294967296) (h : idIs c = false) (w : World) :
    Calls Try.prog 13 #[.agg #[.string ⟨c.toArray⟩, .bool on, .int .i64 a, .int .i64 b, .int .i64 d, .string ⟨st.toArray⟩]] w fun e w' => e = .returned (.bool false) ∧ Below w.heap.size w w' := by
  have b0 := bl_newZ w (.cells #[.string ⟨c.toArray⟩, .bool on, .int .i64 a, .int .i64 b, .int .i64 d, .string ⟨st.toArray⟩] 33)
  have HB := Lib.hid b0
  have C : Hid (Cells6 (w.alloc (.cells #[.string ⟨c.toArray⟩, .bool on, .int .i64 a, .int .i64 b, .int .i64 d, .string ⟨st.toArray⟩] 33)) w.heap.size 0 ⟨c, on, ⟨a, b, d, st⟩⟩) := Lib.hid (six_new w _ _ _ _ _ _ _)
  have hlt := Nat.lt_succ_self w.heap.size
  clear b0
  have HH := Lib.hid h
  clear h
  go_enter Try.func13, Try.ntmps13
  go_wp2_with fail
  refine (ris_eq c hc HH _).mono ?_
  rintro e w1 ⟨rfl, rfl⟩
  go_wp2_with fail
  go_ret
  exact ⟨rfl, HB.out⟩

set_option maxHeartbeats 1600000 in
set_option maxRecDepth 100000 in
theorem rquone_on (c st : List UInt8) (a b d : Int) (hc : c.length ≤ 4294967296) (hs : st.length ≤ 4294967296) (h : idIs c = true) {r : Bool} (hr : vaMay ⟨a, b, d, st⟩ = r) (w : World) :
    Calls Try.prog 13 #[.agg #[.string ⟨c.toArray⟩, .bool true, .int .i64 a, .int .i64 b, .int .i64 d, .string ⟨st.toArray⟩]] w fun e w' => e = .returned (.bool r) ∧ Below w.heap.size w w' := by
  have b0 := bl_newZ w (.cells #[.string ⟨c.toArray⟩, .bool true, .int .i64 a, .int .i64 b, .int .i64 d, .string ⟨st.toArray⟩] 33)
  have HB := Lib.hid b0
  have C : Hid (Cells6 (w.alloc (.cells #[.string ⟨c.toArray⟩, .bool true, .int .i64 a, .int .i64 b, .int .i64 d, .string ⟨st.toArray⟩] 33)) w.heap.size 0 ⟨c, true, ⟨a, b, d, st⟩⟩) := Lib.hid (six_new w _ _ _ _ _ _ _)
  have hlt := Nat.lt_succ_self w.heap.size
  clear b0
  have HH := Lib.hid h
  have HR := Lib.hid hr
  clear h hr
  go_enter Try.func13, Try.ntmps13
  go_wp2_with fail
  refine (ris_eq c hc HH _).mono ?_
  rintro e w1 ⟨rfl, rfl⟩
  go_wp2_with fail
  refine (rmay_eq a b d st hs HR _).mono ?_
  rintro e w2 ⟨rfl, b2⟩
  replace HB := Lib.hid (below2Z HB.out b2)
  clear b2
  go_wp2_with fail
  go_ret
  exact ⟨rfl, HB.out⟩

set_option maxHeartbeats 1600000 in
set_option maxRecDepth 100000 in
theorem rquone_off (c st : List UInt8) (a b d : Int) (hc : c.length ≤ 4294967296) (h : idIs c = true) {r : Bool} (hr : vSame ⟨a, b, d, st⟩ Val.zero = r) (w : World) :
    Calls Try.prog 13 #[.agg #[.string ⟨c.toArray⟩, .bool false, .int .i64 a, .int .i64 b, .int .i64 d, .string ⟨st.toArray⟩]] w fun e w' => e = .returned (.bool r) ∧ Below w.heap.size w w' := by
  have b0 := bl_newZ w (.cells #[.string ⟨c.toArray⟩, .bool false, .int .i64 a, .int .i64 b, .int .i64 d, .string ⟨st.toArray⟩] 33)
  have HB := Lib.hid b0
  have C : Hid (Cells6 (w.alloc (.cells #[.string ⟨c.toArray⟩, .bool false, .int .i64 a, .int .i64 b, .int .i64 d, .string ⟨st.toArray⟩] 33)) w.heap.size 0 ⟨c, false, ⟨a, b, d, st⟩⟩) := Lib.hid (six_new w _ _ _ _ _ _ _)
  have hlt := Nat.lt_succ_self w.heap.size
  clear b0
  have HH := Lib.hid h
  have heq := fun w => zero_eql a b d st hr w
  have hgd : Try.prog.eqGuardType Try.prog.depth 31 = false := by kernel_rfl
  clear h hr
  go_enter Try.func13, Try.ntmps13
  go_wp2_with fail
  refine (ris_eq c hc HH _).mono ?_
  rintro e w1 ⟨rfl, rfl⟩
  go_wp2_with fail
  go_ret
  exact ⟨rfl, HB.out⟩

theorem rquone_any (c st : List UInt8) (on : Bool) (a b d : Int) (hc : c.length ≤ 4294967296) (hs : st.length ≤ 4294967296) {r : Bool} (h : Hid (quOne ⟨c, on, ⟨a, b, d, st⟩⟩ = r)) (w : World) :
    Calls Try.prog 13 #[.agg #[.string ⟨c.toArray⟩, .bool on, .int .i64 a, .int .i64 b, .int .i64 d, .string ⟨st.toArray⟩]] w fun e w' => e = .returned (.bool r) ∧ Below w.heap.size w w' := by
  have h := h.out
  unfold quOne at h
  simp only at h
  cases hi : idIs c with
  | false =>
    rw [hi, Bool.false_and] at h
    subst h
    exact rquone_is c st on a b d hc hi w
  | true =>
    rw [hi, Bool.true_and] at h
    cases on with
    | true =>
      rw [if_pos rfl] at h
      exact rquone_on c st a b d hc hs hi h w
    | false =>
      rw [if_neg (by simp)] at h
      exact rquone_off c st a b d hc hi h w

end Go.Proofs.Ythlkfbiclhgdoaa

end

section

/-
  IN A REGION THAT DRAWS: a call whose answer hangs on memory that stays.
-/
namespace Go.Proofs.Ythlkfbiclhgdoaa
open Go.RowKit

theorem rgM {P : Program} {f : FuncId} {args : Array Value} {v : Value} {w : World} (h : ∀ w', Below w.heap.size w w' → Calls P f args w' fun e w'' => e = .returned v ∧ Below w'.heap.size w' w'') (d : Nat) (os : Array Obj) :
    Calls P f args (Sort.grow (redrawn w d) os) fun e w'' => e = .returned v ∧ ∃ p : Regrown, w'' = Sort.grow (redrawn w p.d) p.os := Calls.regrown_of (h _ (below_regrown w d os))

end Go.Proofs.Ythlkfbiclhgdoaa

end

section

/-
  LAYER 17: whether a queue may be, the code's and the document's; whether it is empty.
-/
namespace Go.Proofs.Ythlkfbiclhgdoaa
open Go.RowKit

theorem chg_take {l : List Chg} {k : Nat} (hk : k < l.length) : (l.map (·.c)).take (k + 1) = (l.map (·.c)).take k ++ [(l.getD k Chg.zero).c] := by
  rw [List.take_add_one, List.getElem?_map, List.getElem?_eq_getElem hk, List.getD_eq_getElem?_getD, List.getElem?_eq_getElem hk]
  rfl

/-- The contacts up to k, and nothing yet behind. -/
def ctcAt (l : List Chg) (k : Nat) : List (List UInt8) := (l.map (·.c)).take k ++ List.replicate (l.length - k) []
theorem ctcAt_len {l : List Chg} {k : Nat} (h : k ≤ l.length) : (ctcAt l k).length = l.length := by unfold ctcAt; rw [List.length_append, List.length_take, List.length_map, List.length_replicate]; omega
theorem ctcAt_set {l : List Chg} {k : Nat} (hk : k < l.length) : (ctcAt l k).set k (l.getD k Chg.zero).c = ctcAt l (k + 1) := by
  unfold ctcAt
  have h1 : ((l.map (·.c)).take k).length = k := by rw [List.length_take, List.length_map]; omega
  rw [List.set_append_right _ _ (by omega), h1, Nat.sub_self, show l.length - k = (l.length - (k + 1)) + 1 by omega, List.replicate_succ, List.set_cons_zero, chg_take hk]
  simp
theorem ctcAt_end (l : List Chg) : ctcAt l l.length = l.map (·.c) := by
  unfold ctcAt
  rw [Nat.sub_self, List.take_of_length_le (by rw [List.length_map]; omega)]
  simp

theorem qumay_long {l : List Chg} {la : Bool} {room : Int} (h : room < (l.length : Int)) : quMay ⟨l, la⟩ room = false := by
  rw [Bool.eq_false_iff]
  intro e
  have := (quMay_iff.1 e).1
  simp only at this
  omega
theorem qumay_la {l : List Chg} {room : Int} (h : 0 < l.length) : quMay ⟨l, true⟩ room = false := by
  rw [Bool.eq_false_iff]
  intro e
  have := (quMay_iff.1 e).2.1 rfl
  simp only at this
  rw [this] at h
  simp at h
theorem qumay_one {l : List Chg} {la : Bool} {room : Int} {k : Nat} (hk : k < l.length) (h : quOne (l.getD k Chg.zero) = false) : quMay ⟨l, la⟩ room = false := by
  rw [Bool.eq_false_iff]
  intro e
  have := (quMay_iff.1 e).2.2.1 _ (List.getElem_mem hk)
  rw [List.getD_eq_getElem?_getD, List.getElem?_eq_getElem hk] at h
  simp only [Option.getD_some] at h
  rw [h] at this
  cases this
theorem qumay_at {l : List Chg} {la : Bool} {room : Int} {k : Nat} (hk : k < l.length) (h : ¬ quAt l (l.getD k Chg.zero).c = k) : quMay ⟨l, la⟩ room = false := by
  rw [Bool.eq_false_iff]
  intro e
  exact h (quAt_own (quMay_iff.1 e).2.2.2 hk)
theorem qumay_end {l : List Chg} {la : Bool} {room : Int} (h1 : (l.length : Int) ≤ room) (h2 : la = true → l = []) (h3 : ∀ i, i < l.length → quOne (l.getD i Chg.zero) = true) : quMay ⟨l, la⟩ room = decide (quNo2 l) := by
  rw [Bool.eq_iff_iff, quMay_iff, decide_eq_true_eq]
  refine ⟨fun h => h.2.2.2, fun h => ⟨h1, h2, fun c hc => ?_, h⟩⟩
  obtain ⟨i, hi, rfl⟩ := List.getElem_of_mem hc
  have := h3 i hi
  rwa [List.getD_eq_getElem?_getD, List.getElem?_eq_getElem hi] at this
theorem qumay_ends {l : List Chg} {la : Bool} {room : Int} (h1 : (l.length : Int) ≤ room) (h2 : la = true → l = []) (h3 : ∀ i, i < l.length → quOne (l.getD i Chg.zero) = true) (h4 : ∀ i, i < l.length → quAt l (l.getD i Chg.zero).c = i) : quMay ⟨l, la⟩ room = true := by
  rw [qumay_end h1 h2 h3, decide_eq_true_eq]
  exact quNo2_iff.2 h4

set_option maxHeartbeats 3200000 in
set_option maxRecDepth 100000 in
theorem each_any {w : World} {v : Value} {l : List Chg} (hv : Chgs w v l) (hl : l.length ≤ 100) :
    Calls Try.prog 41 #[v] w fun e w' => e = .returned (.bool (decide (quNo2 l))) ∧ Below w.heap.size w w' := by
  have HV := Lib.hid hv
  obtain ⟨a, cap, rfl, _⟩ := hv.open'
  obtain ⟨r, hr⟩ : ∃ r, decide (quNo2 l) = r := ⟨_, rfl⟩
  rw [hr]
  have HRR := Lib.hid hr
  clear hv hr
  go_enter Try.func41, Try.ntmps41
  go_wp2_with (at_make; go_must (refine wpList_make_texts rfl _ _ rfl _ _ l.length rfl rfl (by omega) (by omega) (by omega) ?_))
  intro w1 h1 hb1 hz1
  have R1 : Hid (RowT w1 w.heap.size (ctcAt l 0)) := by show RowT _ _ _; simpa [ctcAt] using h1
  have B1 := Lib.hid hb1
  clear h1 hb1
  go_wp2_with fail
  go_loopw [11] (fun i wr => ∃ k : Nat, k ≤ l.length ∧ i = .int .i64 k ∧ Hid (RowT wr w.heap.size (ctcAt l k)) ∧ Hid (Below w.heap.size w wr) ∧ w.heap.size < wr.heap.size) (fun i _ => l.length - (intOf i).toNat)
  case atStart => exact ⟨0, by omega, rfl, R1, B1, hz1⟩
  case round =>
    clear R1 B1 hz1
    obtain ⟨k, hk, rfl, HR, HN, hz⟩ := hrel
    by_cases hlt : k < l.length
    · obtain ⟨b, off, rfl, h0, h1, h2, h3, h4, h5⟩ := HV.out.row HN.out k hlt
      have HS := HR.out.set k (l.getD k Chg.zero).c (by rw [ctcAt_len (by omega)]; exact hlt)
      rw [ctcAt_set hlt] at HS
      have hc0 := (HR.out k (by rw [ctcAt_len (by omega)]; exact hlt)).1
      have hf0 := (HR.out k (by rw [ctcAt_len (by omega)]; exact hlt)).2
      obtain ⟨⟨c, o, ⟨x, y, z, st⟩⟩, hr⟩ : ∃ r, l.getD k Chg.zero = r := ⟨_, rfl⟩
      rw [hr] at h0 h1 h2 h3 h4 h5 HS
      simp only at h0 h1 h2 h3 h4 h5 HS
      unfold encS at HS hc0
      have HS2 := Lib.hid HS
      have HN2 : Hid (Below w.heap.size w (wr.setCell ⟨w.heap.size, k, none⟩ (.string ⟨c.toArray⟩))) := HN.out.setCell (Nat.le_refl _) _
      have hz2 : w.heap.size < (wr.setCell ⟨w.heap.size, k, none⟩ (.string ⟨c.toArray⟩)).heap.size := by simpa using hz
      have HS3 := Lib.hid (HS2.out.later hz2 ((Below.refl _ _).alloc (Nat.le_refl _) (.cells #[.string ⟨c.toArray⟩, .bool o, .int .i64 x, .int .i64 y, .int .i64 z, .string ⟨st.toArray⟩] 33)))
      have HN3 := Lib.hid (bl_alloc HN2.out (.cells #[.string ⟨c.toArray⟩, .bool o, .int .i64 x, .int .i64 y, .int .i64 z, .string ⟨st.toArray⟩] 33))
      clear hr HS
      go_wp2_with fail
      go_roundw
      case rel => exact ⟨k + 1, by omega, by go_num, HS3, HN3, by simp; omega⟩
      case measure => simp [intOf]; omega
    · obtain rfl : k = l.length := by omega
      have HT : Hid (Texts wr (.slice (some ⟨w.heap.size, 0, none⟩) l.length l.length) (l.map (·.c))) := by
        show Texts _ _ _
        have := HR.out
        rw [ctcAt_end] at this
        have h2 := this.texts hz (by rw [List.length_map]; omega)
        rwa [List.length_map] at h2
      have HF : Hid (decide (((mrg (l.map (·.c) ++ [])).length : Int) = (l.length : Int)) = r) := by
        show _ = _
        rw [← HRR.out, List.append_nil, decide_eq_decide]
        have := mrg_full (l.map (·.c))
        rw [List.length_map] at this
        unfold quNo2
        rw [← this]
        omega
      go_wp2_with fail
      refine (merge_any HT.out (texts_nil _) (by rw [List.length_map]; exact hl) (by simp)).mono ?_
      rintro e w2 ⟨u, rfl, ht, b2⟩
      obtain ⟨au, cu, rfl⟩ : ∃ a c, u = .slice a (mrg (l.map (·.c) ++ [])).length c := by
        obtain ⟨a', c', e, _⟩ := ht
        exact ⟨a', c', e⟩
      have HN2 := Lib.hid (HN.out.trans (b2.mono HN.out.size))
      obtain ⟨m, hm⟩ : ∃ m, (mrg (l.map (·.c) ++ [])).length = m := ⟨_, rfl⟩
      rw [hm] at HF
      try rw [hm]
      clear b2 ht hm
      have ht1 := HF.out
      have t2 : (((m : Nat) : Int) == (l.length : Int)) = r := by rw [← ht1]; rfl
      clear HF ht1
      go_wp2_with fail
      go_ret
      first | exact ⟨rfl, HN2.out⟩ | exact ⟨by rw [← t2]; rfl, HN2.out⟩

set_option maxHeartbeats 3200000 in
set_option maxRecDepth 100000 in
theorem qumay_1 {w : World} {v : Value} {l : List Chg} (hv : Chgs w v l) (la : Bool) {room : Int} (h : room < (l.length : Int)) :
    Calls Try.prog 14 #[.agg #[v, .bool la], .int .i64 room] w fun e w' => e = .returned (.bool false) ∧ Below w.heap.size w w' := by
  obtain ⟨ao, cap, rfl, hmx⟩ := hv.open'
  have b0 := bl_newZ w (.cells #[.slice ao l.length cap, .bool la] 24)
  have HV := Lib.hid (hv.later b0)
  have HB := Lib.hid b0
  have HQ := Lib.hid ((MapKept.heap_alloc w (.cells #[.slice ao l.length cap, .bool la] 24)).1)
  clear hv b0
  have t1 : decide (room < (l.length : Int)) = true := decide_eq_true h
  go_enter Try.func14, Try.ntmps14
  go_wp2_with fail
  go_ret
  exact ⟨rfl, HB.out⟩

set_option maxHeartbeats 3200000 in
set_option maxRecDepth 100000 in
theorem qumay_2 {w : World} {v : Value} {l : List Chg} (hv : Chgs w v l) {room : Int} (h : ¬ room < (l.length : Int)) (h0 : 0 < l.length) :
    Calls Try.prog 14 #[.agg #[v, .bool true], .int .i64 room] w fun e w' => e = .returned (.bool false) ∧ Below w.heap.size w w' := by
  obtain ⟨ao, cap, rfl, hmx⟩ := hv.open'
  have b0 := bl_newZ w (.cells #[.slice ao l.length cap, .bool true] 24)
  have HV := Lib.hid (hv.later b0)
  have HB := Lib.hid b0
  have HQ := Lib.hid ((MapKept.heap_alloc w (.cells #[.slice ao l.length cap, .bool true] 24)).1)
  clear hv b0
  have t1 : decide (room < (l.length : Int)) = false := decide_eq_false h
  have t2 : decide ((0 : Int) < (l.length : Int)) = true := decide_eq_true (by omega)
  have t3 : decide (0 < l.length) = true := decide_eq_true h0
  clear h
  go_enter Try.func14, Try.ntmps14
  go_wp2_with fail
  go_ret
  exact ⟨rfl, HB.out⟩

set_option maxHeartbeats 3200000 in
set_option maxRecDepth 100000 in
theorem qumay_3 {w : World} {v : Value} {l : List Chg} (hv : Chgs w v l) (hs : ShortC l) (hl : l.length ≤ 100) {room : Int} (h : ¬ room < (l.length : Int)) :
    Calls Try.prog 14 #[.agg #[v, .bool false], .int .i64 room] w fun e w' => e = .returned (.bool (quMay ⟨l, false⟩ room)) ∧ Below w.heap.size w w' := by
  obtain ⟨ao, cap, rfl, hmx⟩ := hv.open'
  have b0 := bl_newZ w (.cells #[.slice ao l.length cap, .bool false] 24)
  have HV := Lib.hid (hv.later b0)
  have HB := Lib.hid b0
  have HQ := Lib.hid ((MapKept.heap_alloc w (.cells #[.slice ao l.length cap, .bool false] 24)).1)
  clear hv b0
  have t1 : decide (room < (l.length : Int)) = false := decide_eq_false h
  have HR : Hid ((l.length : Int) ≤ room) := Lib.hid (by omega)
  have HS := Lib.hid hs
  clear h hs
  go_enter Try.func14, Try.ntmps14
  go_wp2_with fail
  clear t1
  go_loopw [25] (fun i wr => ∃ k : Nat, k ≤ l.length ∧ i = .int .i64 k ∧ Hid (Below (w.alloc (.cells #[.slice ao l.length cap, .bool false] 24)).heap.size (w.alloc (.cells #[.slice ao l.length cap, .bool false] 24)) wr) ∧ Hid (∀ i, i < k → quOne (l.getD i Chg.zero) = true)) (fun i _ => l.length - (intOf i).toNat)
  case atStart => exact ⟨0, by omega, rfl, Below.refl _ _, fun i hi => by omega⟩
  case round =>
    obtain ⟨k, hk, rfl, HN, HA⟩ := hrel
    by_cases hlt : k < l.length
    · obtain ⟨b, off, rfl, h0, h1, h2, h3, h4, h5⟩ := HV.out.row HN.out k hlt
      have hx := (HN.out.block w.heap.size (by simp)).trans HQ.out
      have q0 := cell_of_row wr w.heap.size 0 _ _ (0, 0) hx
      have q1 := cell_of_row wr w.heap.size 1 _ _ (0, 0) hx
      try simp only at q0 q1
      obtain ⟨hl1, hl2⟩ := HS.out.get hlt
      obtain ⟨⟨c, o, ⟨x, y, z, st⟩⟩, hr⟩ : ∃ r, l.getD k Chg.zero = r := ⟨_, rfl⟩
      rw [hr] at h0 h1 h2 h3 h4 h5 hl1 hl2
      simp only at h0 h1 h2 h3 h4 h5 hl1 hl2
      have HRr := Lib.hid hr
      clear hr
      cases hone : quOne ⟨c, o, ⟨x, y, z, st⟩⟩ with
      | false =>
        have HF : Hid (quMay ⟨l, false⟩ room = false) := qumay_one hlt (by rw [HRr.out]; exact hone)
        have H1 := Lib.hid hone
        clear hone
        go_wp2_with fail
        refine (quone_any c st o x y z hl1 hl2 H1 _).mono ?_
        rintro e w2 ⟨rfl, b2⟩
        have HN2 := Lib.hid ((below2Z HN.out (bl_newZ wr (.cells #[.string ⟨c.toArray⟩, .bool o, .int .i64 x, .int .i64 y, .int .i64 z, .string ⟨st.toArray⟩] 33))).trans (b2.mono (Nat.le_trans HN.out.size (by simp))))
        clear b2
        go_wp2_with fail
        go_ret
        exact ⟨by rw [HF.out]; rfl, below2Z HB.out HN2.out⟩
      | true =>
        have H1 := Lib.hid hone
        have HA2 : Hid (∀ i, i < k + 1 → quOne (l.getD i Chg.zero) = true) := Lib.hid fun i hi => by
          rcases Nat.lt_or_eq_of_le (Nat.le_of_lt_succ hi) with h | h
          · exact HA.out i h
          · subst h; rw [HRr.out]; exact hone
        clear hone
        go_wp2_with fail
        refine (quone_any c st o x y z hl1 hl2 H1 _).mono ?_
        rintro e w2 ⟨rfl, b2⟩
        have HN2 := Lib.hid ((below2Z HN.out (bl_newZ wr (.cells #[.string ⟨c.toArray⟩, .bool o, .int .i64 x, .int .i64 y, .int .i64 z, .string ⟨st.toArray⟩] 33))).trans (b2.mono (Nat.le_trans HN.out.size (by simp))))
        clear b2
        go_wp2_with fail
        go_roundw
        case rel => exact ⟨k + 1, by omega, by go_num, HN2, HA2⟩
        case measure => simp [intOf]; omega
    · obtain rfl : k = l.length := by omega
      have hx := (HN.out.block w.heap.size (by simp)).trans HQ.out
      have q0 := cell_of_row wr w.heap.size 0 _ _ (0, 0) hx
      have q1 := cell_of_row wr w.heap.size 1 _ _ (0, 0) hx
      try simp only at q0 q1
      have HF : Hid (quMay ⟨l, false⟩ room = decide (quNo2 l)) := qumay_end HR.out (fun e => by cases e) HA.out
      go_wp2_with fail
      refine (each_any (HV.out.later HN.out) hl).mono ?_
      rintro e w2 ⟨rfl, b2⟩
      have HN2 := Lib.hid (HN.out.trans (b2.mono HN.out.size))
      clear b2
      go_wp2_with fail
      go_ret
      exact ⟨by rw [HF.out]; rfl, below2Z HB.out HN2.out⟩

set_option maxHeartbeats 3200000 in
set_option maxRecDepth 100000 in
theorem qumay_4 {w : World} {v : Value} {l : List Chg} (hv : Chgs w v l) (hs : ShortC l) (hl : l.length ≤ 100) {room : Int} (h : ¬ room < (l.length : Int)) (h0 : l = []) :
    Calls Try.prog 14 #[.agg #[v, .bool true], .int .i64 room] w fun e w' => e = .returned (.bool (quMay ⟨l, true⟩ room)) ∧ Below w.heap.size w w' := by
  obtain ⟨ao, cap, rfl, hmx⟩ := hv.open'
  have b0 := bl_newZ w (.cells #[.slice ao l.length cap, .bool true] 24)
  have HV := Lib.hid (hv.later b0)
  have HB := Lib.hid b0
  have HQ := Lib.hid ((MapKept.heap_alloc w (.cells #[.slice ao l.length cap, .bool true] 24)).1)
  clear hv b0
  have t1 : decide (room < (l.length : Int)) = false := decide_eq_false h
  have t2 : decide ((0 : Int) < (l.length : Int)) = false := decide_eq_false (by rw [h0]; simp)
  have t3 : decide (0 < l.length) = false := decide_eq_false (by rw [h0]; simp)
  have HE := Lib.hid h0
  clear h0
  have HR : Hid ((l.length : Int) ≤ room) := Lib.hid (by omega)
  have HS := Lib.hid hs
  clear h hs
  go_enter Try.func14, Try.ntmps14
  go_wp2_with fail
  clear t1 t2 t3
  go_loopw [25] (fun i wr => ∃ k : Nat, k ≤ l.length ∧ i = .int .i64 k ∧ Hid (Below (w.alloc (.cells #[.slice ao l.length cap, .bool true] 24)).heap.size (w.alloc (.cells #[.slice ao l.length cap, .bool true] 24)) wr) ∧ Hid (∀ i, i < k → quOne (l.getD i Chg.zero) = true)) (fun i _ => l.length - (intOf i).toNat)
  case atStart => exact ⟨0, by omega, rfl, Below.refl _ _, fun i hi => by omega⟩
  case round =>
    obtain ⟨k, hk, rfl, HN, HA⟩ := hrel
    by_cases hlt : k < l.length
    · obtain ⟨b, off, rfl, h0, h1, h2, h3, h4, h5⟩ := HV.out.row HN.out k hlt
      have hx := (HN.out.block w.heap.size (by simp)).trans HQ.out
      have q0 := cell_of_row wr w.heap.size 0 _ _ (0, 0) hx
      have q1 := cell_of_row wr w.heap.size 1 _ _ (0, 0) hx
      try simp only at q0 q1
      obtain ⟨hl1, hl2⟩ := HS.out.get hlt
      obtain ⟨⟨c, o, ⟨x, y, z, st⟩⟩, hr⟩ : ∃ r, l.getD k Chg.zero = r := ⟨_, rfl⟩
      rw [hr] at h0 h1 h2 h3 h4 h5 hl1 hl2
      simp only at h0 h1 h2 h3 h4 h5 hl1 hl2
      have HRr := Lib.hid hr
      clear hr
      cases hone : quOne ⟨c, o, ⟨x, y, z, st⟩⟩ with
      | false =>
        have HF : Hid (quMay ⟨l, true⟩ room = false) := qumay_one hlt (by rw [HRr.out]; exact hone)
        have H1 := Lib.hid hone
        clear hone
        go_wp2_with fail
        refine (quone_any c st o x y z hl1 hl2 H1 _).mono ?_
        rintro e w2 ⟨rfl, b2⟩
        have HN2 := Lib.hid ((below2Z HN.out (bl_newZ wr (.cells #[.string ⟨c.toArray⟩, .bool o, .int .i64 x, .int .i64 y, .int .i64 z, .string ⟨st.toArray⟩] 33))).trans (b2.mono (Nat.le_trans HN.out.size (by simp))))
        clear b2
        go_wp2_with fail
        go_ret
        exact ⟨by rw [HF.out]; rfl, below2Z HB.out HN2.out⟩
      | true =>
        have H1 := Lib.hid hone
        have HA2 : Hid (∀ i, i < k + 1 → quOne (l.getD i Chg.zero) = true) := Lib.hid fun i hi => by
          rcases Nat.lt_or_eq_of_le (Nat.le_of_lt_succ hi) with h | h
          · exact HA.out i h
          · subst h; rw [HRr.out]; exact hone
        clear hone
        go_wp2_with fail
        refine (quone_any c st o x y z hl1 hl2 H1 _).mono ?_
        rintro e w2 ⟨rfl, b2⟩
        have HN2 := Lib.hid ((below2Z HN.out (bl_newZ wr (.cells #[.string ⟨c.toArray⟩, .bool o, .int .i64 x, .int .i64 y, .int .i64 z, .string ⟨st.toArray⟩] 33))).trans (b2.mono (Nat.le_trans HN.out.size (by simp))))
        clear b2
        go_wp2_with fail
        go_roundw
        case rel => exact ⟨k + 1, by omega, by go_num, HN2, HA2⟩
        case measure => simp [intOf]; omega
    · obtain rfl : k = l.length := by omega
      have hx := (HN.out.block w.heap.size (by simp)).trans HQ.out
      have q0 := cell_of_row wr w.heap.size 0 _ _ (0, 0) hx
      have q1 := cell_of_row wr w.heap.size 1 _ _ (0, 0) hx
      try simp only at q0 q1
      have HF : Hid (quMay ⟨l, true⟩ room = decide (quNo2 l)) := qumay_end HR.out (fun _ => HE.out) HA.out
      go_wp2_with fail
      refine (each_any (HV.out.later HN.out) hl).mono ?_
      rintro e w2 ⟨rfl, b2⟩
      have HN2 := Lib.hid (HN.out.trans (b2.mono HN.out.size))
      clear b2
      go_wp2_with fail
      go_ret
      exact ⟨by rw [HF.out]; rfl, below2Z HB.out HN2.out⟩

theorem qumay_any {w : World} {v : Value} {l : List Chg} (hv : Chgs w v l) (hs : ShortC l) (hl : l.length ≤ 100) (la : Bool) {room : Int} {r : Bool} (h : Hid (quMay ⟨l, la⟩ room = r)) :
    Calls Try.prog 14 #[.agg #[v, .bool la], .int .i64 room] w fun e w' => e = .returned (.bool r) ∧ Below w.heap.size w w' := by
  rw [← h.out]
  by_cases h1 : room < (l.length : Int)
  · rw [qumay_long h1]
    exact qumay_1 hv la h1
  · cases la with
    | false => exact qumay_3 hv hs hl h1
    | true =>
      by_cases h0 : 0 < l.length
      · rw [qumay_la h0]
        exact qumay_2 hv h1 h0
      · exact qumay_4 hv hs hl h1 (List.length_eq_zero_iff.1 (by omega))

set_option maxHeartbeats 3200000 in
set_option maxRecDepth 100000 in
theorem rqumay_1 {w : World} {v : Value} {l : List Chg} (hv : Chgs w v l) (la : Bool) {room : Int} (h : room < (l.length : Int)) :
    Calls Try.prog 15 #[.agg #[v, .bool la], .int .i64 room] w fun e w' => e = .returned (.bool false) ∧ Below w.heap.size w w' := by
  obtain ⟨ao, cap, rfl, hmx⟩ := hv.open'
  have b0 := bl_newZ w (.cells #[.slice ao l.length cap, .bool la] 24)
  have HV := Lib.hid (hv.later b0)
  have HB := Lib.hid b0
  have HQ := Lib.hid ((MapKept.heap_alloc w (.cells #[.slice ao l.length cap, .bool la] 24)).1)
  clear hv b0
  have t1 : decide (room < (l.length : Int)) = true := decide_eq_true h
  go_enter Try.func15, Try.ntmps15
  go_wp2_with fail
  go_ret
  exact ⟨rfl, HB.out⟩

set_option maxHeartbeats 3200000 in
set_option maxRecDepth 100000 in
theorem rqumay_2 {w : World} {v : Value} {l : List Chg} (hv : Chgs w v l) {room : Int} (h : ¬ room < (l.length : Int)) (h0 : 0 < l.length) :
    Calls Try.prog 15 #[.agg #[v, .bool true], .int .i64 room] w fun e w' => e = .returned (.bool false) ∧ Below w.heap.size w w' := by
  obtain ⟨ao, cap, rfl, hmx⟩ := hv.open'
  have b0 := bl_newZ w (.cells #[.slice ao l.length cap, .bool true] 24)
  have HV := Lib.hid (hv.later b0)
  have HB := Lib.hid b0
  have HQ := Lib.hid ((MapKept.heap_alloc w (.cells #[.slice ao l.length cap, .bool true] 24)).1)
  clear hv b0
  have t1 : decide (room < (l.length : Int)) = false := decide_eq_false h
  have t2 : decide ((0 : Int) < (l.length : Int)) = true := decide_eq_true (by omega)
  have t3 : decide (0 < l.length) = true := decide_eq_true h0
  clear h
  go_enter Try.func15, Try.ntmps15
  go_wp2_with fail
  go_ret
  exact ⟨rfl, HB.out⟩

set_option maxHeartbeats 3200000 in
set_option maxRecDepth 100000 in
theorem rqumay_3 {w : World} {v : Value} {l : List Chg} (hv : Chgs w v l) (hs : ShortC l) (hl : l.length ≤ 100) {room : Int} (h : ¬ room < (l.length : Int)) :
    Calls Try.prog 15 #[.agg #[v, .bool false], .int .i64 room] w fun e w' => e = .returned (.bool (quMay ⟨l, false⟩ room)) ∧ Below w.heap.size w w' := by
  obtain ⟨ao, cap, rfl, hmx⟩ := hv.open'
  have b0 := bl_newZ w (.cells #[.slice ao l.length cap, .bool false] 24)
  have HV := Lib.hid (hv.later b0)
  have HB := Lib.hid b0
  have HQ := Lib.hid ((MapKept.heap_alloc w (.cells #[.slice ao l.length cap, .bool false] 24)).1)
  clear hv b0
  have t1 : decide (room < (l.length : Int)) = false := decide_eq_false h
  have HR : Hid ((l.length : Int) ≤ room) := Lib.hid (by omega)
  have HS := Lib.hid hs
  clear h hs
  go_enter Try.func15, Try.ntmps15
  go_wp2_with fail
  clear t1
  go_loopw [5] (fun i wr => ∃ k : Nat, k ≤ l.length ∧ i = .int .i64 k ∧ Hid (Below (w.alloc (.cells #[.slice ao l.length cap, .bool false] 24)).heap.size (w.alloc (.cells #[.slice ao l.length cap, .bool false] 24)) wr) ∧ Hid (∀ i, i < k → quOne (l.getD i Chg.zero) = true ∧ quAt l (l.getD i Chg.zero).c = i)) (fun i _ => l.length - (intOf i).toNat)
  case atStart => exact ⟨0, by omega, rfl, Below.refl _ _, fun i hi => by omega⟩
  case round =>
    obtain ⟨k, hk, rfl, HN, HA⟩ := hrel
    by_cases hlt : k < l.length
    · obtain ⟨b, off, rfl, h0, h1, h2, h3, h4, h5⟩ := HV.out.row HN.out k hlt
      have hx := (HN.out.block w.heap.size (by simp)).trans HQ.out
      have q0 := cell_of_row wr w.heap.size 0 _ _ (0, 0) hx
      have q1 := cell_of_row wr w.heap.size 1 _ _ (0, 0) hx
      try simp only at q0 q1
      obtain ⟨hl1, hl2⟩ := HS.out.get hlt
      obtain ⟨⟨c, o, ⟨x, y, z, st⟩⟩, hr⟩ : ∃ r, l.getD k Chg.zero = r := ⟨_, rfl⟩
      rw [hr] at h0 h1 h2 h3 h4 h5 hl1 hl2
      simp only at h0 h1 h2 h3 h4 h5 hl1 hl2
      have HRr := Lib.hid hr
      clear hr
      cases hone : quOne ⟨c, o, ⟨x, y, z, st⟩⟩ with
      | false =>
        have HF : Hid (quMay ⟨l, false⟩ room = false) := qumay_one hlt (by rw [HRr.out]; exact hone)
        have H1 := Lib.hid hone
        clear hone
        have HO := Lib.hid (rquone_any c st o x y z hl1 hl2 H1)
        go_wp2_with fail
        have g0 := cell_regrown h0
        have g1 := cell_regrown h1
        have g2 := cell_regrown h2
        have g3 := cell_regrown h3
        have g4 := cell_regrown h4
        have g5 := cell_regrown h5
        have p0 := cell_regrown q0
        have p1 := cell_regrown q1
        clear h0 h1 h2 h3 h4 h5 q0 q1
        refine wp_region_quiet_below (by kernel_rfl) (by kernel_rfl) ?_
        repeat (go_big_quiet_step (first | with_reducible exact rgB HO.out _ _ _))
        refine wpQuiet_nil ?_
        intro w5 hw5
        have HN5 := Lib.hid (HN.out.trans ((regrown_belowD hw5).mono HN.out.size))
        clear hw5 g0 g1 g2 g3 g4 g5 p0 p1
        go_wp2_with fail
        go_ret
        exact ⟨by rw [HF.out]; rfl, below2Z HB.out HN5.out⟩
      | true =>
        have H1 := Lib.hid hone
        have HO := Lib.hid (rquone_any c st o x y z hl1 hl2 H1)
        have hhas : quHas l c = true := quHas_iff.2 ⟨l.getD k Chg.zero, by rw [List.getD_eq_getElem?_getD, List.getElem?_eq_getElem hlt]; exact List.getElem_mem hlt, congrArg (·.c) HRr.out⟩
        obtain ⟨m, hm⟩ : ∃ m, quAt l c = m := ⟨_, rfl⟩
        have HP : Hid (∀ w', Below wr.heap.size wr w' → Calls Try.prog 42 #[.agg #[.slice (some ⟨b, off, none⟩) l.length cap, .bool false], .string ⟨c.toArray⟩] w' fun e w'' => e = .returned (.int .i64 (m : Nat)) ∧ Below w'.heap.size w' w'') := Lib.hid fun w' hb' => by
          rw [← hm]
          exact rquplace_yes ((HV.out.later HN.out).later hb') _ c hhas
        have hne : ∀ mm : Nat, (((mm : Int) != (k : Int)) = !(decide (mm = k))) := fun mm => by
          rw [Bool.eq_iff_iff]; simp [bne_iff_ne]; omega
        by_cases hmk : m = k
        · have HA2 : Hid (∀ i, i < k + 1 → quOne (l.getD i Chg.zero) = true ∧ quAt l (l.getD i Chg.zero).c = i) := Lib.hid fun i hi => by
            rcases Nat.lt_or_eq_of_le (Nat.le_of_lt_succ hi) with h | h
            · exact HA.out i h
            · subst h; rw [HRr.out]; exact ⟨hone, by rw [hm, hmk]⟩
          have t7 : (((m : Nat) : Int) != (k : Int)) = false := by rw [hne, decide_eq_true hmk]; rfl
          clear hone hm hne hmk
          go_wp2_with fail
          have g0 := cell_regrown h0
          have g1 := cell_regrown h1
          have g2 := cell_regrown h2
          have g3 := cell_regrown h3
          have g4 := cell_regrown h4
          have g5 := cell_regrown h5
          have p0 := cell_regrown q0
          have p1 := cell_regrown q1
          clear h0 h1 h2 h3 h4 h5 q0 q1
          refine wp_region_quiet_below (by kernel_rfl) (by kernel_rfl) ?_
          repeat (go_big_quiet_step (first | with_reducible exact rgB HO.out _ _ _ | with_reducible exact rgM HP.out _ _))
          refine wpQuiet_nil ?_
          intro w5 hw5
          have HN5 := Lib.hid (HN.out.trans ((regrown_belowD hw5).mono HN.out.size))
          clear hw5 g0 g1 g2 g3 g4 g5 p0 p1
          go_wp2_with fail
          go_roundw
          case rel => exact ⟨k + 1, by omega, by go_num, HN5, HA2⟩
          case measure => simp [intOf]; omega
        · have HF : Hid (quMay ⟨l, false⟩ room = false) := qumay_at hlt (by rw [HRr.out]; simp only; rw [hm]; exact hmk)
          have t7 : (((m : Nat) : Int) != (k : Int)) = true := by rw [hne, decide_eq_false hmk]; rfl
          clear hone hm hne hmk
          go_wp2_with fail
          have g0 := cell_regrown h0
          have g1 := cell_regrown h1
          have g2 := cell_regrown h2
          have g3 := cell_regrown h3
          have g4 := cell_regrown h4
          have g5 := cell_regrown h5
          have p0 := cell_regrown q0
          have p1 := cell_regrown q1
          clear h0 h1 h2 h3 h4 h5 q0 q1
          refine wp_region_quiet_below (by kernel_rfl) (by kernel_rfl) ?_
          repeat (go_big_quiet_step (first | with_reducible exact rgB HO.out _ _ _ | with_reducible exact rgM HP.out _ _))
          refine wpQuiet_nil ?_
          intro w5 hw5
          have HN5 := Lib.hid (HN.out.trans ((regrown_belowD hw5).mono HN.out.size))
          clear hw5 g0 g1 g2 g3 g4 g5 p0 p1
          go_wp2_with fail
          go_ret
          exact ⟨by rw [HF.out]; rfl, below2Z HB.out HN5.out⟩
    · obtain rfl : k = l.length := by omega
      have hx := (HN.out.block w.heap.size (by simp)).trans HQ.out
      have q0 := cell_of_row wr w.heap.size 0 _ _ (0, 0) hx
      have q1 := cell_of_row wr w.heap.size 1 _ _ (0, 0) hx
      try simp only at q0 q1
      have HF : Hid (quMay ⟨l, false⟩ room = true) := qumay_ends HR.out (fun e => by cases e) (fun i hi => (HA.out i hi).1) (fun i hi => (HA.out i hi).2)
      go_wp2_with fail
      go_ret
      exact ⟨by rw [HF.out]; rfl, below2Z HB.out HN.out⟩

set_option maxHeartbeats 3200000 in
set_option maxRecDepth 100000 in
theorem rqumay_4 {w : World} {v : Value} {l : List Chg} (hv : Chgs w v l) (hs : ShortC l) (hl : l.length ≤ 100) {room : Int} (h : ¬ room < (l.length : Int)) (h0 : l = []) :
    Calls Try.prog 15 #[.agg #[v, .bool true], .int .i64 room] w fun e w' => e = .returned (.bool (quMay ⟨l, true⟩ room)) ∧ Below w.heap.size w w' := by
  obtain ⟨ao, cap, rfl, hmx⟩ := hv.open'
  have b0 := bl_newZ w (.cells #[.slice ao l.length cap, .bool true] 24)
  have HV := Lib.hid (hv.later b0)
  have HB := Lib.hid b0
  have HQ := Lib.hid ((MapKept.heap_alloc w (.cells #[.slice ao l.length cap, .bool true] 24)).1)
  clear hv b0
  have t1 : decide (room < (l.length : Int)) = false := decide_eq_false h
  have t2 : decide ((0 : Int) < (l.length : Int)) = false := decide_eq_false (by rw [h0]; simp)
  have t3 : decide (0 < l.length) = false := decide_eq_false (by rw [h0]; simp)
  have HE := Lib.hid h0
  clear h0
  have HR : Hid ((l.length : Int) ≤ room) := Lib.hid (by omega)
  have HS := Lib.hid hs
  clear h hs
  go_enter Try.func15, Try.ntmps15
  go_wp2_with fail
  clear t1 t2 t3
  go_loopw [5] (fun i wr => ∃ k : Nat, k ≤ l.length ∧ i = .int .i64 k ∧ Hid (Below (w.alloc (.cells #[.slice ao l.length cap, .bool true] 24)).heap.size (w.alloc (.cells #[.slice ao l.length cap, .bool true] 24)) wr) ∧ Hid (∀ i, i < k → quOne (l.getD i Chg.zero) = true ∧ quAt l (l.getD i Chg.zero).c = i)) (fun i _ => l.length - (intOf i).toNat)
  case atStart => exact ⟨0, by omega, rfl, Below.refl _ _, fun i hi => by omega⟩
  case round =>
    obtain ⟨k, hk, rfl, HN, HA⟩ := hrel
    by_cases hlt : k < l.length
    · obtain ⟨b, off, rfl, h0, h1, h2, h3, h4, h5⟩ := HV.out.row HN.out k hlt
      have hx := (HN.out.block w.heap.size (by simp)).trans HQ.out
      have q0 := cell_of_row wr w.heap.size 0 _ _ (0, 0) hx
      have q1 := cell_of_row wr w.heap.size 1 _ _ (0, 0) hx
      try simp only at q0 q1
      obtain ⟨hl1, hl2⟩ := HS.out.get hlt
      obtain ⟨⟨c, o, ⟨x, y, z, st⟩⟩, hr⟩ : ∃ r, l.getD k Chg.zero = r := ⟨_, rfl⟩
      rw [hr] at h0 h1 h2 h3 h4 h5 hl1 hl2
      simp only at h0 h1 h2 h3 h4 h5 hl1 hl2
      have HRr := Lib.hid hr
      clear hr
      cases hone : quOne ⟨c, o, ⟨x, y, z, st⟩⟩ with
      | false =>
        have HF : Hid (quMay ⟨l, true⟩ room = false) := qumay_one hlt (by rw [HRr.out]; exact hone)
        have H1 := Lib.hid hone
        clear hone
        have HO := Lib.hid (rquone_any c st o x y z hl1 hl2 H1)
        go_wp2_with fail
        have g0 := cell_regrown h0
        have g1 := cell_regrown h1
        have g2 := cell_regrown h2
        have g3 := cell_regrown h3
        have g4 := cell_regrown h4
        have g5 := cell_regrown h5
        have p0 := cell_regrown q0
        have p1 := cell_regrown q1
        clear h0 h1 h2 h3 h4 h5 q0 q1
        refine wp_region_quiet_below (by kernel_rfl) (by kernel_rfl) ?_
        repeat (go_big_quiet_step (first | with_reducible exact rgB HO.out _ _ _))
        refine wpQuiet_nil ?_
        intro w5 hw5
        have HN5 := Lib.hid (HN.out.trans ((regrown_belowD hw5).mono HN.out.size))
        clear hw5 g0 g1 g2 g3 g4 g5 p0 p1
        go_wp2_with fail
        go_ret
        exact ⟨by rw [HF.out]; rfl, below2Z HB.out HN5.out⟩
      | true =>
        have H1 := Lib.hid hone
        have HO := Lib.hid (rquone_any c st o x y z hl1 hl2 H1)
        have hhas : quHas l c = true := quHas_iff.2 ⟨l.getD k Chg.zero, by rw [List.getD_eq_getElem?_getD, List.getElem?_eq_getElem hlt]; exact List.getElem_mem hlt, congrArg (·.c) HRr.out⟩
        obtain ⟨m, hm⟩ : ∃ m, quAt l c = m := ⟨_, rfl⟩
        have HP : Hid (∀ w', Below wr.heap.size wr w' → Calls Try.prog 42 #[.agg #[.slice (some ⟨b, off, none⟩) l.length cap, .bool true], .string ⟨c.toArray⟩] w' fun e w'' => e = .returned (.int .i64 (m : Nat)) ∧ Below w'.heap.size w' w'') := Lib.hid fun w' hb' => by
          rw [← hm]
          exact rquplace_yes ((HV.out.later HN.out).later hb') _ c hhas
        have hne : ∀ mm : Nat, (((mm : Int) != (k : Int)) = !(decide (mm = k))) := fun mm => by
          rw [Bool.eq_iff_iff]; simp [bne_iff_ne]; omega
        by_cases hmk : m = k
        · have HA2 : Hid (∀ i, i < k + 1 → quOne (l.getD i Chg.zero) = true ∧ quAt l (l.getD i Chg.zero).c = i) := Lib.hid fun i hi => by
            rcases Nat.lt_or_eq_of_le (Nat.le_of_lt_succ hi) with h | h
            · exact HA.out i h
            · subst h; rw [HRr.out]; exact ⟨hone, by rw [hm, hmk]⟩
          have t7 : (((m : Nat) : Int) != (k : Int)) = false := by rw [hne, decide_eq_true hmk]; rfl
          clear hone hm hne hmk
          go_wp2_with fail
          have g0 := cell_regrown h0
          have g1 := cell_regrown h1
          have g2 := cell_regrown h2
          have g3 := cell_regrown h3
          have g4 := cell_regrown h4
          have g5 := cell_regrown h5
          have p0 := cell_regrown q0
          have p1 := cell_regrown q1
          clear h0 h1 h2 h3 h4 h5 q0 q1
          refine wp_region_quiet_below (by kernel_rfl) (by kernel_rfl) ?_
          repeat (go_big_quiet_step (first | with_reducible exact rgB HO.out _ _ _ | with_reducible exact rgM HP.out _ _))
          refine wpQuiet_nil ?_
          intro w5 hw5
          have HN5 := Lib.hid (HN.out.trans ((regrown_belowD hw5).mono HN.out.size))
          clear hw5 g0 g1 g2 g3 g4 g5 p0 p1
          go_wp2_with fail
          go_roundw
          case rel => exact ⟨k + 1, by omega, by go_num, HN5, HA2⟩
          case measure => simp [intOf]; omega
        · have HF : Hid (quMay ⟨l, true⟩ room = false) := qumay_at hlt (by rw [HRr.out]; simp only; rw [hm]; exact hmk)
          have t7 : (((m : Nat) : Int) != (k : Int)) = true := by rw [hne, decide_eq_false hmk]; rfl
          clear hone hm hne hmk
          go_wp2_with fail
          have g0 := cell_regrown h0
          have g1 := cell_regrown h1
          have g2 := cell_regrown h2
          have g3 := cell_regrown h3
          have g4 := cell_regrown h4
          have g5 := cell_regrown h5
          have p0 := cell_regrown q0
          have p1 := cell_regrown q1
          clear h0 h1 h2 h3 h4 h5 q0 q1
          refine wp_region_quiet_below (by kernel_rfl) (by kernel_rfl) ?_
          repeat (go_big_quiet_step (first | with_reducible exact rgB HO.out _ _ _ | with_reducible exact rgM HP.out _ _))
          refine wpQuiet_nil ?_
          intro w5 hw5
          have HN5 := Lib.hid (HN.out.trans ((regrown_belowD hw5).mono HN.out.size))
          clear hw5 g0 g1 g2 g3 g4 g5 p0 p1
          go_wp2_with fail
          go_ret
          exact ⟨by rw [HF.out]; rfl, below2Z HB.out HN5.out⟩
    · obtain rfl : k = l.length := by omega
      have hx := (HN.out.block w.heap.size (by simp)).trans HQ.out
      have q0 := cell_of_row wr w.heap.size 0 _ _ (0, 0) hx
      have q1 := cell_of_row wr w.heap.size 1 _ _ (0, 0) hx
      try simp only at q0 q1
      have HF : Hid (quMay ⟨l, true⟩ room = true) := qumay_ends HR.out (fun _ => HE.out) (fun i hi => (HA.out i hi).1) (fun i hi => (HA.out i hi).2)
      go_wp2_with fail
      go_ret
      exact ⟨by rw [HF.out]; rfl, below2Z HB.out HN.out⟩

theorem rqumay_any {w : World} {v : Value} {l : List Chg} (hv : Chgs w v l) (hs : ShortC l) (hl : l.length ≤ 100) (la : Bool) {room : Int} {r : Bool} (h : Hid (quMay ⟨l, la⟩ room = r)) :
    Calls Try.prog 15 #[.agg #[v, .bool la], .int .i64 room] w fun e w' => e = .returned (.bool r) ∧ Below w.heap.size w w' := by
  rw [← h.out]
  by_cases h1 : room < (l.length : Int)
  · rw [qumay_long h1]
    exact rqumay_1 hv la h1
  · cases la with
    | false => exact rqumay_3 hv hs hl h1
    | true =>
      by_cases h0 : 0 < l.length
      · rw [qumay_la h0]
        exact rqumay_2 hv h1 h0
      · exact rqumay_4 hv hs hl h1 (List.length_eq_zero_iff.1 (by omega))

set_option maxHeartbeats 3200000 in
set_option maxRecDepth 100000 in
theorem quempty_any {w : World} {v : Value} {l : List Chg} (hv : Chgs w v l) (la : Bool) {r : Bool} (h : Hid (quEmpty ⟨l, la⟩ = r)) :
    Calls Try.prog 21 #[.agg #[v, .bool la]] w fun e w' => e = .returned (.bool r) ∧ Below w.heap.size w w' := by
  obtain ⟨ao, cap, rfl, hmx⟩ := hv.open'
  have h := h.out
  unfold quEmpty at h
  simp only at h
  have HB := Lib.hid (bl_newZ w (.cells #[.slice ao l.length cap, .bool la] 24))
  by_cases h0 : l.length = 0
  · have t1 : ((l.length : Int) == 0) = true := by rw [h0]; rfl
    rw [decide_eq_true h0, Bool.true_and] at h
    subst h
    clear h0 hv
    go_enter Try.func21, Try.ntmps21
    go_wp2_with fail
    go_ret
    exact ⟨rfl, HB.out⟩
  · have t1 : ((l.length : Int) == 0) = false := by rw [beq_eq_false_iff_ne]; omega
    rw [decide_eq_false h0, Bool.false_and] at h
    subst h
    clear h0 hv
    go_enter Try.func21, Try.ntmps21
    go_wp2_with fail
    go_ret
    exact ⟨rfl, HB.out⟩

set_option maxHeartbeats 3200000 in
set_option maxRecDepth 100000 in
theorem rquempty_any {w : World} {v : Value} {l : List Chg} (hv : Chgs w v l) (la : Bool) {r : Bool} (h : Hid (quEmpty ⟨l, la⟩ = r)) :
    Calls Try.prog 22 #[.agg #[v, .bool la]] w fun e w' => e = .returned (.bool r) ∧ Below w.heap.size w w' := by
  obtain ⟨ao, cap, rfl, hmx⟩ := hv.open'
  have h := h.out
  unfold quEmpty at h
  simp only at h
  have HB := Lib.hid (bl_newZ w (.cells #[.slice ao l.length cap, .bool la] 24))
  by_cases h0 : l.length = 0
  · have t1 : ((l.length : Int) == 0) = true := by rw [h0]; rfl
    rw [decide_eq_true h0, Bool.true_and] at h
    subst h
    clear h0 hv
    go_enter Try.func22, Try.ntmps22
    go_wp2_with fail
    go_ret
    exact ⟨rfl, HB.out⟩
  · have t1 : ((l.length : Int) == 0) = false := by rw [beq_eq_false_iff_ne]; omega
    rw [decide_eq_false h0, Bool.false_and] at h
    subst h
    clear h0 hv
    go_enter Try.func22, Try.ntmps22
    go_wp2_with fail
    go_ret
    exact ⟨rfl, HB.out⟩

end Go.Proofs.Ythlkfbiclhgdoaa

end

section

/-
  slices.Clone, slices.Insert AND slices.Delete of one element, at elements of 6 cells.
-/
namespace Go.Proofs.Ythlkfbiclhgdoaa
open Go.RowKit

set_option maxHeartbeats 800000 in
set_option maxRecDepth 100000 in
theorem chg_clone {w : World} {v : Value} {t : List Chg} (hv : RdS chgVals 6 Chg.zero w v t) (hl : t.length ≤ 4294967) :
    Calls Try.prog 43 #[v] w fun e w' => ∃ u, e = .returned u ∧ OwnS chgVals 6 33 w' w.heap.size u t ∧ Below w.heap.size w w' := by
  have HV := Lib.hid hv
  obtain ⟨a, cap, rfl, h1, h2, h3, h4⟩ := hv
  cases a with
  | none =>
    obtain rfl : cap = 0 := h3 rfl
    obtain rfl : t = [] := List.length_eq_zero_iff.1 (by omega)
    have heq := fun w => eqlS_nil_nil chgOK w 0 0
    clear h4
    go_enter Try.func43, Try.ntmps43
    go_wp2_with fail
    go_ret
    exact ⟨_, rfl, ownS_nil _ _, Below.refl _ _⟩
  | some x =>
    have HS := Lib.hid ((HV.out.later ((Below.refl _ _).alloc (Nat.le_refl _) (.cells #[] 33))).src chgOK)
    have heq := fun w => eqlS_nil_some chgOK w x t.length cap
    clear h4 h3
    go_enter Try.func43, Try.ntmps43
    go_wp2_with (at_builtin; go_must (refine wpList_append_S chgOK rfl _ _ rfl w.heap.size _ [] rfl (by exact ownS_made w) (some x) t.length cap t rfl rfl (fun e => nomatch e) ?c1 (by simp only [List.length_nil]; omega) (by simp) ?_))
    case c1 => intro ad had; obtain rfl := Option.some.inj had; exact HS.out
    intro v' w' ho' hb'
    have O := Lib.hid ho'
    have hbB : Hid (Below w.heap.size w w') := ((Below.refl w.heap.size w).alloc (Nat.le_refl _) _).trans hb'
    clear ho' hb'
    go_wp2_with fail
    go_ret
    exact ⟨_, rfl, by have := O.out; simpa using this, hbB.out⟩

end Go.Proofs.Ythlkfbiclhgdoaa

end

section

/-
  LAYER 17: the change of a contact; what is pushed, and popped.
-/
namespace Go.Proofs.Ythlkfbiclhgdoaa
open Go.RowKit

theorem upQ {w w' : World} {b : Nat} {o : Obj} (h : w.heap[b]? = some o) (hb : Below w.heap.size w w') : w'.heap[b]? = some o :=
  (hb.block b (Array.getElem?_eq_some_iff.1 h).1).trans h
theorem newQ (w : World) (o : Obj) : (w.alloc o).heap[w.heap.size]? = some o := (MapKept.heap_alloc w o).1

theorem twoQ {w : World} {b : Nat} {x0 x1 : Value} {T : TypeId} (h : w.heap[b]? = some (.cells #[x0, x1] T (0, 0))) : (w.cell? ⟨b, 0, none⟩ = some x0 ∧ w.cell? ⟨b, 1, none⟩ = some x1) ∧ w.frozen? ⟨b, 0, none⟩ = false ∧ w.frozen? ⟨b, 1, none⟩ = false :=
  ⟨⟨cell_of_row w b 0 _ _ (0, 0) h, cell_of_row w b 1 _ _ (0, 0) h⟩, frozen_of_row w b 0 _ _ h, frozen_of_row w b 1 _ _ h⟩

theorem sixQ {w : World} {b : Nat} {x0 x1 x2 x3 x4 x5 : Value} {T : TypeId} (h : w.heap[b]? = some (.cells #[x0, x1, x2, x3, x4, x5] T (0, 0))) : (w.cell? ⟨b, 0, none⟩ = some x0 ∧ w.cell? ⟨b, 1, none⟩ = some x1 ∧ w.cell? ⟨b, 2, none⟩ = some x2 ∧ w.cell? ⟨b, 3, none⟩ = some x3 ∧ w.cell? ⟨b, 4, none⟩ = some x4 ∧ w.cell? ⟨b, 5, none⟩ = some x5) ∧
    (w.frozen? ⟨b, 0, none⟩ = false ∧ w.frozen? ⟨b, 1, none⟩ = false ∧ w.frozen? ⟨b, 2, none⟩ = false ∧ w.frozen? ⟨b, 3, none⟩ = false ∧ w.frozen? ⟨b, 4, none⟩ = false ∧ w.frozen? ⟨b, 5, none⟩ = false) :=
  ⟨⟨cell_of_row w b 0 _ _ (0, 0) h, cell_of_row w b 1 _ _ (0, 0) h, cell_of_row w b 2 _ _ (0, 0) h, cell_of_row w b 3 _ _ (0, 0) h, cell_of_row w b 4 _ _ (0, 0) h, cell_of_row w b 5 _ _ (0, 0) h⟩,
    ⟨frozen_of_row w b 0 _ _ h, frozen_of_row w b 1 _ _ h, frozen_of_row w b 2 _ _ h, frozen_of_row w b 3 _ _ h, frozen_of_row w b 4 _ _ h, frozen_of_row w b 5 _ _ h⟩⟩

set_option maxHeartbeats 3200000 in
set_option maxRecDepth 100000 in
theorem qufind_yes {w : World} {v : Value} {l : List Chg} (hv : Chgs w v l) (la : Bool) (key : List UInt8) (hh : quHas l key = true) {c st : List UInt8} {on : Bool} {a b d : Int} (hg : l.getD (quAt l key) Chg.zero = ⟨c, on, ⟨a, b, d, st⟩⟩) :
    Calls Try.prog 18 #[.agg #[v, .bool la], .string ⟨key.toArray⟩] w fun e w' => e = .returned (.tuple #[.agg #[.string ⟨c.toArray⟩, .bool on, .int .i64 a, .int .i64 b, .int .i64 d, .string ⟨st.toArray⟩], .bool true]) ∧ Below w.heap.size w w' := by
  obtain ⟨ao, cap, rfl, hmx⟩ := hv.open'
  have b0 := bl_newZ w (.cells #[.slice ao l.length cap, .bool la] 24)
  have b1 := bl_newZ (w.alloc (.cells #[.slice ao l.length cap, .bool la] 24)) (.cells #[.string ⟨#[]⟩, .bool false, .int .i64 0, .int .i64 0, .int .i64 0, .string ⟨#[]⟩] 33)
  have HB := Lib.hid (below2Z b0 b1)
  have V := Lib.hid ((hv.later b0).later b1)
  have A := Lib.hid (upQ (newQ w (.cells #[.slice ao l.length cap, .bool la] 24)) b1)
  have R : Hid (((w.alloc (.cells #[.slice ao l.length cap, .bool la] 24)).alloc (.cells #[.string ⟨#[]⟩, .bool false, .int .i64 0, .int .i64 0, .int .i64 0, .string ⟨#[]⟩] 33)).heap[w.heap.size + 1]? = some (.cells #[.string ⟨#[]⟩, .bool false, .int .i64 0, .int .i64 0, .int .i64 0, .string ⟨#[]⟩] 33 (0, 0))) := Lib.hid (by have := newQ (w.alloc (.cells #[.slice ao l.length cap, .bool la] 24)) (.cells #[.string ⟨#[]⟩, .bool false, .int .i64 0, .int .i64 0, .int .i64 0, .string ⟨#[]⟩] 33); rwa [World.size_alloc] at this)
  clear b0 b1 hv
  have HH := Lib.hid hh
  obtain ⟨hlt, _⟩ := quAt_is hh
  obtain ⟨m, hm⟩ : ∃ m, quAt l key = m := ⟨_, rfl⟩
  rw [hm] at hlt
  have HG : Hid (l.getD m Chg.zero = ⟨c, on, ⟨a, b, d, st⟩⟩) := Lib.hid (by rw [← hm]; exact hg)
  have HM := Lib.hid hm
  clear hh hm hg
  obtain ⟨⟨q0, q1⟩, f0, f1⟩ := twoQ A.out
  go_enter Try.func18, Try.ntmps18
  go_wp2_with fail
  clear q0 q1 f0 f1
  refine (quplace_yes V.out key HH.out).mono ?_
  rintro e w1 ⟨rfl, b1⟩
  replace V := Lib.hid (V.out.later b1)
  replace A := Lib.hid (upQ A.out b1)
  replace R := Lib.hid (upQ R.out b1)
  replace HB := Lib.hid (below2Z HB.out b1)
  clear b1
  try rw [HM.out]
  obtain ⟨⟨q0, q1⟩, f0, f1⟩ := twoQ A.out
  obtain ⟨⟨r0, r1, r2, r3, r4, r5⟩, ⟨g0, g1, g2, g3, g4, g5⟩⟩ := sixQ R.out
  obtain ⟨bk, off, rfl, h0, h1, h2, h3, h4, h5⟩ := V.out.row (Below.refl _ _) m hlt
  rw [HG.out] at h0 h1 h2 h3 h4 h5
  simp only at h0 h1 h2 h3 h4 h5
  go_wp2_with fail
  refine bodyPost_ret (v := .tuple #[.agg #[.string ⟨c.toArray⟩, .bool on, .int .i64 a, .int .i64 b, .int .i64 d, .string ⟨st.toArray⟩], .bool true]) (by simp [results, Try.results18, go_sem, r0, r1, r2, r3, r4, r5]) rfl ⟨rfl, ?_⟩
  have hle : w.heap.size ≤ w.heap.size + 1 := Nat.le_succ _
  exact (((((HB.out.setCell hle _).setCell hle _).setCell hle _).setCell hle _).setCell hle _).setCell hle _

set_option maxHeartbeats 3200000 in
set_option maxRecDepth 100000 in
theorem qufind_no {w : World} {v : Value} {l : List Chg} (hv : Chgs w v l) (la : Bool) (key : List UInt8) (hh : quHas l key = false) :
    Calls Try.prog 18 #[.agg #[v, .bool la], .string ⟨key.toArray⟩] w fun e w' => e = .returned (.tuple #[.agg #[.string ⟨#[]⟩, .bool false, .int .i64 0, .int .i64 0, .int .i64 0, .string ⟨#[]⟩], .bool false]) ∧ Below w.heap.size w w' := by
  obtain ⟨ao, cap, rfl, hmx⟩ := hv.open'
  have b0 := bl_newZ w (.cells #[.slice ao l.length cap, .bool la] 24)
  have b1 := bl_newZ (w.alloc (.cells #[.slice ao l.length cap, .bool la] 24)) (.cells #[.string ⟨#[]⟩, .bool false, .int .i64 0, .int .i64 0, .int .i64 0, .string ⟨#[]⟩] 33)
  have HB := Lib.hid (below2Z b0 b1)
  have V := Lib.hid ((hv.later b0).later b1)
  have A := Lib.hid (upQ (newQ w (.cells #[.slice ao l.length cap, .bool la] 24)) b1)
  have R : Hid (((w.alloc (.cells #[.slice ao l.length cap, .bool la] 24)).alloc (.cells #[.string ⟨#[]⟩, .bool false, .int .i64 0, .int .i64 0, .int .i64 0, .string ⟨#[]⟩] 33)).heap[w.heap.size + 1]? = some (.cells #[.string ⟨#[]⟩, .bool false, .int .i64 0, .int .i64 0, .int .i64 0, .string ⟨#[]⟩] 33 (0, 0))) := Lib.hid (by have := newQ (w.alloc (.cells #[.slice ao l.length cap, .bool la] 24)) (.cells #[.string ⟨#[]⟩, .bool false, .int .i64 0, .int .i64 0, .int .i64 0, .string ⟨#[]⟩] 33); rwa [World.size_alloc] at this)
  clear b0 b1 hv
  have HH := Lib.hid hh
  clear hh
  obtain ⟨⟨q0, q1⟩, f0, f1⟩ := twoQ A.out
  go_enter Try.func18, Try.ntmps18
  go_wp2_with fail
  clear q0 q1 f0 f1
  refine (quplace_no V.out key HH.out).mono ?_
  rintro e w1 ⟨rfl, b1⟩
  replace V := Lib.hid (V.out.later b1)
  replace A := Lib.hid (upQ A.out b1)
  replace R := Lib.hid (upQ R.out b1)
  replace HB := Lib.hid (below2Z HB.out b1)
  clear b1
  obtain ⟨⟨q0, q1⟩, f0, f1⟩ := twoQ A.out
  obtain ⟨⟨r0, r1, r2, r3, r4, r5⟩, ⟨g0, g1, g2, g3, g4, g5⟩⟩ := sixQ R.out
  go_wp2_with fail
  refine bodyPost_ret (v := .tuple #[.agg #[.string ⟨#[]⟩, .bool false, .int .i64 0, .int .i64 0, .int .i64 0, .string ⟨#[]⟩], .bool false]) (by simp [results, Try.results18, go_sem, r0, r1, r2, r3, r4, r5]) rfl ⟨rfl, ?_⟩
  have hle : w.heap.size ≤ w.heap.size + 1 := Nat.le_succ _
  exact (((((HB.out.setCell hle _).setCell hle _).setCell hle _).setCell hle _).setCell hle _).setCell hle _

theorem qufind_any {w : World} {v : Value} {l : List Chg} (hv : Chgs w v l) (la : Bool) (key : List UInt8) {c st : List UInt8} {on k : Bool} {a b d : Int} (hr : Hid (quFind ⟨l, la⟩ key = (⟨c, on, ⟨a, b, d, st⟩⟩, k))) :
    Calls Try.prog 18 #[.agg #[v, .bool la], .string ⟨key.toArray⟩] w fun e w' => e = .returned (.tuple #[.agg #[.string ⟨c.toArray⟩, .bool on, .int .i64 a, .int .i64 b, .int .i64 d, .string ⟨st.toArray⟩], .bool k]) ∧ Below w.heap.size w w' := by
  have hr := hr.out
  unfold quFind at hr
  simp only at hr
  cases hh : quHas l key with
  | true =>
    rw [hh, if_pos rfl, Prod.mk.injEq] at hr
    obtain ⟨hz, rfl⟩ := hr
    exact qufind_yes hv la key hh hz
  | false =>
    rw [hh, if_neg (by simp), Prod.mk.injEq] at hr
    obtain ⟨hz, rfl⟩ := hr
    unfold Chg.nought Val.zero at hz
    simp only [Chg.mk.injEq, Val.mk.injEq] at hz
    obtain ⟨rfl, rfl, rfl, rfl, rfl, rfl⟩ := hz
    exact qufind_no hv la key hh

set_option maxHeartbeats 3200000 in
set_option maxRecDepth 100000 in
theorem rqufind_yes {w : World} {v : Value} {l : List Chg} (hv : Chgs w v l) (la : Bool) (key : List UInt8) (hh : quHas l key = true) {c st : List UInt8} {on : Bool} {a b d : Int} (hg : l.getD (quAt l key) Chg.zero = ⟨c, on, ⟨a, b, d, st⟩⟩) :
    Calls Try.prog 19 #[.agg #[v, .bool la], .string ⟨key.toArray⟩] w fun e w' => e = .returned (.tuple #[.agg #[.string ⟨c.toArray⟩, .bool on, .int .i64 a, .int .i64 b, .int .i64 d, .string ⟨st.toArray⟩], .bool true]) ∧ Below w.heap.size w w' := by
  obtain ⟨ao, cap, rfl, hmx⟩ := hv.open'
  have b0 := bl_newZ w (.cells #[.slice ao l.length cap, .bool la] 24)
  have b1 := bl_newZ (w.alloc (.cells #[.slice ao l.length cap, .bool la] 24)) (.cells #[.string ⟨#[]⟩, .bool false, .int .i64 0, .int .i64 0, .int .i64 0, .string ⟨#[]⟩] 33)
  have HB := Lib.hid (below2Z b0 b1)
  have V := Lib.hid ((hv.later b0).later b1)
  have A := Lib.hid (upQ (newQ w (.cells #[.slice ao l.length cap, .bool la] 24)) b1)
  have R : Hid (((w.alloc (.cells #[.slice ao l.length cap, .bool la] 24)).alloc (.cells #[.string ⟨#[]⟩, .bool false, .int .i64 0, .int .i64 0, .int .i64 0, .string ⟨#[]⟩] 33)).heap[w.heap.size + 1]? = some (.cells #[.string ⟨#[]⟩, .bool false, .int .i64 0, .int .i64 0, .int .i64 0, .string ⟨#[]⟩] 33 (0, 0))) := Lib.hid (by have := newQ (w.alloc (.cells #[.slice ao l.length cap, .bool la] 24)) (.cells #[.string ⟨#[]⟩, .bool false, .int .i64 0, .int .i64 0, .int .i64 0, .string ⟨#[]⟩] 33); rwa [World.size_alloc] at this)
  clear b0 b1 hv
  have HH := Lib.hid hh
  obtain ⟨hlt, _⟩ := quAt_is hh
  obtain ⟨m, hm⟩ : ∃ m, quAt l key = m := ⟨_, rfl⟩
  rw [hm] at hlt
  have HG : Hid (l.getD m Chg.zero = ⟨c, on, ⟨a, b, d, st⟩⟩) := Lib.hid (by rw [← hm]; exact hg)
  have HM := Lib.hid hm
  clear hh hm hg
  obtain ⟨⟨q0, q1⟩, f0, f1⟩ := twoQ A.out
  go_enter Try.func19, Try.ntmps19
  go_wp2_with fail
  clear q0 q1 f0 f1
  refine (rquplace_yes V.out la key HH.out).mono ?_
  rintro e w1 ⟨rfl, b1⟩
  replace V := Lib.hid (V.out.later b1)
  replace A := Lib.hid (upQ A.out b1)
  replace R := Lib.hid (upQ R.out b1)
  replace HB := Lib.hid (below2Z HB.out b1)
  clear b1
  try rw [HM.out]
  obtain ⟨⟨q0, q1⟩, f0, f1⟩ := twoQ A.out
  obtain ⟨⟨r0, r1, r2, r3, r4, r5⟩, ⟨g0, g1, g2, g3, g4, g5⟩⟩ := sixQ R.out
  obtain ⟨bk, off, rfl, h0, h1, h2, h3, h4, h5⟩ := V.out.row (Below.refl _ _) m hlt
  rw [HG.out] at h0 h1 h2 h3 h4 h5
  simp only at h0 h1 h2 h3 h4 h5
  go_wp2_with fail
  refine bodyPost_ret (v := .tuple #[.agg #[.string ⟨c.toArray⟩, .bool on, .int .i64 a, .int .i64 b, .int .i64 d, .string ⟨st.toArray⟩], .bool true]) (by simp [results, Try.results19, go_sem, r0, r1, r2, r3, r4, r5]) rfl ⟨rfl, ?_⟩
  have hle : w.heap.size ≤ w.heap.size + 1 := Nat.le_succ _
  exact (((((HB.out.setCell hle _).setCell hle _).setCell hle _).setCell hle _).setCell hle _).setCell hle _

set_option maxHeartbeats 3200000 in
set_option maxRecDepth 100000 in
theorem rqufind_no {w : World} {v : Value} {l : List Chg} (hv : Chgs w v l) (la : Bool) (key : List UInt8) (hh : quHas l key = false) :
    Calls Try.prog 19 #[.agg #[v, .bool la], .string ⟨key.toArray⟩] w fun e w' => e = .returned (.tuple #[.agg #[.string ⟨#[]⟩, .bool false, .int .i64 0, .int .i64 0, .int .i64 0, .string ⟨#[]⟩], .bool false]) ∧ Below w.heap.size w w' := by
  obtain ⟨ao, cap, rfl, hmx⟩ := hv.open'
  have b0 := bl_newZ w (.cells #[.slice ao l.length cap, .bool la] 24)
  have b1 := bl_newZ (w.alloc (.cells #[.slice ao l.length cap, .bool la] 24)) (.cells #[.string ⟨#[]⟩, .bool false, .int .i64 0, .int .i64 0, .int .i64 0, .string ⟨#[]⟩] 33)
  have HB := Lib.hid (below2Z b0 b1)
  have V := Lib.hid ((hv.later b0).later b1)
  have A := Lib.hid (upQ (newQ w (.cells #[.slice ao l.length cap, .bool la] 24)) b1)
  have R : Hid (((w.alloc (.cells #[.slice ao l.length cap, .bool la] 24)).alloc (.cells #[.string ⟨#[]⟩, .bool false, .int .i64 0, .int .i64 0, .int .i64 0, .string ⟨#[]⟩] 33)).heap[w.heap.size + 1]? = some (.cells #[.string ⟨#[]⟩, .bool false, .int .i64 0, .int .i64 0, .int .i64 0, .string ⟨#[]⟩] 33 (0, 0))) := Lib.hid (by have := newQ (w.alloc (.cells #[.slice ao l.length cap, .bool la] 24)) (.cells #[.string ⟨#[]⟩, .bool false, .int .i64 0, .int .i64 0, .int .i64 0, .string ⟨#[]⟩] 33); rwa [World.size_alloc] at this)
  clear b0 b1 hv
  have HH := Lib.hid hh
  clear hh
  obtain ⟨⟨q0, q1⟩, f0, f1⟩ := twoQ A.out
  go_enter Try.func19, Try.ntmps19
  go_wp2_with fail
  clear q0 q1 f0 f1
  refine (rquplace_no V.out la key HH.out).mono ?_
  rintro e w1 ⟨rfl, b1⟩
  replace V := Lib.hid (V.out.later b1)
  replace A := Lib.hid (upQ A.out b1)
  replace R := Lib.hid (upQ R.out b1)
  replace HB := Lib.hid (below2Z HB.out b1)
  clear b1
  obtain ⟨⟨q0, q1⟩, f0, f1⟩ := twoQ A.out
  obtain ⟨⟨r0, r1, r2, r3, r4, r5⟩, ⟨g0, g1, g2, g3, g4, g5⟩⟩ := sixQ R.out
  go_wp2_with fail
  refine bodyPost_ret (v := .tuple #[.agg #[.string ⟨#[]⟩, .bool false, .int .i64 0, .int .i64 0, .int .i64 0, .string ⟨#[]⟩], .bool false]) (by simp [results, Try.results19, go_sem, r0, r1, r2, r3, r4, r5]) rfl ⟨rfl, ?_⟩
  have hle : w.heap.size ≤ w.heap.size + 1 := Nat.le_succ _
  exact (((((HB.out.setCell hle _).setCell hle _).setCell hle _).setCell hle _).setCell hle _).setCell hle _

theorem rqufind_any {w : World} {v : Value} {l : List Chg} (hv : Chgs w v l) (la : Bool) (key : List UInt8) {c st : List UInt8} {on k : Bool} {a b d : Int} (hr : Hid (quFind ⟨l, la⟩ key = (⟨c, on, ⟨a, b, d, st⟩⟩, k))) :
    Calls Try.prog 19 #[.agg #[v, .bool la], .string ⟨key.toArray⟩] w fun e w' => e = .returned (.tuple #[.agg #[.string ⟨c.toArray⟩, .bool on, .int .i64 a, .int .i64 b, .int .i64 d, .string ⟨st.toArray⟩], .bool k]) ∧ Below w.heap.size w w' := by
  have hr := hr.out
  unfold quFind at hr
  simp only at hr
  cases hh : quHas l key with
  | true =>
    rw [hh, if_pos rfl, Prod.mk.injEq] at hr
    obtain ⟨hz, rfl⟩ := hr
    exact rqufind_yes hv la key hh hz
  | false =>
    rw [hh, if_neg (by simp), Prod.mk.injEq] at hr
    obtain ⟨hz, rfl⟩ := hr
    unfold Chg.nought Val.zero at hz
    simp only [Chg.mk.injEq, Val.mk.injEq] at hz
    obtain ⟨rfl, rfl, rfl, rfl, rfl, rfl⟩ := hz
    exact rqufind_no hv la key hh

end Go.Proofs.Ythlkfbiclhgdoaa

end

section

/-
  LAYER 17: what is pushed, the code's and the document's.
-/
namespace Go.Proofs.Ythlkfbiclhgdoaa
open Go.RowKit

/-- A change stored, cell by cell. -/
theorem chg_store {w : World} {base g n cap : Nat} {l : List Chg} (h : OwnQ w base (.slice (some ⟨g, 0, none⟩) n cap) l) {i : Nat} (hi : i < l.length) (c st : List UInt8) (on : Bool) (a b d : Int) :
    OwnQ ((((((w.setCell ⟨g, i * 6, none⟩ (.string ⟨c.toArray⟩)).setCell ⟨g, i * 6 + 1, none⟩ (.bool on)).setCell ⟨g, i * 6 + 2, none⟩ (.int .i64 a)).setCell ⟨g, i * 6 + 3, none⟩ (.int .i64 b)).setCell ⟨g, i * 6 + 4, none⟩ (.int .i64 d)).setCell ⟨g, i * 6 + 5, none⟩ (.string ⟨st.toArray⟩)) base (.slice (some ⟨g, 0, none⟩) n cap) (l.set i ⟨c, on, ⟨a, b, d, st⟩⟩) :=
  ownS_set chgOK h hi ⟨c, on, ⟨a, b, d, st⟩⟩

theorem store6Q {w0 w : World} {base g : Nat} (h : Below base w0 w) (hg : base ≤ g) (a0 a1 a2 a3 a4 a5 : Nat) (v0 v1 v2 v3 v4 v5 : Value) :
    Below base w0 ((((((w.setCell ⟨g, a0, none⟩ v0).setCell ⟨g, a1, none⟩ v1).setCell ⟨g, a2, none⟩ v2).setCell ⟨g, a3, none⟩ v3).setCell ⟨g, a4, none⟩ v4).setCell ⟨g, a5, none⟩ v5) :=
  (((((h.setCell hg _).setCell hg _).setCell hg _).setCell hg _).setCell hg _).setCell hg _

/-- A store into another block leaves a row of the call's own. -/
theorem ownQ_other {w : World} {base : Nat} {v : Value} {l : List Chg} (h : OwnQ w base v l) {b : Nat} (hb : b < base) (j : Nat) (u : Value) : OwnQ (w.setCell ⟨b, j, none⟩ u) base v l := by
  obtain ⟨h1, h2⟩ := h
  refine ⟨h1, ?_⟩
  rcases h2 with h2 | ⟨g, cap, cur, e, hge, hgb, r⟩
  · exact .inl h2
  · exact .inr ⟨g, cap, cur, e, hge, (Below.heap_setCell _ _ _ g (by show ¬ g = b; omega)).trans hgb, r⟩

theorem own_head {w : World} {base : Nat} {v : Value} {l : List Chg} (h : OwnQ w base v l) (hl : 0 < l.length) : ∃ g cg, v = .slice (some ⟨g, 0, none⟩) l.length cg ∧ base ≤ g := by
  rcases h.2 with ⟨rfl, h0⟩ | ⟨g, cg, cur, rfl, hb, _⟩
  · omega
  · exact ⟨g, cg, rfl, hb⟩

theorem chgs_src {w : World} {ao : Option Addr} {n cap : Nat} {l : List Chg} (h : Chgs w (.slice ao n cap) l) : (ao = none → cap = 0 ∧ l = []) ∧ ∀ ad, ao = some ad → SrcS chgVals w ad l := by
  refine ⟨fun e => ?_, fun ad e => ?_⟩
  · subst e
    obtain ⟨a, c, e, h1, _, h3, _⟩ := h
    simp only [Value.slice.injEq] at e
    obtain ⟨rfl, _, rfl⟩ := e
    have := h3 rfl
    exact ⟨this, List.length_eq_zero_iff.1 (by omega)⟩
  · subst e
    exact h.rdS.src chgOK

theorem ownQ_shape {w : World} {base : Nat} {v : Value} {l : List Chg} (h : OwnQ w base v l) : ∃ a c, v = .slice a l.length c := by
  rcases h.2 with ⟨rfl, h0⟩ | ⟨g, cg, cur, rfl, _⟩
  · exact ⟨none, 0, by rw [h0]⟩
  · exact ⟨_, cg, rfl⟩

/-- Two stores into a block of two cells. -/
theorem set2Q {w : World} {b : Nat} {x0 x1 y0 y1 : Value} {T : TypeId} (h : w.heap[b]? = some (.cells #[x0, x1] T (0, 0))) : ((w.setCell ⟨b, 0, none⟩ y0).setCell ⟨b, 1, none⟩ y1).cell? ⟨b, 0, none⟩ = some y0 ∧ ((w.setCell ⟨b, 0, none⟩ y0).setCell ⟨b, 1, none⟩ y1).cell? ⟨b, 1, none⟩ = some y1 := by
  have h1 := heap_setCell_same w b 0 _ _ y0 h
  have h2 := heap_setCell_same _ b 1 _ _ y1 h1
  exact ⟨cell_of_row _ b 0 _ _ (0, 0) h2, cell_of_row _ b 1 _ _ (0, 0) h2⟩

set_option maxHeartbeats 3200000 in
set_option maxRecDepth 100000 in
theorem qupush_1 {w : World} {v : Value} {l : List Chg} (hv : Chgs w v l) (c st : List UInt8) (on : Bool) (a b d : Int) (room : Int) :
    Calls Try.prog 27 #[.agg #[v, .bool true], .agg #[.string ⟨c.toArray⟩, .bool on, .int .i64 a, .int .i64 b, .int .i64 d, .string ⟨st.toArray⟩], .int .i64 room] w fun e w' => e = .returned (.agg #[v, .bool true]) ∧ Below w.heap.size w w' := by
  obtain ⟨ao, cap, rfl, hmx⟩ := hv.open'
  have b0 := bl_newZ w (.cells #[.slice ao l.length cap, .bool true] 24)
  have b1 := bl_newZ (w.alloc (.cells #[.slice ao l.length cap, .bool true] 24)) (.cells #[.string ⟨c.toArray⟩, .bool on, .int .i64 a, .int .i64 b, .int .i64 d, .string ⟨st.toArray⟩] 33)
  have b2 := bl_newZ ((w.alloc (.cells #[.slice ao l.length cap, .bool true] 24)).alloc (.cells #[.string ⟨c.toArray⟩, .bool on, .int .i64 a, .int .i64 b, .int .i64 d, .string ⟨st.toArray⟩] 33)) (.cells #[.slice none 0 0, .bool false] 24)
  have HB := Lib.hid (below2Z (below2Z b0 b1) b2)
  have V := Lib.hid (((hv.later b0).later b1).later b2)
  have A := Lib.hid (upQ (upQ (newQ w (.cells #[.slice ao l.length cap, .bool true] 24)) b1) b2)
  have C := newQ (w.alloc (.cells #[.slice ao l.length cap, .bool true] 24)) (.cells #[.string ⟨c.toArray⟩, .bool on, .int .i64 a, .int .i64 b, .int .i64 d, .string ⟨st.toArray⟩] 33)
  rw [World.size_alloc] at C
  replace C := Lib.hid (upQ C b2)
  have R := newQ ((w.alloc (.cells #[.slice ao l.length cap, .bool true] 24)).alloc (.cells #[.string ⟨c.toArray⟩, .bool on, .int .i64 a, .int .i64 b, .int .i64 d, .string ⟨st.toArray⟩] 33)) (.cells #[.slice none 0 0, .bool false] 24)
  rw [World.size_alloc, World.size_alloc] at R
  replace R := Lib.hid R
  clear b0 b1 b2 hv
  obtain ⟨⟨q0, q1⟩, f0, f1⟩ := twoQ A.out
  obtain ⟨⟨c_0, c_1, c_2, c_3, c_4, c_5⟩, ⟨d_0, d_1, d_2, d_3, d_4, d_5⟩⟩ := sixQ C.out
  obtain ⟨⟨r0, r1⟩, g0, g1⟩ := twoQ R.out
  go_enter Try.func27, Try.ntmps27
  go_wp2_with fail
  refine bodyPost_ret (v := .agg #[.slice ao l.length cap, .bool true]) (by simp [results, Try.results27, go_sem]) rfl ⟨rfl, ?_⟩
  exact (((Below.refl _ _).alloc (Nat.le_refl _) _).alloc (by simp) _).alloc (by simp; omega) _

set_option maxHeartbeats 3200000 in
set_option maxRecDepth 100000 in
theorem qupush_2 {w : World} {v : Value} {l : List Chg} (hv : Chgs w v l) (_hl : l.length ≤ 1000) (c st : List UInt8) (on : Bool) (a b d : Int) (room : Int) (hh : quHas l c = false) (hr : room ≤ (l.length : Int)) :
    Calls Try.prog 27 #[.agg #[v, .bool false], .agg #[.string ⟨c.toArray⟩, .bool on, .int .i64 a, .int .i64 b, .int .i64 d, .string ⟨st.toArray⟩], .int .i64 room] w fun e w' => e = .returned (.agg #[.slice none 0 0, .bool true]) ∧ Below w.heap.size w w' := by
  obtain ⟨ao, cap, rfl, hmx⟩ := hv.open'
  have b0 := bl_newZ w (.cells #[.slice ao l.length cap, .bool false] 24)
  have b1 := bl_newZ (w.alloc (.cells #[.slice ao l.length cap, .bool false] 24)) (.cells #[.string ⟨c.toArray⟩, .bool on, .int .i64 a, .int .i64 b, .int .i64 d, .string ⟨st.toArray⟩] 33)
  have b2 := bl_newZ ((w.alloc (.cells #[.slice ao l.length cap, .bool false] 24)).alloc (.cells #[.string ⟨c.toArray⟩, .bool on, .int .i64 a, .int .i64 b, .int .i64 d, .string ⟨st.toArray⟩] 33)) (.cells #[.slice none 0 0, .bool false] 24)
  have HB := Lib.hid (below2Z (below2Z b0 b1) b2)
  have V := Lib.hid (((hv.later b0).later b1).later b2)
  have A := Lib.hid (upQ (upQ (newQ w (.cells #[.slice ao l.length cap, .bool false] 24)) b1) b2)
  have C := newQ (w.alloc (.cells #[.slice ao l.length cap, .bool false] 24)) (.cells #[.string ⟨c.toArray⟩, .bool on, .int .i64 a, .int .i64 b, .int .i64 d, .string ⟨st.toArray⟩] 33)
  rw [World.size_alloc] at C
  replace C := Lib.hid (upQ C b2)
  have R := newQ ((w.alloc (.cells #[.slice ao l.length cap, .bool false] 24)).alloc (.cells #[.string ⟨c.toArray⟩, .bool on, .int .i64 a, .int .i64 b, .int .i64 d, .string ⟨st.toArray⟩] 33)) (.cells #[.slice none 0 0, .bool false] 24)
  rw [World.size_alloc, World.size_alloc] at R
  replace R := Lib.hid R
  clear b0 b1 b2 hv
  have HH := Lib.hid hh
  have t1 : decide (room ≤ (l.length : Int)) = true := decide_eq_true hr
  have t2 : decide ((l.length : Int) < room) = false := decide_eq_false (by omega)
  clear hh hr
  obtain ⟨⟨q0, q1⟩, f0, f1⟩ := twoQ A.out
  obtain ⟨⟨c_0, c_1, c_2, c_3, c_4, c_5⟩, ⟨d_0, d_1, d_2, d_3, d_4, d_5⟩⟩ := sixQ C.out
  obtain ⟨⟨r0, r1⟩, g0, g1⟩ := twoQ R.out
  go_enter Try.func27, Try.ntmps27
  go_wp2_with fail
  clear q0 q1 f0 f1 c_0 c_1 c_2 c_3 c_4 c_5 d_0 d_1 d_2 d_3 d_4 d_5 r0 r1 g0 g1
  refine (quplace_no V.out c HH.out).mono ?_
  rintro e w1 ⟨rfl, b1⟩
  replace V := Lib.hid (V.out.later b1)
  replace A := Lib.hid (upQ A.out b1)
  replace C := Lib.hid (upQ C.out b1)
  replace R := Lib.hid (upQ R.out b1)
  replace HB := Lib.hid (below2Z HB.out b1)
  clear b1
  obtain ⟨⟨q0, q1⟩, f0, f1⟩ := twoQ A.out
  obtain ⟨⟨c_0, c_1, c_2, c_3, c_4, c_5⟩, ⟨d_0, d_1, d_2, d_3, d_4, d_5⟩⟩ := sixQ C.out
  obtain ⟨⟨r0, r1⟩, g0, g1⟩ := twoQ R.out
  go_wp2_with fail
  obtain ⟨z0, z1⟩ := set2Q (y0 := .slice none 0 0) (y1 := .bool true) R.out
  refine bodyPost_ret (v := .agg #[.slice none 0 0, .bool true]) (by simp [results, Try.results27, go_sem, z0, z1]) rfl ⟨rfl, ?_⟩
  have hle : w.heap.size ≤ w.heap.size + 1 + 1 := by omega
  exact (HB.out.setCell hle _).setCell hle _

set_option maxHeartbeats 3200000 in
set_option maxRecDepth 100000 in
theorem qupush_3 {w : World} {v : Value} {l : List Chg} (hv : Chgs w v l) (hl : l.length ≤ 1000) (c st : List UInt8) (on : Bool) (a b d : Int) (room : Int) (hh : quHas l c = true) :
    Calls Try.prog 27 #[.agg #[v, .bool false], .agg #[.string ⟨c.toArray⟩, .bool on, .int .i64 a, .int .i64 b, .int .i64 d, .string ⟨st.toArray⟩], .int .i64 room] w fun e w' => ∃ u, e = .returned (.agg #[u, .bool false]) ∧ OwnQ w' w.heap.size u (l.set (quAt l c) ⟨c, on, ⟨a, b, d, st⟩⟩) ∧ Below w.heap.size w w' := by
  obtain ⟨ao, cap, rfl, hmx⟩ := hv.open'
  have b0 := bl_newZ w (.cells #[.slice ao l.length cap, .bool false] 24)
  have b1 := bl_newZ (w.alloc (.cells #[.slice ao l.length cap, .bool false] 24)) (.cells #[.string ⟨c.toArray⟩, .bool on, .int .i64 a, .int .i64 b, .int .i64 d, .string ⟨st.toArray⟩] 33)
  have b2 := bl_newZ ((w.alloc (.cells #[.slice ao l.length cap, .bool false] 24)).alloc (.cells #[.string ⟨c.toArray⟩, .bool on, .int .i64 a, .int .i64 b, .int .i64 d, .string ⟨st.toArray⟩] 33)) (.cells #[.slice none 0 0, .bool false] 24)
  have HB := Lib.hid (below2Z (below2Z b0 b1) b2)
  have V := Lib.hid (((hv.later b0).later b1).later b2)
  have A := Lib.hid (upQ (upQ (newQ w (.cells #[.slice ao l.length cap, .bool false] 24)) b1) b2)
  have C := newQ (w.alloc (.cells #[.slice ao l.length cap, .bool false] 24)) (.cells #[.string ⟨c.toArray⟩, .bool on, .int .i64 a, .int .i64 b, .int .i64 d, .string ⟨st.toArray⟩] 33)
  rw [World.size_alloc] at C
  replace C := Lib.hid (upQ C b2)
  have R := newQ ((w.alloc (.cells #[.slice ao l.length cap, .bool false] 24)).alloc (.cells #[.string ⟨c.toArray⟩, .bool on, .int .i64 a, .int .i64 b, .int .i64 d, .string ⟨st.toArray⟩] 33)) (.cells #[.slice none 0 0, .bool false] 24)
  rw [World.size_alloc, World.size_alloc] at R
  replace R := Lib.hid R
  clear b0 b1 b2 hv
  have HH := Lib.hid hh
  obtain ⟨hlt, _⟩ := quAt_is hh
  obtain ⟨m, hm⟩ : ∃ m, quAt l c = m := ⟨_, rfl⟩
  rw [hm] at hlt ⊢
  have HM := Lib.hid hm
  clear hh hm
  obtain ⟨⟨q0, q1⟩, f0, f1⟩ := twoQ A.out
  obtain ⟨⟨c_0, c_1, c_2, c_3, c_4, c_5⟩, ⟨d_0, d_1, d_2, d_3, d_4, d_5⟩⟩ := sixQ C.out
  obtain ⟨⟨r0, r1⟩, g0, g1⟩ := twoQ R.out
  go_enter Try.func27, Try.ntmps27
  go_wp2_with fail
  clear q0 q1 f0 f1 c_0 c_1 c_2 c_3 c_4 c_5 d_0 d_1 d_2 d_3 d_4 d_5 r0 r1 g0 g1
  refine (quplace_yes V.out c HH.out).mono ?_
  rintro e w1 ⟨rfl, b1⟩
  replace V := Lib.hid (V.out.later b1)
  replace A := Lib.hid (upQ A.out b1)
  replace C := Lib.hid (upQ C.out b1)
  replace R := Lib.hid (upQ R.out b1)
  replace HB := Lib.hid (below2Z HB.out b1)
  clear b1
  try rw [HM.out]
  obtain ⟨⟨q0, q1⟩, f0, f1⟩ := twoQ A.out
  obtain ⟨⟨c_0, c_1, c_2, c_3, c_4, c_5⟩, ⟨d_0, d_1, d_2, d_3, d_4, d_5⟩⟩ := sixQ C.out
  obtain ⟨⟨r0, r1⟩, g0, g1⟩ := twoQ R.out
  go_wp2_with fail
  clear q0 q1 f0 f1 c_0 c_1 c_2 c_3 c_4 c_5 d_0 d_1 d_2 d_3 d_4 d_5 r0 r1 g0 g1
  have hA := (Array.getElem?_eq_some_iff.1 A.out).1
  have hR := (Array.getElem?_eq_some_iff.1 R.out).1
  refine (chg_clone V.out.rdS (by omega)).mono ?_
  rintro e w2 ⟨u, rfl, ho, b2⟩
  replace A := Lib.hid (upQ A.out b2)
  replace C := Lib.hid (upQ C.out b2)
  replace R := Lib.hid (upQ R.out b2)
  replace HB := Lib.hid (below2Z HB.out b2)
  have hz2 := b2.size
  clear b2
  obtain ⟨g, cg, rfl, hg⟩ := own_head ho (by omega)
  have O := Lib.hid ho
  clear ho
  obtain ⟨⟨q0, q1⟩, f0, f1⟩ := twoQ A.out
  obtain ⟨⟨c_0, c_1, c_2, c_3, c_4, c_5⟩, ⟨d_0, d_1, d_2, d_3, d_4, d_5⟩⟩ := sixQ C.out
  obtain ⟨⟨r0, r1⟩, g0, g1⟩ := twoQ R.out
  go_upto_region 8 with fail
  have A2 := heap_setCell_same w2 w.heap.size 0 _ _ (.slice (some ⟨g, 0, none⟩) l.length cg) A.out
  replace C := Lib.hid ((Below.heap_setCell w2 ⟨w.heap.size, 0, none⟩ (.slice (some ⟨g, 0, none⟩) l.length cg) (w.heap.size + 1) (by show ¬ w.heap.size + 1 = w.heap.size; omega)).trans C.out)
  replace R := Lib.hid ((Below.heap_setCell w2 ⟨w.heap.size, 0, none⟩ (.slice (some ⟨g, 0, none⟩) l.length cg) (w.heap.size + 1 + 1) (by show ¬ w.heap.size + 1 + 1 = w.heap.size; omega)).trans R.out)
  replace O := Lib.hid (ownQ_other O.out hA 0 (.slice (some ⟨g, 0, none⟩) l.length cg))
  replace HB := Lib.hid (HB.out.setCell (p := ⟨w.heap.size, 0, none⟩) (Nat.le_refl _) (.slice (some ⟨g, 0, none⟩) l.length cg))
  have hz3 : w1.heap.size ≤ (w2.setCell ⟨w.heap.size, 0, none⟩ (.slice (some ⟨g, 0, none⟩) l.length cg)).heap.size := by simpa using hz2
  replace A := Lib.hid (show _ = some (Obj.cells #[.slice (some ⟨g, 0, none⟩) l.length cg, .bool false] 24 (0, 0)) from A2)
  clear A2 q0 q1 f0 f1 c_0 c_1 c_2 c_3 c_4 c_5 d_0 d_1 d_2 d_3 d_4 d_5 r0 r1 g0 g1
  generalize w2.setCell ⟨w.heap.size, 0, none⟩ (.slice (some ⟨g, 0, none⟩) l.length cg) = W2 at A C R O HB hz3 ⊢
  have O3 := Lib.hid (chg_store O.out hlt c st on a b d)
  have B3 := Lib.hid (store6Q HB.out (by omega : w.heap.size ≤ g) (m * 6) (m * 6 + 1) (m * 6 + 2) (m * 6 + 3) (m * 6 + 4) (m * 6 + 5) (.string ⟨c.toArray⟩) (.bool on) (.int .i64 a) (.int .i64 b) (.int .i64 d) (.string ⟨st.toArray⟩))
  have oth : ∀ k, ¬ k = g → ((((((W2.setCell ⟨g, m * 6, none⟩ (.string ⟨c.toArray⟩)).setCell ⟨g, m * 6 + 1, none⟩ (.bool on)).setCell ⟨g, m * 6 + 2, none⟩ (.int .i64 a)).setCell ⟨g, m * 6 + 3, none⟩ (.int .i64 b)).setCell ⟨g, m * 6 + 4, none⟩ (.int .i64 d)).setCell ⟨g, m * 6 + 5, none⟩ (.string ⟨st.toArray⟩)).heap[k]? = W2.heap[k]? := fun k hk => by rw [Below.heap_setCell _ _ _ k hk, Below.heap_setCell _ _ _ k hk, Below.heap_setCell _ _ _ k hk, Below.heap_setCell _ _ _ k hk, Below.heap_setCell _ _ _ k hk, Below.heap_setCell _ _ _ k hk]
  have A3 := Lib.hid ((oth w.heap.size (by omega)).trans A.out)
  have R3 := Lib.hid ((oth (w.heap.size + 1 + 1) (by omega)).trans R.out)
  clear oth
  have y0f := O.out.frozenAt (m * 6)
  have y1f := O.out.frozenAt (m * 6 + 1)
  have y2f := O.out.frozenAt (m * 6 + 2)
  have y3f := O.out.frozenAt (m * 6 + 3)
  have y4f := O.out.frozenAt (m * 6 + 4)
  have y5f := O.out.frozenAt (m * 6 + 5)
  obtain ⟨y0, y1, y2, y3, y4, y5⟩ := cells6_of (O.out.row chgOK hlt)
  obtain ⟨⟨q0, q1⟩, f0, f1⟩ := twoQ A.out
  obtain ⟨⟨c_0, c_1, c_2, c_3, c_4, c_5⟩, ⟨d_0, d_1, d_2, d_3, d_4, d_5⟩⟩ := sixQ C.out
  have hnn : (0 : Int) ≤ (m : Int) := by omega
  have hli : (m : Int) < (l.length : Int) := by omega
  go_upto_region 10 with fail
  clear q0 q1 f0 f1 c_0 c_1 c_2 c_3 c_4 c_5 d_0 d_1 d_2 d_3 d_4 d_5 y0 y1 y2 y3 y4 y5 y0f y1f y2f y3f y4f y5f hnn hli A C R HB O
  generalize ((((((W2.setCell ⟨g, m * 6, none⟩ (.string ⟨c.toArray⟩)).setCell ⟨g, m * 6 + 1, none⟩ (.bool on)).setCell ⟨g, m * 6 + 2, none⟩ (.int .i64 a)).setCell ⟨g, m * 6 + 3, none⟩ (.int .i64 b)).setCell ⟨g, m * 6 + 4, none⟩ (.int .i64 d)).setCell ⟨g, m * 6 + 5, none⟩ (.string ⟨st.toArray⟩)) = W3 at A3 R3 O3 B3 ⊢
  obtain ⟨⟨q0, q1⟩, f0, f1⟩ := twoQ A3.out
  obtain ⟨⟨r0, r1⟩, g0, g1⟩ := twoQ R3.out
  go_wp2_with fail
  obtain ⟨z0, z1⟩ := set2Q (y0 := .slice (some ⟨g, 0, none⟩) l.length cg) (y1 := .bool false) R3.out
  have hle : w.heap.size ≤ w.heap.size + 1 + 1 := by omega
  exact bodyPost_ret (v := .agg #[.slice (some ⟨g, 0, none⟩) l.length cg, .bool false]) (by simp [results, Try.results27, go_sem, z0, z1]) rfl ⟨_, rfl, ownS_low (ownQ_other (ownQ_other O3.out hR _ _) hR _ _) (Nat.le_of_lt hA), (B3.out.setCell hle _).setCell hle _⟩

set_option maxHeartbeats 3200000 in
set_option maxRecDepth 100000 in
theorem qupush_4 {w : World} {v : Value} {l : List Chg} (hv : Chgs w v l) (hl : l.length ≤ 1000) (c st : List UInt8) (on : Bool) (a b d : Int) (room : Int) (hh : quHas l c = false) (hr : (l.length : Int) < room) :
    Calls Try.prog 27 #[.agg #[v, .bool false], .agg #[.string ⟨c.toArray⟩, .bool on, .int .i64 a, .int .i64 b, .int .i64 d, .string ⟨st.toArray⟩], .int .i64 room] w fun e w' => ∃ u, e = .returned (.agg #[u, .bool false]) ∧ OwnQ w' w.heap.size u (l ++ [⟨c, on, ⟨a, b, d, st⟩⟩]) ∧ Below w.heap.size w w' := by
  obtain ⟨ao, cap, rfl, hmx⟩ := hv.open'
  have b0 := bl_newZ w (.cells #[.slice ao l.length cap, .bool false] 24)
  have b1 := bl_newZ (w.alloc (.cells #[.slice ao l.length cap, .bool false] 24)) (.cells #[.string ⟨c.toArray⟩, .bool on, .int .i64 a, .int .i64 b, .int .i64 d, .string ⟨st.toArray⟩] 33)
  have b2 := bl_newZ ((w.alloc (.cells #[.slice ao l.length cap, .bool false] 24)).alloc (.cells #[.string ⟨c.toArray⟩, .bool on, .int .i64 a, .int .i64 b, .int .i64 d, .string ⟨st.toArray⟩] 33)) (.cells #[.slice none 0 0, .bool false] 24)
  have HB := Lib.hid (below2Z (below2Z b0 b1) b2)
  have V := Lib.hid (((hv.later b0).later b1).later b2)
  have A := Lib.hid (upQ (upQ (newQ w (.cells #[.slice ao l.length cap, .bool false] 24)) b1) b2)
  have C := newQ (w.alloc (.cells #[.slice ao l.length cap, .bool false] 24)) (.cells #[.string ⟨c.toArray⟩, .bool on, .int .i64 a, .int .i64 b, .int .i64 d, .string ⟨st.toArray⟩] 33)
  rw [World.size_alloc] at C
  replace C := Lib.hid (upQ C b2)
  have R := newQ ((w.alloc (.cells #[.slice ao l.length cap, .bool false] 24)).alloc (.cells #[.string ⟨c.toArray⟩, .bool on, .int .i64 a, .int .i64 b, .int .i64 d, .string ⟨st.toArray⟩] 33)) (.cells #[.slice none 0 0, .bool false] 24)
  rw [World.size_alloc, World.size_alloc] at R
  replace R := Lib.hid R
  clear b0 b1 b2 hv
  have HH := Lib.hid hh
  have t1 : decide (room ≤ (l.length : Int)) = false := decide_eq_false (by omega)
  have t2 : decide ((l.length : Int) < room) = true := decide_eq_true hr
  clear hh hr
  obtain ⟨⟨q0, q1⟩, f0, f1⟩ := twoQ A.out
  obtain ⟨⟨c_0, c_1, c_2, c_3, c_4, c_5⟩, ⟨d_0, d_1, d_2, d_3, d_4, d_5⟩⟩ := sixQ C.out
  obtain ⟨⟨r0, r1⟩, g0, g1⟩ := twoQ R.out
  go_enter Try.func27, Try.ntmps27
  go_wp2_with fail
  clear q0 q1 f0 f1 c_0 c_1 c_2 c_3 c_4 c_5 d_0 d_1 d_2 d_3 d_4 d_5 r0 r1 g0 g1
  refine (quplace_no V.out c HH.out).mono ?_
  rintro e w1 ⟨rfl, b1⟩
  replace V := Lib.hid (V.out.later b1)
  replace A := Lib.hid (upQ A.out b1)
  replace C := Lib.hid (upQ C.out b1)
  replace R := Lib.hid (upQ R.out b1)
  replace HB := Lib.hid (below2Z HB.out b1)
  clear b1
  obtain ⟨⟨q0, q1⟩, f0, f1⟩ := twoQ A.out
  obtain ⟨⟨c_0, c_1, c_2, c_3, c_4, c_5⟩, ⟨d_0, d_1, d_2, d_3, d_4, d_5⟩⟩ := sixQ C.out
  obtain ⟨⟨r0, r1⟩, g0, g1⟩ := twoQ R.out
  go_wp2_with fail
  clear q0 q1 f0 f1 c_0 c_1 c_2 c_3 c_4 c_5 d_0 d_1 d_2 d_3 d_4 d_5 r0 r1 g0 g1
  have hA := (Array.getElem?_eq_some_iff.1 A.out).1
  have hR := (Array.getElem?_eq_some_iff.1 R.out).1
  refine (chg_clone V.out.rdS (by omega)).mono ?_
  rintro e w2 ⟨u, rfl, ho, b2⟩
  replace A := Lib.hid (upQ A.out b2)
  replace C := Lib.hid (upQ C.out b2)
  replace R := Lib.hid (upQ R.out b2)
  replace HB := Lib.hid (below2Z HB.out b2)
  have hz2 := b2.size
  clear b2
  obtain ⟨ga, cg, rfl⟩ := ownQ_shape ho
  have O := Lib.hid ho
  clear ho
  obtain ⟨⟨q0, q1⟩, f0, f1⟩ := twoQ A.out
  obtain ⟨⟨c_0, c_1, c_2, c_3, c_4, c_5⟩, ⟨d_0, d_1, d_2, d_3, d_4, d_5⟩⟩ := sixQ C.out
  obtain ⟨⟨r0, r1⟩, g0, g1⟩ := twoQ R.out
  go_upto_region 9 with fail
  have A2 := heap_setCell_same w2 w.heap.size 0 _ _ (.slice ga l.length cg) A.out
  replace C := Lib.hid ((Below.heap_setCell w2 ⟨w.heap.size, 0, none⟩ (.slice ga l.length cg) (w.heap.size + 1) (by show ¬ w.heap.size + 1 = w.heap.size; omega)).trans C.out)
  replace R := Lib.hid ((Below.heap_setCell w2 ⟨w.heap.size, 0, none⟩ (.slice ga l.length cg) (w.heap.size + 1 + 1) (by show ¬ w.heap.size + 1 + 1 = w.heap.size; omega)).trans R.out)
  replace O := Lib.hid (ownQ_other O.out hA 0 (.slice ga l.length cg))
  replace HB := Lib.hid (HB.out.setCell (p := ⟨w.heap.size, 0, none⟩) (Nat.le_refl _) (.slice ga l.length cg))
  have hz3 : w1.heap.size ≤ (w2.setCell ⟨w.heap.size, 0, none⟩ (.slice ga l.length cg)).heap.size := by simpa using hz2
  replace A := Lib.hid (show _ = some (Obj.cells #[.slice ga l.length cg, .bool false] 24 (0, 0)) from A2)
  clear A2 q0 q1 f0 f1 c_0 c_1 c_2 c_3 c_4 c_5 d_0 d_1 d_2 d_3 d_4 d_5 r0 r1 g0 g1
  generalize w2.setCell ⟨w.heap.size, 0, none⟩ (.slice ga l.length cg) = W2 at A C R O HB hz3 ⊢
  have O2 := Lib.hid (OwnS.alloc O.out (.cells #[.string ⟨c.toArray⟩, .bool on, .int .i64 a, .int .i64 b, .int .i64 d, .string ⟨st.toArray⟩] 33))
  have HB2 := Lib.hid (below2Z HB.out (bl_newZ W2 (.cells #[.string ⟨c.toArray⟩, .bool on, .int .i64 a, .int .i64 b, .int .i64 d, .string ⟨st.toArray⟩] 33)))
  have C4 := Lib.hid (srcS_new (vals := chgVals) (w := W2) (r := ⟨c, on, ⟨a, b, d, st⟩⟩) (cs := #[.string ⟨c.toArray⟩, .bool on, .int .i64 a, .int .i64 b, .int .i64 d, .string ⟨st.toArray⟩]) (e := 33) rfl (B := W2.heap.size) rfl)
  have hz2 := HB2.out.size
  have A4 := Lib.hid (upQ A.out (bl_newZ W2 (.cells #[.string ⟨c.toArray⟩, .bool on, .int .i64 a, .int .i64 b, .int .i64 d, .string ⟨st.toArray⟩] 33)))
  have R4 := Lib.hid (upQ R.out (bl_newZ W2 (.cells #[.string ⟨c.toArray⟩, .bool on, .int .i64 a, .int .i64 b, .int .i64 d, .string ⟨st.toArray⟩] 33)))
  obtain ⟨⟨q0, q1⟩, f0, f1⟩ := twoQ A.out
  obtain ⟨⟨c_0, c_1, c_2, c_3, c_4, c_5⟩, ⟨d_0, d_1, d_2, d_3, d_4, d_5⟩⟩ := sixQ C.out
  go_wp2_with (at_builtin; refine wpList_append_S chgOK rfl _ _ rfl w1.heap.size _ l rfl O2.out (some ⟨W2.heap.size, 0, none⟩) 1 1 [⟨c, on, ⟨a, b, d, st⟩⟩] rfl rfl (fun e => by cases e) C4.out (by simp only [List.length_cons, List.length_nil]; omega) (by rw [World.size_alloc]; omega) ?_)
  intro v' w3 ho' hb'
  have A5 := Lib.hid ((hb'.block _ hA).trans A4.out)
  have R5 := Lib.hid ((hb'.block _ hR).trans R4.out)
  have HB5 := Lib.hid (HB2.out.trans (hb'.mono (Nat.le_of_lt hA)))
  obtain ⟨gv, cv, rfl⟩ : ∃ a c, v' = .slice a (l.length + 1) c := by obtain ⟨a', c', e⟩ := ownQ_shape ho'; exact ⟨a', c', by rw [e, List.length_append]; rfl⟩
  have O5 := Lib.hid ho'
  clear ho' hb' O2 HB2 C4 A4 R4 A C R O HB q0 q1 f0 f1 c_0 c_1 c_2 c_3 c_4 c_5 d_0 d_1 d_2 d_3 d_4 d_5
  obtain ⟨⟨q0, q1⟩, f0, f1⟩ := twoQ A5.out
  go_upto_region 10 with fail
  have A6 := Lib.hid (show _ = some (Obj.cells #[.slice gv (l.length + 1) cv, .bool false] 24 (0, 0)) from heap_setCell_same w3 w.heap.size 0 _ _ (.slice gv (l.length + 1) cv) A5.out)
  have R6 := Lib.hid ((Below.heap_setCell w3 ⟨w.heap.size, 0, none⟩ (.slice gv (l.length + 1) cv) (w.heap.size + 1 + 1) (by show ¬ w.heap.size + 1 + 1 = w.heap.size; omega)).trans R5.out)
  have O6 := Lib.hid (ownQ_other O5.out hA 0 (.slice gv (l.length + 1) cv))
  have HB6 := Lib.hid (HB5.out.setCell (p := ⟨w.heap.size, 0, none⟩) (Nat.le_refl _) (.slice gv (l.length + 1) cv))
  clear A5 R5 O5 HB5 q0 q1 f0 f1
  generalize (w3.setCell ⟨w.heap.size, 0, none⟩ (.slice gv (l.length + 1) cv)) = W6 at A6 R6 O6 HB6 ⊢
  obtain ⟨⟨q0, q1⟩, f0, f1⟩ := twoQ A6.out
  obtain ⟨⟨r0, r1⟩, g0, g1⟩ := twoQ R6.out
  go_wp2_with fail
  obtain ⟨z0, z1⟩ := set2Q (y0 := .slice gv (l.length + 1) cv) (y1 := .bool false) R6.out
  have hle : w.heap.size ≤ w.heap.size + 1 + 1 := by omega
  exact bodyPost_ret (v := .agg #[.slice gv (l.length + 1) cv, .bool false]) (by simp [results, Try.results27, go_sem, z0, z1]) rfl ⟨_, rfl, ownS_low (ownQ_other (ownQ_other O6.out hR _ _) hR _ _) (Nat.le_of_lt hA), (HB6.out.setCell hle _).setCell hle _⟩

set_option maxHeartbeats 3200000 in
set_option maxRecDepth 100000 in
theorem rqupush_1 {w : World} {v : Value} {l : List Chg} (hv : Chgs w v l) (c st : List UInt8) (on : Bool) (a b d : Int) (room : Int) :
    Calls Try.prog 28 #[.agg #[v, .bool true], .agg #[.string ⟨c.toArray⟩, .bool on, .int .i64 a, .int .i64 b, .int .i64 d, .string ⟨st.toArray⟩], .int .i64 room] w fun e w' => e = .returned (.agg #[v, .bool true]) ∧ Below w.heap.size w w' := by
  obtain ⟨ao, cap, rfl, hmx⟩ := hv.open'
  have b0 := bl_newZ w (.cells #[.slice ao l.length cap, .bool true] 24)
  have b1 := bl_newZ (w.alloc (.cells #[.slice ao l.length cap, .bool true] 24)) (.cells #[.string ⟨c.toArray⟩, .bool on, .int .i64 a, .int .i64 b, .int .i64 d, .string ⟨st.toArray⟩] 33)
  have b2 := bl_newZ ((w.alloc (.cells #[.slice ao l.length cap, .bool true] 24)).alloc (.cells #[.string ⟨c.toArray⟩, .bool on, .int .i64 a, .int .i64 b, .int .i64 d, .string ⟨st.toArray⟩] 33)) (.cells #[.slice none 0 0, .bool false] 24)
  have HB := Lib.hid (below2Z (below2Z b0 b1) b2)
  have V := Lib.hid (((hv.later b0).later b1).later b2)
  have A := Lib.hid (upQ (upQ (newQ w (.cells #[.slice ao l.length cap, .bool true] 24)) b1) b2)
  have C := newQ (w.alloc (.cells #[.slice ao l.length cap, .bool true] 24)) (.cells #[.string ⟨c.toArray⟩, .bool on, .int .i64 a, .int .i64 b, .int .i64 d, .string ⟨st.toArray⟩] 33)
  rw [World.size_alloc] at C
  replace C := Lib.hid (upQ C b2)
  have R := newQ ((w.alloc (.cells #[.slice ao l.length cap, .bool true] 24)).alloc (.cells #[.string ⟨c.toArray⟩, .bool on, .int .i64 a, .int .i64 b, .int .i64 d, .string ⟨st.toArray⟩] 33)) (.cells #[.slice none 0 0, .bool false] 24)
  rw [World.size_alloc, World.size_alloc] at R
  replace R := Lib.hid R
  clear b0 b1 b2 hv
  obtain ⟨⟨q0, q1⟩, f0, f1⟩ := twoQ A.out
  obtain ⟨⟨c_0, c_1, c_2, c_3, c_4, c_5⟩, ⟨d_0, d_1, d_2, d_3, d_4, d_5⟩⟩ := sixQ C.out
  obtain ⟨⟨r0, r1⟩, g0, g1⟩ := twoQ R.out
  go_enter Try.func28, Try.ntmps28
  go_wp2_with fail
  refine bodyPost_ret (v := .agg #[.slice ao l.length cap, .bool true]) (by simp [results, Try.results28, go_sem]) rfl ⟨rfl, ?_⟩
  exact (((Below.refl _ _).alloc (Nat.le_refl _) _).alloc (by simp) _).alloc (by simp; omega) _

set_option maxHeartbeats 3200000 in
set_option maxRecDepth 100000 in
theorem rqupush_2 {w : World} {v : Value} {l : List Chg} (hv : Chgs w v l) (hl : l.length ≤ 1000) (c st : List UInt8) (on : Bool) (a b d : Int) (room : Int) (hh : quHas l c = false) (hr : room ≤ (l.length : Int)) :
    Calls Try.prog 28 #[.agg #[v, .bool false], .agg #[.string ⟨c.toArray⟩, .bool on, .int .i64 a, .int .i64 b, .int .i64 d, .string ⟨st.toArray⟩], .int .i64 room] w fun e w' => e = .returned (.agg #[.slice none 0 0, .bool true]) ∧ Below w.heap.size w w' := by
  obtain ⟨ao, cap, rfl, hmx⟩ := hv.open'
  have b0 := bl_newZ w (.cells #[.slice ao l.length cap, .bool false] 24)
  have b1 := bl_newZ (w.alloc (.cells #[.slice ao l.length cap, .bool false] 24)) (.cells #[.string ⟨c.toArray⟩, .bool on, .int .i64 a, .int .i64 b, .int .i64 d, .string ⟨st.toArray⟩] 33)
  have b2 := bl_newZ ((w.alloc (.cells #[.slice ao l.length cap, .bool false] 24)).alloc (.cells #[.string ⟨c.toArray⟩, .bool on, .int .i64 a, .int .i64 b, .int .i64 d, .string ⟨st.toArray⟩] 33)) (.cells #[.slice none 0 0, .bool false] 24)
  have HB := Lib.hid (below2Z (below2Z b0 b1) b2)
  have V := Lib.hid (((hv.later b0).later b1).later b2)
  have A := Lib.hid (upQ (upQ (newQ w (.cells #[.slice ao l.length cap, .bool false] 24)) b1) b2)
  have C := newQ (w.alloc (.cells #[.slice ao l.length cap, .bool false] 24)) (.cells #[.string ⟨c.toArray⟩, .bool on, .int .i64 a, .int .i64 b, .int .i64 d, .string ⟨st.toArray⟩] 33)
  rw [World.size_alloc] at C
  replace C := Lib.hid (upQ C b2)
  have R := newQ ((w.alloc (.cells #[.slice ao l.length cap, .bool false] 24)).alloc (.cells #[.string ⟨c.toArray⟩, .bool on, .int .i64 a, .int .i64 b, .int .i64 d, .string ⟨st.toArray⟩] 33)) (.cells #[.slice none 0 0, .bool false] 24)
  rw [World.size_alloc, World.size_alloc] at R
  replace R := Lib.hid R
  clear b0 b1 b2 hv
  have HH := Lib.hid hh
  have t1 : decide (room ≤ (l.length : Int)) = true := decide_eq_true hr
  have t2 : decide ((l.length : Int) < room) = false := decide_eq_false (by omega)
  clear hh hr
  obtain ⟨⟨q0, q1⟩, f0, f1⟩ := twoQ A.out
  obtain ⟨⟨c_0, c_1, c_2, c_3, c_4, c_5⟩, ⟨d_0, d_1, d_2, d_3, d_4, d_5⟩⟩ := sixQ C.out
  obtain ⟨⟨r0, r1⟩, g0, g1⟩ := twoQ R.out
  go_enter Try.func28, Try.ntmps28
  go_upto_region 3 with fail
  clear q0 q1 f0 f1 c_0 c_1 c_2 c_3 c_4 c_5 d_0 d_1 d_2 d_3 d_4 d_5 r0 r1 g0 g1
  generalize ((w.alloc (.cells #[.slice ao l.length cap, .bool false] 24)).alloc (.cells #[.string ⟨c.toArray⟩, .bool on, .int .i64 a, .int .i64 b, .int .i64 d, .string ⟨st.toArray⟩] 33)).alloc (.cells #[.slice none 0 0, .bool false] 24) = W0 at V A C R HB ⊢
  have hR := (Array.getElem?_eq_some_iff.1 R.out).1
  have hA : w.heap.size < W0.heap.size := by omega
  have hC : w.heap.size + 1 < W0.heap.size := by omega
  have HB0 := Lib.hid (below2Z HB.out (bl_newZ W0 (.cells #[] 33)))
  have A0 := Lib.hid (upQ A.out (bl_newZ W0 (.cells #[] 33)))
  have C0 := Lib.hid (upQ C.out (bl_newZ W0 (.cells #[] 33)))
  have R0 := Lib.hid (upQ R.out (bl_newZ W0 (.cells #[] 33)))
  have SR := Lib.hid (chgs_src (V.out.later (bl_newZ W0 (.cells #[] 33))))
  obtain ⟨⟨q0, q1⟩, f0, f1⟩ := twoQ A.out
  go_wp2_with (at_builtin; go_must (refine wpList_append_S chgOK rfl _ _ rfl W0.heap.size _ [] rfl (by exact ownS_made W0) ao l.length cap l rfl rfl SR.out.1 SR.out.2 (by simp only [List.length_nil]; omega) (by rw [World.size_alloc]; omega) ?_))
  intro v' w1 ho hb
  try rw [List.nil_append] at ho
  replace A := Lib.hid ((hb.block _ hA).trans A0.out)
  replace C := Lib.hid ((hb.block _ hC).trans C0.out)
  replace R := Lib.hid ((hb.block _ hR).trans R0.out)
  replace V := Lib.hid (V.out.later ((bl_newZ W0 (.cells #[] 33)).trans hb))
  replace HB := Lib.hid (HB0.out.trans (hb.mono (Nat.le_of_lt hA)))
  have O := Lib.hid ho
  have hz1 := hb.size
  rw [World.size_alloc] at hz1
  obtain ⟨ga, cg, rfl⟩ := ownQ_shape ho
  clear ho hb HB0 A0 C0 R0 SR q0 q1 f0 f1
  obtain ⟨⟨q0, q1⟩, f0, f1⟩ := twoQ A.out
  obtain ⟨⟨c_0, c_1, c_2, c_3, c_4, c_5⟩, ⟨d_0, d_1, d_2, d_3, d_4, d_5⟩⟩ := sixQ C.out
  go_wp2_with fail
  clear q0 q1 f0 f1 c_0 c_1 c_2 c_3 c_4 c_5 d_0 d_1 d_2 d_3 d_4 d_5
  refine (rquplace_no V.out false c HH.out).mono ?_
  rintro e w2 ⟨rfl, b2⟩
  replace V := Lib.hid (V.out.later b2)
  replace A := Lib.hid (upQ A.out b2)
  replace C := Lib.hid (upQ C.out b2)
  replace R := Lib.hid (upQ R.out b2)
  replace HB := Lib.hid (below2Z HB.out b2)
  replace O := Lib.hid (OwnS.later O.out b2)
  have hz2 := b2.size
  clear b2
  obtain ⟨⟨r0, r1⟩, g0, g1⟩ := twoQ R.out
  go_wp2_with fail
  obtain ⟨z0, z1⟩ := set2Q (y0 := .slice none 0 0) (y1 := .bool true) R.out
  refine bodyPost_ret (v := .agg #[.slice none 0 0, .bool true]) (by simp [results, Try.results28, go_sem, z0, z1]) rfl ⟨rfl, ?_⟩
  have hle : w.heap.size ≤ w.heap.size + 1 + 1 := by omega
  exact (HB.out.setCell hle _).setCell hle _

set_option maxHeartbeats 3200000 in
set_option maxRecDepth 100000 in
theorem rqupush_3 {w : World} {v : Value} {l : List Chg} (hv : Chgs w v l) (hl : l.length ≤ 1000) (c st : List UInt8) (on : Bool) (a b d : Int) (room : Int) (hh : quHas l c = true) :
    Calls Try.prog 28 #[.agg #[v, .bool false], .agg #[.string ⟨c.toArray⟩, .bool on, .int .i64 a, .int .i64 b, .int .i64 d, .string ⟨st.toArray⟩], .int .i64 room] w fun e w' => ∃ u, e = .returned (.agg #[u, .bool false]) ∧ OwnQ w' w.heap.size u (l.set (quAt l c) ⟨c, on, ⟨a, b, d, st⟩⟩) ∧ Below w.heap.size w w' := by
  obtain ⟨ao, cap, rfl, hmx⟩ := hv.open'
  have b0 := bl_newZ w (.cells #[.slice ao l.length cap, .bool false] 24)
  have b1 := bl_newZ (w.alloc (.cells #[.slice ao l.length cap, .bool false] 24)) (.cells #[.string ⟨c.toArray⟩, .bool on, .int .i64 a, .int .i64 b, .int .i64 d, .string ⟨st.toArray⟩] 33)
  have b2 := bl_newZ ((w.alloc (.cells #[.slice ao l.length cap, .bool false] 24)).alloc (.cells #[.string ⟨c.toArray⟩, .bool on, .int .i64 a, .int .i64 b, .int .i64 d, .string ⟨st.toArray⟩] 33)) (.cells #[.slice none 0 0, .bool false] 24)
  have HB := Lib.hid (below2Z (below2Z b0 b1) b2)
  have V := Lib.hid (((hv.later b0).later b1).later b2)
  have A := Lib.hid (upQ (upQ (newQ w (.cells #[.slice ao l.length cap, .bool false] 24)) b1) b2)
  have C := newQ (w.alloc (.cells #[.slice ao l.length cap, .bool false] 24)) (.cells #[.string ⟨c.toArray⟩, .bool on, .int .i64 a, .int .i64 b, .int .i64 d, .string ⟨st.toArray⟩] 33)
  rw [World.size_alloc] at C
  replace C := Lib.hid (upQ C b2)
  have R := newQ ((w.alloc (.cells #[.slice ao l.length cap, .bool false] 24)).alloc (.cells #[.string ⟨c.toArray⟩, .bool on, .int .i64 a, .int .i64 b, .int .i64 d, .string ⟨st.toArray⟩] 33)) (.cells #[.slice none 0 0, .bool false] 24)
  rw [World.size_alloc, World.size_alloc] at R
  replace R := Lib.hid R
  clear b0 b1 b2 hv
  have HH := Lib.hid hh
  obtain ⟨hlt, _⟩ := quAt_is hh
  obtain ⟨m, hm⟩ : ∃ m, quAt l c = m := ⟨_, rfl⟩
  rw [hm] at hlt ⊢
  have HM := Lib.hid hm
  clear hh hm
  obtain ⟨⟨q0, q1⟩, f0, f1⟩ := twoQ A.out
  obtain ⟨⟨c_0, c_1, c_2, c_3, c_4, c_5⟩, ⟨d_0, d_1, d_2, d_3, d_4, d_5⟩⟩ := sixQ C.out
  obtain ⟨⟨r0, r1⟩, g0, g1⟩ := twoQ R.out
  go_enter Try.func28, Try.ntmps28
  go_upto_region 3 with fail
  clear q0 q1 f0 f1 c_0 c_1 c_2 c_3 c_4 c_5 d_0 d_1 d_2 d_3 d_4 d_5 r0 r1 g0 g1
  generalize ((w.alloc (.cells #[.slice ao l.length cap, .bool false] 24)).alloc (.cells #[.string ⟨c.toArray⟩, .bool on, .int .i64 a, .int .i64 b, .int .i64 d, .string ⟨st.toArray⟩] 33)).alloc (.cells #[.slice none 0 0, .bool false] 24) = W0 at V A C R HB ⊢
  have hR := (Array.getElem?_eq_some_iff.1 R.out).1
  have hA : w.heap.size < W0.heap.size := by omega
  have hC : w.heap.size + 1 < W0.heap.size := by omega
  have HB0 := Lib.hid (below2Z HB.out (bl_newZ W0 (.cells #[] 33)))
  have A0 := Lib.hid (upQ A.out (bl_newZ W0 (.cells #[] 33)))
  have C0 := Lib.hid (upQ C.out (bl_newZ W0 (.cells #[] 33)))
  have R0 := Lib.hid (upQ R.out (bl_newZ W0 (.cells #[] 33)))
  have SR := Lib.hid (chgs_src (V.out.later (bl_newZ W0 (.cells #[] 33))))
  obtain ⟨⟨q0, q1⟩, f0, f1⟩ := twoQ A.out
  go_wp2_with (at_builtin; go_must (refine wpList_append_S chgOK rfl _ _ rfl W0.heap.size _ [] rfl (by exact ownS_made W0) ao l.length cap l rfl rfl SR.out.1 SR.out.2 (by simp only [List.length_nil]; omega) (by rw [World.size_alloc]; omega) ?_))
  intro v' w1 ho hb
  try rw [List.nil_append] at ho
  replace A := Lib.hid ((hb.block _ hA).trans A0.out)
  replace C := Lib.hid ((hb.block _ hC).trans C0.out)
  replace R := Lib.hid ((hb.block _ hR).trans R0.out)
  replace V := Lib.hid (V.out.later ((bl_newZ W0 (.cells #[] 33)).trans hb))
  replace HB := Lib.hid (HB0.out.trans (hb.mono (Nat.le_of_lt hA)))
  have O := Lib.hid ho
  have hz1 := hb.size
  rw [World.size_alloc] at hz1
  obtain ⟨g, cg, rfl, hg⟩ := own_head ho (by omega)
  clear ho hb HB0 A0 C0 R0 SR q0 q1 f0 f1
  obtain ⟨⟨q0, q1⟩, f0, f1⟩ := twoQ A.out
  obtain ⟨⟨c_0, c_1, c_2, c_3, c_4, c_5⟩, ⟨d_0, d_1, d_2, d_3, d_4, d_5⟩⟩ := sixQ C.out
  go_wp2_with fail
  clear q0 q1 f0 f1 c_0 c_1 c_2 c_3 c_4 c_5 d_0 d_1 d_2 d_3 d_4 d_5
  refine (rquplace_yes V.out false c HH.out).mono ?_
  rintro e w2 ⟨rfl, b2⟩
  replace V := Lib.hid (V.out.later b2)
  replace A := Lib.hid (upQ A.out b2)
  replace C := Lib.hid (upQ C.out b2)
  replace R := Lib.hid (upQ R.out b2)
  replace HB := Lib.hid (below2Z HB.out b2)
  replace O := Lib.hid (OwnS.later O.out b2)
  have hz2 := b2.size
  clear b2
  try rw [HM.out]
  have O3 := Lib.hid (chg_store O.out hlt c st on a b d)
  have B3 := Lib.hid (store6Q HB.out (by omega : w.heap.size ≤ g) (m * 6) (m * 6 + 1) (m * 6 + 2) (m * 6 + 3) (m * 6 + 4) (m * 6 + 5) (.string ⟨c.toArray⟩) (.bool on) (.int .i64 a) (.int .i64 b) (.int .i64 d) (.string ⟨st.toArray⟩))
  have R3 : Hid (((((((w2.setCell ⟨g, m * 6, none⟩ (.string ⟨c.toArray⟩)).setCell ⟨g, m * 6 + 1, none⟩ (.bool on)).setCell ⟨g, m * 6 + 2, none⟩ (.int .i64 a)).setCell ⟨g, m * 6 + 3, none⟩ (.int .i64 b)).setCell ⟨g, m * 6 + 4, none⟩ (.int .i64 d)).setCell ⟨g, m * 6 + 5, none⟩ (.string ⟨st.toArray⟩)).heap[w.heap.size + 1 + 1]? = _) := Lib.hid (Eq.trans (by rw [Below.heap_setCell _ _ _ _ (show ¬ w.heap.size + 1 + 1 = g by omega), Below.heap_setCell _ _ _ _ (show ¬ w.heap.size + 1 + 1 = g by omega), Below.heap_setCell _ _ _ _ (show ¬ w.heap.size + 1 + 1 = g by omega), Below.heap_setCell _ _ _ _ (show ¬ w.heap.size + 1 + 1 = g by omega), Below.heap_setCell _ _ _ _ (show ¬ w.heap.size + 1 + 1 = g by omega), Below.heap_setCell _ _ _ _ (show ¬ w.heap.size + 1 + 1 = g by omega)]) R.out)
  have y0f := O.out.frozenAt (m * 6)
  have y1f := O.out.frozenAt (m * 6 + 1)
  have y2f := O.out.frozenAt (m * 6 + 2)
  have y3f := O.out.frozenAt (m * 6 + 3)
  have y4f := O.out.frozenAt (m * 6 + 4)
  have y5f := O.out.frozenAt (m * 6 + 5)
  obtain ⟨y0, y1, y2, y3, y4, y5⟩ := cells6_of (O.out.row chgOK hlt)
  obtain ⟨⟨c_0, c_1, c_2, c_3, c_4, c_5⟩, ⟨d_0, d_1, d_2, d_3, d_4, d_5⟩⟩ := sixQ C.out
  have hnn : (0 : Int) ≤ (m : Int) := by omega
  have hli : (m : Int) < (l.length : Int) := by omega
  go_upto_region 7 with fail
  clear c_0 c_1 c_2 c_3 c_4 c_5 d_0 d_1 d_2 d_3 d_4 d_5 y0 y1 y2 y3 y4 y5 y0f y1f y2f y3f y4f y5f hnn hli A C R HB O
  generalize ((((((w2.setCell ⟨g, m * 6, none⟩ (.string ⟨c.toArray⟩)).setCell ⟨g, m * 6 + 1, none⟩ (.bool on)).setCell ⟨g, m * 6 + 2, none⟩ (.int .i64 a)).setCell ⟨g, m * 6 + 3, none⟩ (.int .i64 b)).setCell ⟨g, m * 6 + 4, none⟩ (.int .i64 d)).setCell ⟨g, m * 6 + 5, none⟩ (.string ⟨st.toArray⟩)) = W3 at R3 O3 B3 ⊢
  obtain ⟨⟨r0, r1⟩, g0, g1⟩ := twoQ R3.out
  go_wp2_with fail
  obtain ⟨z0, z1⟩ := set2Q (y0 := .slice (some ⟨g, 0, none⟩) l.length cg) (y1 := .bool false) R3.out
  have hle : w.heap.size ≤ w.heap.size + 1 + 1 := by omega
  exact bodyPost_ret (v := .agg #[.slice (some ⟨g, 0, none⟩) l.length cg, .bool false]) (by simp [results, Try.results28, go_sem, z0, z1]) rfl ⟨_, rfl, ownS_low (ownQ_other (ownQ_other O3.out hR _ _) hR _ _) (Nat.le_of_lt hA), (B3.out.setCell hle _).setCell hle _⟩

set_option maxHeartbeats 3200000 in
set_option maxRecDepth 100000 in
theorem rqupush_4 {w : World} {v : Value} {l : List Chg} (hv : Chgs w v l) (hl : l.length ≤ 1000) (c st : List UInt8) (on : Bool) (a b d : Int) (room : Int) (hh : quHas l c = false) (hr : (l.length : Int) < room) :
    Calls Try.prog 28 #[.agg #[v, .bool false], .agg #[.string ⟨c.toArray⟩, .bool on, .int .i64 a, .int .i64 b, .int .i64 d, .string ⟨st.toArray⟩], .int .i64 room] w fun e w' => ∃ u, e = .returned (.agg #[u, .bool false]) ∧ OwnQ w' w.heap.size u (l ++ [⟨c, on, ⟨a, b, d, st⟩⟩]) ∧ Below w.heap.size w w' := by
  obtain ⟨ao, cap, rfl, hmx⟩ := hv.open'
  have b0 := bl_newZ w (.cells #[.slice ao l.length cap, .bool false] 24)
  have b1 := bl_newZ (w.alloc (.cells #[.slice ao l.length cap, .bool false] 24)) (.cells #[.string ⟨c.toArray⟩, .bool on, .int .i64 a, .int .i64 b, .int .i64 d, .string ⟨st.toArray⟩] 33)
  have b2 := bl_newZ ((w.alloc (.cells #[.slice ao l.length cap, .bool false] 24)).alloc (.cells #[.string ⟨c.toArray⟩, .bool on, .int .i64 a, .int .i64 b, .int .i64 d, .string ⟨st.toArray⟩] 33)) (.cells #[.slice none 0 0, .bool false] 24)
  have HB := Lib.hid (below2Z (below2Z b0 b1) b2)
  have V := Lib.hid (((hv.later b0).later b1).later b2)
  have A := Lib.hid (upQ (upQ (newQ w (.cells #[.slice ao l.length cap, .bool false] 24)) b1) b2)
  have C := newQ (w.alloc (.cells #[.slice ao l.length cap, .bool false] 24)) (.cells #[.string ⟨c.toArray⟩, .bool on, .int .i64 a, .int .i64 b, .int .i64 d, .string ⟨st.toArray⟩] 33)
  rw [World.size_alloc] at C
  replace C := Lib.hid (upQ C b2)
  have R := newQ ((w.alloc (.cells #[.slice ao l.length cap, .bool false] 24)).alloc (.cells #[.string ⟨c.toArray⟩, .bool on, .int .i64 a, .int .i64 b, .int .i64 d, .string ⟨st.toArray⟩] 33)) (.cells #[.slice none 0 0, .bool false] 24)
  rw [World.size_alloc, World.size_alloc] at R
  replace R := Lib.hid R
  clear b0 b1 b2 hv
  have HH := Lib.hid hh
  have t1 : decide (room ≤ (l.length : Int)) = false := decide_eq_false (by omega)
  have t2 : decide ((l.length : Int) < room) = true := decide_eq_true hr
  clear hh hr
  obtain ⟨⟨q0, q1⟩, f0, f1⟩ := twoQ A.out
  obtain ⟨⟨c_0, c_1, c_2, c_3, c_4, c_5⟩, ⟨d_0, d_1, d_2, d_3, d_4, d_5⟩⟩ := sixQ C.out
  obtain ⟨⟨r0, r1⟩, g0, g1⟩ := twoQ R.out
  go_enter Try.func28, Try.ntmps28
  go_upto_region 3 with fail
  clear q0 q1 f0 f1 c_0 c_1 c_2 c_3 c_4 c_5 d_0 d_1 d_2 d_3 d_4 d_5 r0 r1 g0 g1
  generalize ((w.alloc (.cells #[.slice ao l.length cap, .bool false] 24)).alloc (.cells #[.string ⟨c.toArray⟩, .bool on, .int .i64 a, .int .i64 b, .int .i64 d, .string ⟨st.toArray⟩] 33)).alloc (.cells #[.slice none 0 0, .bool false] 24) = W0 at V A C R HB ⊢
  have hR := (Array.getElem?_eq_some_iff.1 R.out).1
  have hA : w.heap.size < W0.heap.size := by omega
  have hC : w.heap.size + 1 < W0.heap.size := by omega
  have HB0 := Lib.hid (below2Z HB.out (bl_newZ W0 (.cells #[] 33)))
  have A0 := Lib.hid (upQ A.out (bl_newZ W0 (.cells #[] 33)))
  have C0 := Lib.hid (upQ C.out (bl_newZ W0 (.cells #[] 33)))
  have R0 := Lib.hid (upQ R.out (bl_newZ W0 (.cells #[] 33)))
  have SR := Lib.hid (chgs_src (V.out.later (bl_newZ W0 (.cells #[] 33))))
  obtain ⟨⟨q0, q1⟩, f0, f1⟩ := twoQ A.out
  go_wp2_with (at_builtin; go_must (refine wpList_append_S chgOK rfl _ _ rfl W0.heap.size _ [] rfl (by exact ownS_made W0) ao l.length cap l rfl rfl SR.out.1 SR.out.2 (by simp only [List.length_nil]; omega) (by rw [World.size_alloc]; omega) ?_))
  intro v' w1 ho hb
  try rw [List.nil_append] at ho
  replace A := Lib.hid ((hb.block _ hA).trans A0.out)
  replace C := Lib.hid ((hb.block _ hC).trans C0.out)
  replace R := Lib.hid ((hb.block _ hR).trans R0.out)
  replace V := Lib.hid (V.out.later ((bl_newZ W0 (.cells #[] 33)).trans hb))
  replace HB := Lib.hid (HB0.out.trans (hb.mono (Nat.le_of_lt hA)))
  have O := Lib.hid ho
  have hz1 := hb.size
  rw [World.size_alloc] at hz1
  obtain ⟨ga, cg, rfl⟩ := ownQ_shape ho
  clear ho hb HB0 A0 C0 R0 SR q0 q1 f0 f1
  obtain ⟨⟨q0, q1⟩, f0, f1⟩ := twoQ A.out
  obtain ⟨⟨c_0, c_1, c_2, c_3, c_4, c_5⟩, ⟨d_0, d_1, d_2, d_3, d_4, d_5⟩⟩ := sixQ C.out
  go_wp2_with fail
  clear q0 q1 f0 f1 c_0 c_1 c_2 c_3 c_4 c_5 d_0 d_1 d_2 d_3 d_4 d_5
  refine (rquplace_no V.out false c HH.out).mono ?_
  rintro e w2 ⟨rfl, b2⟩
  replace V := Lib.hid (V.out.later b2)
  replace A := Lib.hid (upQ A.out b2)
  replace C := Lib.hid (upQ C.out b2)
  replace R := Lib.hid (upQ R.out b2)
  replace HB := Lib.hid (below2Z HB.out b2)
  replace O := Lib.hid (OwnS.later O.out b2)
  have hz2 := b2.size
  clear b2
  have O2 := Lib.hid (OwnS.alloc O.out (.cells #[.string ⟨c.toArray⟩, .bool on, .int .i64 a, .int .i64 b, .int .i64 d, .string ⟨st.toArray⟩] 33))
  have HB2 := Lib.hid (below2Z HB.out (bl_newZ w2 (.cells #[.string ⟨c.toArray⟩, .bool on, .int .i64 a, .int .i64 b, .int .i64 d, .string ⟨st.toArray⟩] 33)))
  have C4 := Lib.hid (srcS_new (vals := chgVals) (w := w2) (r := ⟨c, on, ⟨a, b, d, st⟩⟩) (cs := #[.string ⟨c.toArray⟩, .bool on, .int .i64 a, .int .i64 b, .int .i64 d, .string ⟨st.toArray⟩]) (e := 33) rfl (B := w2.heap.size) rfl)
  have R4 := Lib.hid (upQ R.out (bl_newZ w2 (.cells #[.string ⟨c.toArray⟩, .bool on, .int .i64 a, .int .i64 b, .int .i64 d, .string ⟨st.toArray⟩] 33)))
  obtain ⟨⟨c_0, c_1, c_2, c_3, c_4, c_5⟩, ⟨d_0, d_1, d_2, d_3, d_4, d_5⟩⟩ := sixQ C.out
  go_wp2_with (at_builtin; refine wpList_append_S chgOK rfl _ _ rfl W0.heap.size _ l rfl O2.out (some ⟨w2.heap.size, 0, none⟩) 1 1 [⟨c, on, ⟨a, b, d, st⟩⟩] rfl rfl (fun e => by cases e) C4.out (by simp only [List.length_cons, List.length_nil]; omega) (by rw [World.size_alloc]; omega) ?_)
  intro v' w3 ho' hb'
  have R5 := Lib.hid ((hb'.block _ hR).trans R4.out)
  have HB5 := Lib.hid (HB2.out.trans (hb'.mono (Nat.le_of_lt hA)))
  obtain ⟨gv, cv, rfl⟩ : ∃ a c, v' = .slice a (l.length + 1) c := by obtain ⟨a', c', e⟩ := ownQ_shape ho'; exact ⟨a', c', by rw [e, List.length_append]; rfl⟩
  have O5 := Lib.hid ho'
  clear ho' hb' O2 HB2 C4 R4 A C R O HB c_0 c_1 c_2 c_3 c_4 c_5 d_0 d_1 d_2 d_3 d_4 d_5
  obtain ⟨⟨r0, r1⟩, g0, g1⟩ := twoQ R5.out
  go_wp2_with fail
  obtain ⟨z0, z1⟩ := set2Q (y0 := .slice gv (l.length + 1) cv) (y1 := .bool false) R5.out
  have hle : w.heap.size ≤ w.heap.size + 1 + 1 := by omega
  exact bodyPost_ret (v := .agg #[.slice gv (l.length + 1) cv, .bool false]) (by simp [results, Try.results28, go_sem, z0, z1]) rfl ⟨_, rfl, ownS_low (ownQ_other (ownQ_other O5.out hR _ _) hR _ _) (Nat.le_of_lt hA), (HB5.out.setCell hle _).setCell hle _⟩

end Go.Proofs.Ythlkfbiclhgdoaa

end

section

/-
  A SLICE OF A SLICE OF STRUCTS.
-/
namespace Go.Proofs.Ythlkfbiclhgdoaa
open Go.RowKit

theorem run_slice_from_S {α : Type} {P : Program} {vals : α → List Value} {sz : Nat} {zero : α} {T S : TypeId} {Z : Value} {bytes : Nat} (D : RowOK P vals sz zero T S Z bytes) (w : World) (ad : Addr) (n cap l : Nat) (I : Int) (hI : I = (l : Int)) (h : l ≤ n) :
    (Instr.slice S (.slice (some ad) n cap) (some (.int .i64 I)) none none).run P w = .ok (.slice (some (if cap = l then ad else ad.add (l * sz))) (n - l) (cap - l)) w := by
  obtain ⟨i, hi, hz, hsize, hby⟩ := info_parts D.info
  subst hI
  have he : P.elem S = T := by unfold Program.elem; rw [D.under]
  rw [run_slice_l w S (some ad) n cap (by rw [he]; exact D.under) .i64 (l : Int) (by omega) (by omega), he, run_sizeOf w hi]
  simp only [Result.andThen, sliced, Int.toNat_natCast]
  have hc : P.cellsOf T = sz := by unfold Program.cellsOf; rw [hi]; exact hsize
  rw [hc]
  split <;> rfl

/-- What is left of a slice behind its first p elements. -/
theorem RdS.tail {α : Type} {vals : α → List Value} {sz : Nat} {zero : α} {w : World} {ad : Addr} {n cap : Nat} {l : List α} (h : RdS vals sz zero w (.slice (some ad) n cap) l) (_hsz : 0 < sz) (p : Nat) (hp : p ≤ l.length) :
    RdS vals sz zero w (.slice (some (if cap = p then ad else ad.add (p * sz))) (n - p) (cap - p)) (l.drop p) := by
  obtain ⟨a', cap', e, h1, h2, h3, h4⟩ := h
  simp only [Value.slice.injEq] at e
  obtain ⟨rfl, rfl, rfl⟩ := e
  refine ⟨_, _, by rw [List.length_drop], by rw [List.length_drop]; omega, by omega, fun e => by simp at e, ?_⟩
  rcases h4 with rfl | ⟨b, off, e, hlt, hc⟩
  · exact .inl (by simp)
  · by_cases hd : l.drop p = []
    · exact .inl hd
    · have hpl : p < l.length := by
        rcases Nat.lt_or_ge p l.length with hh | hh
        · exact hh
        · exact absurd (List.drop_eq_nil_of_le hh) hd
      obtain rfl : ad = ⟨b, off, none⟩ := by simpa using e
      refine .inr ⟨b, off + p * sz, ?_, hlt, fun i hi => ?_⟩
      · rw [if_neg (by omega), Addr.add_lit]
      · rw [List.length_drop] at hi
        have := hc (p + i) (by omega)
        have e2 : (l.drop p).getD i zero = l.getD (p + i) zero := by
          rw [List.getD_eq_getElem?_getD, List.getD_eq_getElem?_getD, List.getElem?_drop]
        rw [e2, show off + p * sz + i * sz = off + (p + i) * sz by rw [Nat.add_mul]; omega]
        exact this

/-- A slice that was built. -/
theorem rdS_made {α : Type} {P : Program} {vals : α → List Value} {sz : Nat} {zero : α} {T S : TypeId} {Z : Value} {bytes : Nat} (D : RowOK P vals sz zero T S Z bytes) {w : World} {cs : Array Value} {l : List α} (hcs : cs.toList = cellsS vals l) (hl : l.length ≤ 1000) {B : Nat} (hB : B = w.heap.size) :
    RdS vals sz zero (w.alloc (.cells cs T)) (.slice (some ⟨B, 0, none⟩) l.length l.length) l := by
  subst hB
  refine ⟨_, _, rfl, Nat.le_refl _, by unfold maxLen; omega, (fun e => by cases e), .inr ⟨w.heap.size, 0, rfl, by simp, fun i hi j u hu => ?_⟩⟩
  have hj : j < sz := by have := (List.getElem?_eq_some_iff.1 hu).1; rwa [D.len] at this
  have := cellsAt_made (w := w) (cs := cs) (vs := cellsS vals l) hcs T rfl (i * sz + j) u (by rw [cellsS_at D.len zero l i j hi hj]; exact hu)
  rwa [Nat.zero_add] at this ⊢

end Go.Proofs.Ythlkfbiclhgdoaa

end

section

/-
  THE CONTRACTS OF THE DOCUMENT'S Set AND SameChanges.
-/
namespace Go.Proofs.Ythlkfbiclhgdoaa
open Go.RowKit

theorem rest_in {t : List Row} {k : Nat} (h : k < t.length) {x : List UInt8} (hc : ¬ (t.getD k Row.zero).c = x) : diRest (t.take (k + 1)) x = diRest (t.take k) x ++ [t.getD k Row.zero] := by
  have h1 : ((t.getD k Row.zero).c == x) = false := by simpa using hc
  rw [List.take_succ_eq_append_getElem h, row_get h]
  unfold diRest
  rw [List.filter_append, List.filter_cons_of_pos (by simp only [h1]; rfl), List.filter_nil]

theorem rest_out {t : List Row} {k : Nat} (h : k < t.length) {x : List UInt8} (hc : (t.getD k Row.zero).c = x) : diRest (t.take (k + 1)) x = diRest (t.take k) x := by
  have h1 : ((t.getD k Row.zero).c == x) = true := by simpa using hc
  rw [List.take_succ_eq_append_getElem h, row_get h]
  unfold diRest
  rw [List.filter_append, List.filter_cons_of_neg (by simp only [h1]; decide), List.filter_nil, List.append_nil]

theorem plc_yes {t : List Row} {x : List UInt8} {k : Nat} (h : idLess (t.getD k Row.zero).c x = true) : plc t x (k + 1) = k + 1 := by rw [plc, if_pos h]
theorem plc_no {t : List Row} {x : List UInt8} {k : Nat} (h : idLess (t.getD k Row.zero).c x = false) : plc t x (k + 1) = plc t x k := by rw [plc, if_neg (by rw [h]; decide)]

set_option maxHeartbeats 6400000 in
set_option maxRecDepth 1000000 in
theorem rset_any {w : World} {v : Value} {t : List Row} (hv : Tab w v t) (hl : t.length ≤ 1000) (c : Chg) :
    Calls Try.prog 48 #[v, chgAgg c] w fun e w' => ∃ u, e = .returned u ∧ OwnR w' w.heap.size u (diSet t c) ∧ Below w.heap.size w w' := by
  obtain ⟨x, on, sh, pr, si, st⟩ := c
  have HV := Lib.hid (hv.later ((Below.refl _ _).alloc (Nat.le_refl _) (.cells #[.string ⟨x.toArray⟩, .bool on, .int .i64 sh, .int .i64 pr, .int .i64 si, .string ⟨st.toArray⟩] 33)))
  obtain ⟨a, cap, rfl, hm⟩ := hv.open'
  unfold chgAgg
  obtain ⟨k0, k1, k2, k3, k4, k5⟩ := six_cells w (.string ⟨x.toArray⟩) (.bool on) (.int .i64 sh) (.int .i64 pr) (.int .i64 si) (.string ⟨st.toArray⟩) 33
  have K0 := Lib.hid k0
  have K1 := Lib.hid k1
  have K2 := Lib.hid k2
  have K3 := Lib.hid k3
  have K4 := Lib.hid k4
  have K5 := Lib.hid k5
  have hz0 : Hid ((w.alloc (.cells #[.string ⟨x.toArray⟩, .bool on, .int .i64 sh, .int .i64 pr, .int .i64 si, .string ⟨st.toArray⟩] 33)).heap.size = w.heap.size + 1) := Lib.hid (by simp)
  have BW : Hid (Below w.heap.size w (w.alloc (.cells #[.string ⟨x.toArray⟩, .bool on, .int .i64 sh, .int .i64 pr, .int .i64 si, .string ⟨st.toArray⟩] 33))) := (Below.refl _ _).alloc (Nat.le_refl _) _
  obtain ⟨W0, hW0⟩ : ∃ W0, W0 = w.alloc (.cells #[.string ⟨x.toArray⟩, .bool on, .int .i64 sh, .int .i64 pr, .int .i64 si, .string ⟨st.toArray⟩] 33) := ⟨_, rfl⟩
  rw [← hW0] at HV K0 K1 K2 K3 K4 K5 hz0 BW
  clear hv k0 k1 k2 k3 k4 k5
  go_enter Try.func48, Try.ntmps48
  go_wp2_with fail
  rw [← hW0]
  clear hW0
  go_loopw [5, 6] (fun s i wr => ∃ k : Nat, k ≤ t.length ∧ i = .int .i64 k ∧ Hid (OwnR wr W0.heap.size s (diRest (t.take k) x)) ∧ Hid (Below W0.heap.size W0 wr)) (fun _ i _ => t.length - (intOf i).toNat)
  case atStart => exact ⟨0, by omega, rfl, ownR_nil _ _, Below.refl _ _⟩
  case round =>
    obtain ⟨k, hk, rfl, HO, HN⟩ := hrel
    by_cases hlt : k < t.length
    · obtain ⟨b, off, rfl, h0, h1, h2, h3, h4⟩ := HV.out.row HN.out k hlt
      have kx := cell_later K0.out HN.out
      obtain ⟨⟨c, ⟨x1, y1, z1, s1⟩⟩, hr⟩ : ∃ r, t.getD k Row.zero = r := ⟨_, rfl⟩
      have hri := rest_in hlt (x := x)
      have hro := rest_out hlt (x := x)
      rw [hr] at h0 h1 h2 h3 h4 hri hro
      simp only at h0 h1 h2 h3 h4 hri hro
      have hrl : (diRest (t.take k) x).length ≤ 1000 := by have := diRest_len (t.take k) x; rw [List.length_take] at this; omega
      by_cases hc : c = x
      · have HX := Lib.hid (hro hc)
        subst hc
        clear hri hro hr
        go_wp2_with fail
        go_region
        go_wp2_with fail
        go_roundw
        case rel => exact ⟨k + 1, by omega, by go_num, by rw [HX.out]; exact HO.out.drew, HN.out.drew⟩
        case measure => simp [intOf]; omega
      · have HX := Lib.hid (hri hc)
        have t1 : (c == x) = false := by simpa using hc
        have t2 : (c != x) = true := by simpa using hc
        clear hri hro hr hc
        have O2 := Lib.hid (HO.out.drew.alloc (.cells #[.string ⟨c.toArray⟩, .int .i64 x1, .int .i64 y1, .int .i64 z1, .string ⟨s1.toArray⟩] 72))
        have N2 := Lib.hid (bl_alloc HN.out.drew (.cells #[.string ⟨c.toArray⟩, .int .i64 x1, .int .i64 y1, .int .i64 z1, .string ⟨s1.toArray⟩] 72))
        have hz3 := N2.out.size
        clear HO
        go_wp2_with fail
        go_region
        go_wp2_with (at_builtin; go_must (refine wpList_append_rows rfl _ _ rfl W0.heap.size _ (diRest (t.take k) x) rfl (by exact O2.out) _ 1 1 [⟨c, x1, y1, z1, s1⟩] rfl rfl (fun e => nomatch e) ?c1 (by simp only [List.length_cons, List.length_nil]; omega) hz3 ?_))
        case c1 => exact new_row (by simp)
        intro v' w' hown' hb'
        rw [← HX.out] at hown'
        have O3 := Lib.hid hown'
        have N3 := Lib.hid (N2.out.trans hb')
        clear hown' hb' O2 h0 h1 h2 h3 h4
        go_wp2_with fail
        go_roundw
        case rel => exact ⟨k + 1, by omega, by go_num, O3, N3⟩
        case measure => simp [intOf]; omega
    · obtain rfl : k = t.length := by omega
      have ho := HO.out
      rw [List.take_length] at ho
      have O1 := Lib.hid ho
      have kx := cell_later K0.out HN.out
      have ko := cell_later K1.out HN.out
      clear ho HO hlt hk
      obtain ⟨R, hR⟩ : ∃ R, diRest t x = R := ⟨_, rfl⟩
      have hRl := diRest_len t x
      rw [hR] at O1 hRl
      have Bw := Lib.hid (BW.out.trans (HN.out.mono (by rw [hz0.out]; omega)))
      cases on with
      | false =>
        have HE : Hid (diSet t ⟨x, false, ⟨sh, pr, si, st⟩⟩ = R) := by show _ = _; rw [← hR]; exact diSet_off rfl
        go_wp2_with fail
        go_ret
        exact ⟨_, rfl, by rw [HE.out]; exact ownR_low O1.out (by rw [hz0.out]; omega), Bw.out⟩
      | true =>
        have HE : Hid (diSet t ⟨x, true, ⟨sh, pr, si, st⟩⟩ = put1 R (plc R x R.length) ⟨x, ⟨sh, pr, si, st⟩⟩) := by show _ = _; rw [← hR]; exact diSet_on rfl
        have k2 := Lib.hid (cell_later K2.out HN.out)
        have k3 := Lib.hid (cell_later K3.out HN.out)
        have k4 := Lib.hid (cell_later K4.out HN.out)
        have k5 := Lib.hid (cell_later K5.out HN.out)
        have kx' := Lib.hid kx
        clear hR HV BW K0 K1 K2 K3 K4 K5 HN
        obtain ⟨w1, hw1⟩ : ∃ w1, w1 = wr := ⟨_, rfl⟩
        subst hw1
        obtain ⟨ao, cap2, rfl, hRm⟩ := O1.out.tab.open'
        clear hm kx'
        go_wp2_with fail
        go_loopw [7, 8] (fun at' i w2 => ∃ k : Nat, k ≤ R.length ∧ i = .int .i64 k ∧ at' = .int .i64 (plc R x k) ∧ Hid (Below w1.heap.size w1 w2)) (fun _ i _ => R.length - (intOf i).toNat)
        case atStart => exact ⟨0, by omega, rfl, rfl, Below.refl _ _⟩
        case round =>
          obtain ⟨k, hk, rfl, rfl, HN⟩ := hrel
          by_cases hlt : k < R.length
          · obtain ⟨b, off, rfl, h0, h1, h2, h3, h4⟩ := O1.out.tab.row HN.out k hlt
            have kx2 := cell_later kx HN.out
            obtain ⟨yy, hy⟩ : ∃ yy, (R.getD k Row.zero).c = yy := ⟨_, rfl⟩
            rw [hy] at h0
            have g0 := cell_regrown h0
            have g1 := cell_regrown kx2
            cases hle : idLess yy x with
            | false =>
              have HP : Hid (plc R x (k + 1) = plc R x k) := by show _ = _; exact plc_no (by rw [hy]; exact hle)
              have HLe := Lib.hid (rless_eq yy x (r := false) (Lib.hid hle))
              clear hle hy h0 h1 h2 h3 h4
              go_wp2_with fail
              refine wp_region_quiet_below (by kernel_rfl) (by kernel_rfl) ?_
              repeat (go_big_quiet_step (with_reducible exact rgS HLe.out _ _ _))
              refine wpQuiet_nil ?_
              intro w5 hw5
              have N5 := Lib.hid (below2' HN.out (regrown_belowD hw5))
              clear hw5 g0 g1
              go_wp2_with fail
              go_roundw
              case rel => exact ⟨k + 1, by omega, by go_num, by rw [HP.out], N5⟩
              case measure => simp [intOf]; omega
            | true =>
              have HP : Hid (plc R x (k + 1) = k + 1) := by show _ = _; exact plc_yes (by rw [hy]; exact hle)
              have HLe := Lib.hid (rless_eq yy x (r := true) (Lib.hid hle))
              clear hle hy h0 h1 h2 h3 h4
              go_wp2_with fail
              refine wp_region_quiet_below (by kernel_rfl) (by kernel_rfl) ?_
              repeat (go_big_quiet_step (with_reducible exact rgS HLe.out _ _ _))
              refine wpQuiet_nil ?_
              intro w5 hw5
              have N5 := Lib.hid (below2' HN.out (regrown_belowD hw5))
              clear hw5 g0 g1
              go_wp2_with fail
              go_roundw
              case rel => exact ⟨k + 1, by omega, by go_num, by rw [HP.out]; go_num, N5⟩
              case measure => simp [intOf]; omega
          · obtain rfl : k = R.length := by omega
            have hP := plc_le R x R.length
            obtain ⟨P, hPe⟩ : ∃ P, plc R x R.length = P := ⟨_, rfl⟩
            rw [hPe] at HE hP ⊢
            have O2 := Lib.hid (O1.out.later HN.out)
            have kx2 := Lib.hid (cell_later kx HN.out)
            have n2 := Lib.hid (cell_later k2.out HN.out)
            have n3 := Lib.hid (cell_later k3.out HN.out)
            have n4 := Lib.hid (cell_later k4.out HN.out)
            have n5 := Lib.hid (cell_later k5.out HN.out)
            have B2 := Lib.hid (below2' Bw.out HN.out)
            have hPn : (P : Int) ≤ (R.length : Int) := by omega
            have hF : Hid (R.take P ++ [(⟨x, ⟨sh, pr, si, st⟩⟩ : Row)] ++ R.drop P = put1 R P ⟨x, ⟨sh, pr, si, st⟩⟩) := by show _ = _; unfold put1; rw [List.append_assoc]
            clear hPe HN Bw O1 kx k2 k3 k4 k5 ko hlt hk
            rcases O2.out.2 with ⟨hn, h0⟩ | ⟨g, cap', cur, hn, _, _, hnc, hcm, _⟩
            · simp only [Value.slice.injEq] at hn
              obtain ⟨rfl, _, rfl⟩ := hn
              obtain rfl : R = [] := List.length_eq_zero_iff.1 h0
              obtain rfl : P = 0 := by simpa using hP
              clear h0
              go_wp2_with (at_builtin; go_must (refine wpList_append_rows rfl _ _ rfl wr.heap.size _ [] rfl (by exact ownR_made wr) none 0 0 [] rfl rfl (fun e => ⟨rfl, rfl⟩) (fun ad had => nomatch had) (by simp) (by simp) ?_))
              intro v3 w3 h3 hb3
              have C3 : Hid (Below wr.heap.size wr w3) := ((Below.refl _ _).alloc (Nat.le_refl _) _).trans hb3
              have kx3 := cell_later kx2.out C3.out
              have n23 := cell_later n2.out C3.out
              have n33 := cell_later n3.out C3.out
              have n43 := cell_later n4.out C3.out
              have n53 := cell_later n5.out C3.out
              have hz3 := Lib.hid C3.out.size
              have O4 := Lib.hid (h3.alloc (.cells #[.string ⟨x.toArray⟩, .int .i64 sh, .int .i64 pr, .int .i64 si, .string ⟨st.toArray⟩] 72))
              clear h3 hb3
              go_wp2_with (at_builtin; go_must (refine wpList_append_rows rfl _ _ rfl wr.heap.size _ ([] ++ []) rfl (by exact O4.out) _ 1 1 [⟨x, ⟨sh, pr, si, st⟩⟩] rfl rfl (fun e => nomatch e) ?c2 (by simp) (by have := hz3.out; simp; omega) ?_))
              case c2 => exact new_row (by simp)
              intro v4 w4 h4 hb4
              have C4 : Hid (Below wr.heap.size wr w4) := (bl_alloc C3.out _).trans hb4
              have O5 := Lib.hid h4
              have hz4 := Lib.hid C4.out.size
              clear h4 hb4 O4 kx3 n23 n33 n43 n53
              go_wp2_with (at_builtin; go_must (refine wpList_append_rows rfl _ _ rfl wr.heap.size _ ([] ++ [] ++ [⟨x, ⟨sh, pr, si, st⟩⟩]) rfl (by exact O5.out) none 0 0 [] rfl rfl (fun e => ⟨rfl, rfl⟩) (fun ad had => nomatch had) (by simp) hz4.out ?_))
              intro v5 w5 h5 hb5
              have O6 : Hid (OwnR w5 wr.heap.size v5 (put1 [] 0 ⟨x, ⟨sh, pr, si, st⟩⟩)) := Lib.hid (by simpa [put1] using h5)
              have B6 := Lib.hid (below2' B2.out ((C4.out.trans hb5)))
              clear h5 hb5
              go_wp2_with fail
              go_ret
              exact ⟨_, rfl, by rw [HE.out]; exact ownR_low O6.out B2.out.size, B6.out⟩
            · unfold maxLen at hcm
              simp only [Value.slice.injEq, true_and] at hn
              obtain ⟨rfl, rfl⟩ := hn
              have S1 := Lib.hid ((O2.out.alloc (.cells #[] 72)).src 0 P (by omega))
              have hl1 : (R.take P).length = P := by rw [List.length_take]; omega
              have hPc : P ≤ cap2 := by omega
              go_wp2_with (at_builtin; go_must (refine wpList_append_rows rfl _ _ rfl wr.heap.size _ [] rfl (by exact ownR_made wr) (some ⟨g, 0, none⟩) P cap2 (R.take P) rfl hl1.symm (fun e => nomatch e) ?c1 (by simp only [List.length_nil, hl1]; omega) (by simp) ?_))
              case c1 => intro ad had; obtain rfl := Option.some.inj had; have := S1.out; rw [Nat.zero_mul, List.drop_zero] at this; exact this
              intro v3 w3 h3 hb3
              have O3 := Lib.hid h3
              have C3 : Hid (Below wr.heap.size wr w3) := ((Below.refl _ _).alloc (Nat.le_refl _) _).trans hb3
              have kx3 := cell_later kx2.out C3.out
              have n23 := cell_later n2.out C3.out
              have n33 := cell_later n3.out C3.out
              have n43 := cell_later n4.out C3.out
              have n53 := cell_later n5.out C3.out
              have hz3 := Lib.hid C3.out.size
              have O4 := Lib.hid (h3.alloc (.cells #[.string ⟨x.toArray⟩, .int .i64 sh, .int .i64 pr, .int .i64 si, .string ⟨st.toArray⟩] 72))
              clear h3 hb3 S1 O3
              go_wp2_with (at_builtin; go_must (refine wpList_append_rows rfl _ _ rfl wr.heap.size _ ([] ++ R.take P) rfl (by exact O4.out) _ 1 1 [⟨x, ⟨sh, pr, si, st⟩⟩] rfl rfl (fun e => nomatch e) ?c2 (by simp only [List.nil_append, List.length_cons, List.length_nil, hl1]; omega) (by have := hz3.out; simp; omega) ?_))
              case c2 => exact new_row (by simp)
              intro v4 w4 h4 hb4
              have C4 : Hid (Below wr.heap.size wr w4) := (bl_alloc C3.out _).trans hb4
              have O5 := Lib.hid h4
              clear h4 hb4 O4 kx3 n23 n33 n43 n53
              have hz4 := Lib.hid C4.out.size
              have S4 := Lib.hid ((O2.out.later C4.out).src P (R.length - P) (by omega))
              have hl2 : ((R.drop P).take (R.length - P)).length = R.length - P := by rw [List.length_take, List.length_drop]; omega
              have e2 : (R.drop P).take (R.length - P) = R.drop P := List.take_of_length_le (by rw [List.length_drop]; omega)
              rw [e2] at S4 hl2
              have hF2 : Hid ([] ++ R.take P ++ [(⟨x, ⟨sh, pr, si, st⟩⟩ : Row)] ++ R.drop P = put1 R P ⟨x, ⟨sh, pr, si, st⟩⟩) := by show _ = _; rw [List.nil_append]; exact hF.out
              have hlen4 : ([] ++ R.take P ++ [(⟨x, ⟨sh, pr, si, st⟩⟩ : Row)]).length = P + 1 := by simp only [List.nil_append, List.length_append, List.length_cons, List.length_nil, hl1]
              clear e2
              by_cases hcP : cap2 = P
              · have h00 : R.length - P = 0 := by omega
                have hd0 : R.drop P = [] := List.drop_of_length_le (by omega)
                rw [hd0] at hF2
                obtain rfl : P = R.length := by omega
                subst hcP
                go_wp2_with (at_builtin; go_must (refine wpList_append_rows rfl _ _ rfl wr.heap.size _ ([] ++ R.take R.length ++ [⟨x, ⟨sh, pr, si, st⟩⟩]) rfl (by exact O5.out) (some ⟨g, 0, none⟩) 0 0 [] rfl rfl (fun e => nomatch e) ?c3 (by rw [hlen4]; simp only [List.length_nil]; omega) hz4.out ?_))
                case c3 => intro ad had j u hu; simp [cellsOf] at hu
                intro v5 w5 h5 hb5
                have O6 : Hid (OwnR w5 wr.heap.size v5 (put1 R R.length ⟨x, ⟨sh, pr, si, st⟩⟩)) := Lib.hid (by rw [← hF2.out]; simpa using h5)
                have B6 := Lib.hid (below2' B2.out ((C4.out.trans hb5)))
                clear h5 hb5
                go_wp2_with fail
                go_ret
                exact ⟨_, rfl, by rw [HE.out]; exact ownR_low O6.out B2.out.size, B6.out⟩
              · go_wp2_with (at_builtin; go_must (refine wpList_append_rows rfl _ _ rfl wr.heap.size _ ([] ++ R.take P ++ [⟨x, ⟨sh, pr, si, st⟩⟩]) rfl (by exact O5.out) (some ⟨g, P * 5, none⟩) (R.length - P) (cap2 - P) (R.drop P) rfl hl2.symm (fun e => nomatch e) ?c3 (by rw [hlen4, List.length_drop]; omega) hz4.out ?_))
                case c3 => intro ad had; obtain rfl := Option.some.inj had; exact S4.out
                intro v5 w5 h5 hb5
                have O6 : Hid (OwnR w5 wr.heap.size v5 (put1 R P ⟨x, ⟨sh, pr, si, st⟩⟩)) := Lib.hid (by rw [← hF2.out]; simpa using h5)
                have B6 := Lib.hid (below2' B2.out ((C4.out.trans hb5)))
                clear h5 hb5
                go_wp2_with fail
                go_ret
                exact ⟨_, rfl, by rw [HE.out]; exact ownR_low O6.out B2.out.size, B6.out⟩

end Go.Proofs.Ythlkfbiclhgdoaa

end

section

/-
  THE CONTRACT OF THE DOCUMENT'S SameChanges.
-/
namespace Go.Proofs.Ythlkfbiclhgdoaa
open Go.RowKit

def csSame (a b : List Chg) : Bool := decide (a.length = b.length) && (List.range a.length).all fun i => cSame (a.getD i Chg.zero) (b.getD i Chg.zero)

theorem csSame_self (a : List Chg) : csSame a a = true := by
  unfold csSame
  simp only [decide_true, Bool.true_and, List.all_eq_true]
  intro i _
  exact cSame_self _

theorem csSame_len {a b : List Chg} (h : ¬ a.length = b.length) : csSame a b = false := by
  unfold csSame
  simp [h]

theorem csSame_off {a b : List Chg} {k : Nat} (hk : k < a.length) (h : cSame (a.getD k Chg.zero) (b.getD k Chg.zero) = false) : csSame a b = false := by
  rw [Bool.eq_false_iff]
  intro h'
  unfold csSame at h'
  rw [Bool.and_eq_true, List.all_eq_true] at h'
  rw [h'.2 k (by simpa using hk)] at h
  cases h

theorem csSame_on {a b : List Chg} (hl : a.length = b.length) (h : (List.range a.length).all (fun i => cSame (a.getD i Chg.zero) (b.getD i Chg.zero)) = true) : csSame a b = true := by
  unfold csSame
  rw [h]
  simp [hl]

theorem csSame_next {t u : List Chg} {k : Nat} (h : (List.range k).all (fun i => cSame (t.getD i Chg.zero) (u.getD i Chg.zero)) = true) (hk : cSame (t.getD k Chg.zero) (u.getD k Chg.zero) = true) :
    (List.range (k + 1)).all (fun i => cSame (t.getD i Chg.zero) (u.getD i Chg.zero)) = true := range_all_succ h hk

set_option maxHeartbeats 800000 in
set_option maxRecDepth 100000 in
theorem csame_any {w : World} {v u : Value} {t s : List Chg} (hv : Chgs w v t) (hu : Chgs w u s) :
    Calls Try.prog 46 #[v, u] w fun e w' => e = .returned (.bool (csSame t s)) ∧ Below w.heap.size w w' := by
  have HV := Lib.hid hv
  have HU := Lib.hid hu
  obtain ⟨a, cap, rfl, hm⟩ := hv.open'
  obtain ⟨a2, cap2, rfl, hm2⟩ := hu.open'
  clear hv hu
  by_cases hl : t.length = s.length
  · have HL := Lib.hid hl
    have t1 : ((t.length : Int) != (s.length : Int)) = false := by simp [hl]
    clear hl
    go_enter Try.func46, Try.ntmps46
    go_wp2_with fail
    go_loopw [5] (fun i wr => ∃ k : Nat, k ≤ t.length ∧ i = .int .i64 k ∧ Hid (Below w.heap.size w wr) ∧ Hid ((List.range k).all (fun i => cSame (t.getD i Chg.zero) (s.getD i Chg.zero)) = true)) (fun i _ => t.length - (intOf i).toNat)
    case atStart => exact ⟨0, by omega, rfl, Below.refl _ _, by show _ = _; simp⟩
    case round =>
      obtain ⟨k, hk, rfl, HN, HA⟩ := hrel
      by_cases hlt : k < t.length
      · obtain ⟨b, off, rfl, h0, h1, h2, h3, h4, h5⟩ := HV.out.row HN.out k hlt
        obtain ⟨b2, off2, rfl, i0, i1, i2, i3, i4, i5⟩ := HU.out.row HN.out k (by rw [← HL.out]; exact hlt)
        have hlt2 : k < s.length := by rw [← HL.out]; exact hlt
        obtain ⟨⟨c, o, ⟨x, y, z, st⟩⟩, hr⟩ : ∃ r, t.getD k Chg.zero = r := ⟨_, rfl⟩
        obtain ⟨⟨c', o', ⟨x', y', z', st'⟩⟩, hr'⟩ : ∃ r, s.getD k Chg.zero = r := ⟨_, rfl⟩
        rw [hr] at h0 h1 h2 h3 h4 h5
        rw [hr'] at i0 i1 i2 i3 i4 i5
        have hgd : Try.prog.eqGuardType Try.prog.depth 33 = false := by kernel_rfl
        have hne := chg_neq6 c c' o o' x y z x' y' z' st st'
        cases hs : cSame ⟨c, o, x, y, z, st⟩ ⟨c', o', x', y', z', st'⟩ with
        | false =>
          have HR : Hid (csSame t s = false) := by show _ = _; exact csSame_off hlt (by rw [hr, hr']; exact hs)
          rw [hs] at hne
          simp only at h0 h1 h2 h3 h4 h5 i0 i1 i2 i3 i4 i5
          clear hr hr' hs
          go_wp2_with fail
          go_region
          go_wp2_with fail
          go_ret
          exact ⟨by rw [HR.out]; rfl, HN.out.drew⟩
        | true =>
          have HA2 : Hid ((List.range (k + 1)).all (fun i => cSame (t.getD i Chg.zero) (s.getD i Chg.zero)) = true) := by show _ = _; exact csSame_next HA.out (by rw [hr, hr']; exact hs)
          rw [hs] at hne
          simp only at h0 h1 h2 h3 h4 h5 i0 i1 i2 i3 i4 i5
          clear hr hr' hs
          go_wp2_with fail
          go_region
          go_wp2_with fail
          go_roundw
          case rel => exact ⟨k + 1, by omega, by go_num, HN.out.drew, HA2⟩
          case measure => simp [intOf]; omega
      · obtain rfl : k = t.length := by omega
        have HR : Hid (csSame t s = true) := by show _ = _; exact csSame_on HL.out HA.out
        go_wp2_with fail
        go_ret
        exact ⟨by rw [HR.out]; rfl, HN.out⟩
  · have HR := Lib.hid (csSame_len hl)
    have t1 : ((t.length : Int) != (s.length : Int)) = true := by simp; omega
    clear hl
    go_enter Try.func46, Try.ntmps46
    go_wp2_with fail
    go_ret
    exact ⟨by rw [HR.out]; rfl, Below.refl _ _⟩

end Go.Proofs.Ythlkfbiclhgdoaa

end

section

/-
  LAYER 17: what is pushed, in one; what is popped; what a queue makes of a table; few changes; the same queue.
-/
namespace Go.Proofs.Ythlkfbiclhgdoaa
open Go.RowKit

theorem qupush_any {w : World} {v : Value} {l : List Chg} (hv : Chgs w v l) (hl : l.length ≤ 1000) (la : Bool) (c st : List UInt8) (on : Bool) (a b d : Int) (room : Int) {ql : List Chg} {qa : Bool} (hr : Hid (quPush ⟨l, la⟩ ⟨c, on, ⟨a, b, d, st⟩⟩ room = ⟨ql, qa⟩)) :
    Calls Try.prog 27 #[.agg #[v, .bool la], .agg #[.string ⟨c.toArray⟩, .bool on, .int .i64 a, .int .i64 b, .int .i64 d, .string ⟨st.toArray⟩], .int .i64 room] w fun e w' => ∃ u, e = .returned (.agg #[u, .bool qa]) ∧ Chgs w' u ql ∧ Below w.heap.size w w' := by
  have hr := hr.out
  rcases quPush_ways ⟨l, la⟩ ⟨c, on, ⟨a, b, d, st⟩⟩ room with ⟨h1, e⟩ | ⟨h1, h2, e⟩ | ⟨h1, h2, h3, e⟩ | ⟨h1, h2, h3, e⟩
  · rw [e] at hr
    simp only [Que.mk.injEq] at hr h1
    obtain ⟨rfl, rfl⟩ := hr
    subst h1
    exact (qupush_1 hv c st on a b d room).mono fun e w' ⟨he, hb⟩ => ⟨v, he, hv.later hb, hb⟩
  · rw [e] at hr
    simp only [Que.mk.injEq] at hr h1 h2
    obtain ⟨rfl, rfl⟩ := hr
    subst h1
    exact (qupush_3 hv hl c st on a b d room h2).mono fun e w' ⟨u, he, ho, hb⟩ => ⟨u, he, ho.chgs, hb⟩
  · rw [e] at hr
    simp only [Que.mk.injEq] at hr h1 h2 h3
    obtain ⟨rfl, rfl⟩ := hr
    subst h1
    exact (qupush_4 hv hl c st on a b d room h2 h3).mono fun e w' ⟨u, he, ho, hb⟩ => ⟨u, he, ho.chgs, hb⟩
  · rw [e] at hr
    simp only [Que.mk.injEq] at hr h1 h2 h3
    obtain ⟨rfl, rfl⟩ := hr
    subst h1
    exact (qupush_2 hv hl c st on a b d room h2 h3).mono fun e w' ⟨he, hb⟩ => ⟨_, he, chgs_nil _, hb⟩

theorem rqupush_any {w : World} {v : Value} {l : List Chg} (hv : Chgs w v l) (hl : l.length ≤ 1000) (la : Bool) (c st : List UInt8) (on : Bool) (a b d : Int) (room : Int) {ql : List Chg} {qa : Bool} (hr : Hid (quPush ⟨l, la⟩ ⟨c, on, ⟨a, b, d, st⟩⟩ room = ⟨ql, qa⟩)) :
    Calls Try.prog 28 #[.agg #[v, .bool la], .agg #[.string ⟨c.toArray⟩, .bool on, .int .i64 a, .int .i64 b, .int .i64 d, .string ⟨st.toArray⟩], .int .i64 room] w fun e w' => ∃ u, e = .returned (.agg #[u, .bool qa]) ∧ Chgs w' u ql ∧ Below w.heap.size w w' := by
  have hr := hr.out
  rcases quPush_ways ⟨l, la⟩ ⟨c, on, ⟨a, b, d, st⟩⟩ room with ⟨h1, e⟩ | ⟨h1, h2, e⟩ | ⟨h1, h2, h3, e⟩ | ⟨h1, h2, h3, e⟩
  · rw [e] at hr
    simp only [Que.mk.injEq] at hr h1
    obtain ⟨rfl, rfl⟩ := hr
    subst h1
    exact (rqupush_1 hv c st on a b d room).mono fun e w' ⟨he, hb⟩ => ⟨v, he, hv.later hb, hb⟩
  · rw [e] at hr
    simp only [Que.mk.injEq] at hr h1 h2
    obtain ⟨rfl, rfl⟩ := hr
    subst h1
    exact (rqupush_3 hv hl c st on a b d room h2).mono fun e w' ⟨u, he, ho, hb⟩ => ⟨u, he, ho.chgs, hb⟩
  · rw [e] at hr
    simp only [Que.mk.injEq] at hr h1 h2 h3
    obtain ⟨rfl, rfl⟩ := hr
    subst h1
    exact (rqupush_4 hv hl c st on a b d room h2 h3).mono fun e w' ⟨u, he, ho, hb⟩ => ⟨u, he, ho.chgs, hb⟩
  · rw [e] at hr
    simp only [Que.mk.injEq] at hr h1 h2 h3
    obtain ⟨rfl, rfl⟩ := hr
    subst h1
    exact (rqupush_2 hv hl c st on a b d room h2 h3).mono fun e w' ⟨he, hb⟩ => ⟨_, he, chgs_nil _, hb⟩

set_option maxHeartbeats 3200000 in
set_option maxRecDepth 100000 in
theorem quover_any {w : World} {vt : Value} {t : List Row} (ht : Tab w vt t) (hlt : t.length ≤ 100) {v : Value} {l : List Chg} (hv : Chgs w v l) (hl : l.length ≤ 100) (la : Bool) :
    Calls Try.prog 24 #[vt, .agg #[v, .bool la]] w fun e w' => ∃ u, e = .returned u ∧ Tab w' u (setAll t l) ∧ Below w.heap.size w w' := by
  obtain ⟨ao, cap, rfl, hmx⟩ := hv.open'
  have b0 := bl_newZ w (.cells #[.slice ao l.length cap, .bool la] 24)
  have HB := Lib.hid b0
  have V := Lib.hid (hv.later b0)
  have T := Lib.hid (ht.later b0)
  have A := Lib.hid (newQ w (.cells #[.slice ao l.length cap, .bool la] 24))
  clear b0 hv ht
  obtain ⟨⟨q0, q1⟩, f0, f1⟩ := twoQ A.out
  go_enter Try.func24, Try.ntmps24
  go_wp2_with fail
  clear q0 q1 f0 f1
  refine (clone_any T.out (by omega)).mono ?_
  rintro e w1 ⟨vt1, rfl, ho, b1⟩
  replace HB := Lib.hid (below2Z HB.out b1)
  replace V := Lib.hid (V.out.later b1)
  replace A := Lib.hid (upQ A.out b1)
  have T1 := Lib.hid ho.tab
  clear b1 ho T
  obtain ⟨⟨q0, q1⟩, f0, f1⟩ := twoQ A.out
  go_wp2_with fail
  clear q0 q1 f0 f1
  have HZ : Hid (setAll t (l.take 0) = t) := Lib.hid rfl
  go_loopw [0, 12] (fun s i wr => ∃ k : Nat, k ≤ l.length ∧ i = .int .i64 k ∧ Hid (Tab wr s (setAll t (l.take k))) ∧ Hid (Below w.heap.size w wr) ∧ Hid (Chgs wr (.slice ao l.length cap) l) ∧ Hid (wr.heap[w.heap.size]? = some (.cells #[.slice ao l.length cap, .bool la] 24 (0, 0)))) (fun _ i _ => l.length - (intOf i).toNat)
  case atStart => exact ⟨0, by omega, rfl, by rw [HZ.out]; exact T1, HB, V, A⟩
  case round =>
    clear HB V A T1 HZ
    obtain ⟨k, hk, rfl, HT, HB, V, A⟩ := hrel
    obtain ⟨⟨q0, q1⟩, f0, f1⟩ := twoQ A.out
    by_cases hlk : k < l.length
    · obtain ⟨b, off, rfl, h0, h1, h2, h3, h4, h5⟩ := V.out.row (Below.refl _ _) k hlk
      have HX : Hid (setAll t (l.take (k + 1)) = diSet (setAll t (l.take k)) (l.getD k Chg.zero)) := Lib.hid (by rw [List.take_add_one, List.getElem?_eq_getElem hlk, Option.toList_some, setAll_snoc, List.getD_eq_getElem?_getD, List.getElem?_eq_getElem hlk]; rfl)
      obtain ⟨⟨c, on, ⟨x, y, z, st⟩⟩, hr⟩ : ∃ r, l.getD k Chg.zero = r := ⟨_, rfl⟩
      rw [hr] at h0 h1 h2 h3 h4 h5 HX
      simp only at h0 h1 h2 h3 h4 h5
      have hln : (setAll t (l.take k)).length ≤ 1000 := by have := setAll_len (l.take k) t; rw [List.length_take] at this; omega
      clear hr
      have b2 := bl_newZ wr (.cells #[.string ⟨c.toArray⟩, .bool on, .int .i64 x, .int .i64 y, .int .i64 z, .string ⟨st.toArray⟩] 33)
      have HT2 := Lib.hid (HT.out.later b2)
      have HB2 := Lib.hid (below2Z HB.out b2)
      have V2 := Lib.hid (V.out.later b2)
      have A2 := Lib.hid (upQ A.out b2)
      clear b2 HT HB V A
      go_wp2_with fail
      clear q0 q1 f0 f1 h0 h1 h2 h3 h4 h5
      refine (set_any HT2.out hln ⟨c, on, ⟨x, y, z, st⟩⟩).mono ?_
      rintro e w3 ⟨u, rfl, ho, b3⟩
      have HT3 := Lib.hid (ho.tab)
      rw [← HX.out] at HT3
      have HB3 := Lib.hid (below2Z HB2.out b3)
      have V3 := Lib.hid (V2.out.later b3)
      have A3 := Lib.hid (upQ A2.out b3)
      clear ho b3 HT2 HB2 V2 A2
      go_wp2_with fail
      go_roundw
      case rel => exact ⟨k + 1, by omega, by go_num, HT3, HB3, V3, A3⟩
      case measure => simp [intOf]; omega
    · obtain rfl : k = l.length := by omega
      have HF : Hid (Tab wr _ (setAll t l)) := Lib.hid (by have := HT.out; rwa [List.take_length] at this)
      go_wp2_with fail
      go_ret
      exact ⟨_, rfl, HF.out, HB.out⟩

set_option maxHeartbeats 3200000 in
set_option maxRecDepth 100000 in
theorem rquover_any {w : World} {vt : Value} {t : List Row} (ht : Tab w vt t) (hlt : t.length ≤ 100) {v : Value} {l : List Chg} (hv : Chgs w v l) (hl : l.length ≤ 100) (la : Bool) :
    Calls Try.prog 25 #[vt, .agg #[v, .bool la]] w fun e w' => ∃ u, e = .returned u ∧ Tab w' u (setAll t l) ∧ Below w.heap.size w w' := by
  obtain ⟨ao, cap, rfl, hmx⟩ := hv.open'
  have b0 := bl_newZ w (.cells #[.slice ao l.length cap, .bool la] 24)
  have HB := Lib.hid b0
  have V := Lib.hid (hv.later b0)
  have T := Lib.hid (ht.later b0)
  have A := Lib.hid (newQ w (.cells #[.slice ao l.length cap, .bool la] 24))
  clear b0 hv ht
  obtain ⟨⟨q0, q1⟩, f0, f1⟩ := twoQ A.out
  go_enter Try.func25, Try.ntmps25
  go_wp2_with fail
  clear q0 q1 f0 f1
  have HZ : Hid (setAll t (l.take 0) = t) := Lib.hid rfl
  go_loopw [0, 5] (fun s i wr => ∃ k : Nat, k ≤ l.length ∧ i = .int .i64 k ∧ Hid (Tab wr s (setAll t (l.take k))) ∧ Hid (Below w.heap.size w wr) ∧ Hid (Chgs wr (.slice ao l.length cap) l) ∧ Hid (wr.heap[w.heap.size]? = some (.cells #[.slice ao l.length cap, .bool la] 24 (0, 0)))) (fun _ i _ => l.length - (intOf i).toNat)
  case atStart => exact ⟨0, by omega, rfl, by rw [HZ.out]; exact T, HB, V, A⟩
  case round =>
    clear HB V A T HZ
    obtain ⟨k, hk, rfl, HT, HB, V, A⟩ := hrel
    obtain ⟨⟨q0, q1⟩, f0, f1⟩ := twoQ A.out
    by_cases hlk : k < l.length
    · obtain ⟨b, off, rfl, h0, h1, h2, h3, h4, h5⟩ := V.out.row (Below.refl _ _) k hlk
      have HX : Hid (setAll t (l.take (k + 1)) = diSet (setAll t (l.take k)) (l.getD k Chg.zero)) := Lib.hid (by rw [List.take_add_one, List.getElem?_eq_getElem hlk, Option.toList_some, setAll_snoc, List.getD_eq_getElem?_getD, List.getElem?_eq_getElem hlk]; rfl)
      obtain ⟨⟨c, on, ⟨x, y, z, st⟩⟩, hr⟩ : ∃ r, l.getD k Chg.zero = r := ⟨_, rfl⟩
      rw [hr] at h0 h1 h2 h3 h4 h5 HX
      simp only at h0 h1 h2 h3 h4 h5
      have hln : (setAll t (l.take k)).length ≤ 1000 := by have := setAll_len (l.take k) t; rw [List.length_take] at this; omega
      clear hr
      have HT2 := HT
      have HB2 := HB
      have V2 := V
      have A2 := A
      clear HT HB V A
      go_wp2_with fail
      clear q0 q1 f0 f1 h0 h1 h2 h3 h4 h5
      refine (rset_any HT2.out hln ⟨c, on, ⟨x, y, z, st⟩⟩).mono ?_
      rintro e w3 ⟨u, rfl, ho, b3⟩
      have HT3 := Lib.hid (ho.tab)
      rw [← HX.out] at HT3
      have HB3 := Lib.hid (below2Z HB2.out b3)
      have V3 := Lib.hid (V2.out.later b3)
      have A3 := Lib.hid (upQ A2.out b3)
      clear ho b3 HT2 HB2 V2 A2
      go_wp2_with fail
      go_roundw
      case rel => exact ⟨k + 1, by omega, by go_num, HT3, HB3, V3, A3⟩
      case measure => simp [intOf]; omega
    · obtain rfl : k = l.length := by omega
      have HF : Hid (Tab wr _ (setAll t l)) := Lib.hid (by have := HT.out; rwa [List.take_length] at this)
      go_wp2_with fail
      go_ret
      exact ⟨_, rfl, HF.out, HB.out⟩

def fewC (l : List Chg) (n : Int) : Bool := decide ((l.length : Int) ≤ n) && l.all fun c => decide (c.c.length ≤ 60) && decide (c.v.st.length ≤ 100)

theorem fewC_get {l : List Chg} {n : Int} (h : fewC l n = true) : (l.length : Int) ≤ n ∧ ∀ c ∈ l, c.c.length ≤ 60 ∧ c.v.st.length ≤ 100 := by
  unfold fewC at h
  simp only [Bool.and_eq_true, decide_eq_true_eq, List.all_eq_true] at h
  exact h
theorem fewC_short {l : List Chg} {n : Int} (h : fewC l n = true) : ShortC l := fun c hc => by
  have := (fewC_get h).2 c hc
  omega
theorem fewC_long {l : List Chg} {n : Int} (h : n < (l.length : Int)) : fewC l n = false := by
  rw [Bool.eq_false_iff]
  intro e
  have := (fewC_get e).1
  omega
theorem fewC_off {l : List Chg} {n : Int} {k : Nat} (hk : k < l.length) (h : 60 < (l.getD k Chg.zero).c.length ∨ 100 < (l.getD k Chg.zero).v.st.length) : fewC l n = false := by
  rw [Bool.eq_false_iff]
  intro e
  have := (fewC_get e).2 _ (List.getElem_mem hk)
  rw [List.getD_eq_getElem?_getD, List.getElem?_eq_getElem hk] at h
  simp only [Option.getD_some] at h
  omega
theorem fewC_on {l : List Chg} {n : Int} (h1 : (l.length : Int) ≤ n) (h2 : ∀ k, k < l.length → (l.getD k Chg.zero).c.length ≤ 60 ∧ (l.getD k Chg.zero).v.st.length ≤ 100) : fewC l n = true := by
  unfold fewC
  simp only [Bool.and_eq_true, decide_eq_true_eq, List.all_eq_true]
  refine ⟨h1, fun c hc => ?_⟩
  obtain ⟨k, hk, rfl⟩ := List.getElem_of_mem hc
  have := h2 k hk
  rwa [List.getD_eq_getElem?_getD, List.getElem?_eq_getElem hk] at this

set_option maxHeartbeats 3200000 in
set_option maxRecDepth 100000 in
theorem fewc_any {w : World} {v : Value} {l : List Chg} (hv : Chgs w v l) (n : Int) {r : Bool} (hr : Hid (fewC l n = r)) :
    Calls Try.prog 26 #[v, .int .i64 n] w fun e w' => e = .returned (.bool r) ∧ Below w.heap.size w w' := by
  have HR := hr
  have HV := Lib.hid hv
  obtain ⟨ao, cap, rfl, hmx⟩ := hv.open'
  clear hv hr
  by_cases hn : n < (l.length : Int)
  · have HF := Lib.hid (fewC_long hn)
    have t1 : decide (n < (l.length : Int)) = true := decide_eq_true hn
    obtain rfl : false = r := by rw [← HR.out, HF.out]
    clear hn HR HF
    go_enter Try.func26, Try.ntmps26
    go_wp2_with fail
    go_ret
    exact ⟨rfl, Below.refl _ _⟩
  · have t1 : decide (n < (l.length : Int)) = false := decide_eq_false hn
    have HN : Hid ((l.length : Int) ≤ n) := Lib.hid (by omega)
    clear hn
    go_enter Try.func26, Try.ntmps26
    go_wp2_with fail
    clear t1
    go_loopw [5] (fun i wr => ∃ k : Nat, k ≤ l.length ∧ i = .int .i64 k ∧ Hid (Below w.heap.size w wr) ∧ Hid (∀ i, i < k → (l.getD i Chg.zero).c.length ≤ 60 ∧ (l.getD i Chg.zero).v.st.length ≤ 100)) (fun i _ => l.length - (intOf i).toNat)
    case atStart => exact ⟨0, by omega, rfl, Below.refl _ _, fun i hi => by omega⟩
    case round =>
      obtain ⟨k, hk, rfl, HB, HA⟩ := hrel
      by_cases hlk : k < l.length
      · obtain ⟨b, off, rfl, h0, h1, h2, h3, h4, h5⟩ := HV.out.row HB.out k hlk
        obtain ⟨⟨c, on, ⟨x, y, z, st⟩⟩, hr⟩ : ∃ r, l.getD k Chg.zero = r := ⟨_, rfl⟩
        rw [hr] at h0 h1 h2 h3 h4 h5
        simp only at h0 h1 h2 h3 h4 h5
        by_cases hc : 60 < c.length
        · obtain rfl : false = r := by rw [← HR.out]; exact (fewC_off hlk (.inl (by rw [hr]; exact hc))).symm
          have t2 : decide ((60 : Int) < (c.length : Int)) = true := decide_eq_true (by omega)
          have t3 : decide (60 < c.length) = true := decide_eq_true hc
          clear hr hc
          go_wp2_with fail
          go_ret
          exact ⟨rfl, HB.out⟩
        · by_cases hs : 100 < st.length
          · obtain rfl : false = r := by rw [← HR.out]; exact (fewC_off hlk (.inr (by rw [hr]; exact hs))).symm
            have t2 : decide ((60 : Int) < (c.length : Int)) = false := decide_eq_false (by omega)
            have t3 : decide (60 < c.length) = false := decide_eq_false hc
            have t4 : decide ((100 : Int) < (st.length : Int)) = true := decide_eq_true (by omega)
            have t5 : decide (100 < st.length) = true := decide_eq_true hs
            clear hr hc hs
            go_wp2_with fail
            go_ret
            exact ⟨rfl, HB.out⟩
          · have HA2 : Hid (∀ i, i < k + 1 → (l.getD i Chg.zero).c.length ≤ 60 ∧ (l.getD i Chg.zero).v.st.length ≤ 100) := Lib.hid fun i hi => by
              rcases Nat.lt_or_eq_of_le (Nat.le_of_lt_succ hi) with h | h
              · exact HA.out i h
              · subst h; rw [hr]; exact ⟨Nat.le_of_not_lt hc, Nat.le_of_not_lt hs⟩
            have t2 : decide ((60 : Int) < (c.length : Int)) = false := decide_eq_false (by omega)
            have t3 : decide (60 < c.length) = false := decide_eq_false hc
            have t4 : decide ((100 : Int) < (st.length : Int)) = false := decide_eq_false (by omega)
            have t5 : decide (100 < st.length) = false := decide_eq_false hs
            have HB2 := HB
            clear hr hc hs
            go_wp2_with fail
            go_roundw
            case rel => exact ⟨k + 1, by omega, by go_num, HB2, HA2⟩
            case measure => simp [intOf]; omega
      · obtain rfl : k = l.length := by omega
        obtain rfl : true = r := by rw [← HR.out]; exact (fewC_on HN.out HA.out).symm
        go_wp2_with fail
        go_ret
        exact ⟨rfl, HB.out⟩

set_option maxHeartbeats 3200000 in
set_option maxRecDepth 100000 in
theorem fewq_any {w : World} {v : Value} {l : List Chg} (hv : Chgs w v l) (la : Bool) {r : Bool} (hr : Hid (fewC l 30 = r)) :
    Calls Try.prog 9 #[.agg #[v, .bool la]] w fun e w' => e = .returned (.bool r) ∧ Below w.heap.size w w' := by
  obtain ⟨ao, cap, rfl, hmx⟩ := hv.open'
  have b0 := bl_newZ w (.cells #[.slice ao l.length cap, .bool la] 24)
  have HB := Lib.hid b0
  have V := Lib.hid (hv.later b0)
  clear b0 hv
  go_enter Try.func9, Try.ntmps9
  go_wp2_with fail
  refine (fewc_any V.out 30 hr).mono ?_
  rintro e w1 ⟨rfl, b1⟩
  replace HB := Lib.hid (below2Z HB.out b1)
  clear b1
  go_wp2_with fail
  go_ret
  exact ⟨rfl, HB.out⟩

def quSame (p q : Que) : Bool := (p.la == q.la) && csSame p.l q.l
theorem quSame_self (q : Que) : quSame q q = true := by unfold quSame; rw [csSame_self]; simp

set_option maxHeartbeats 3200000 in
set_option maxRecDepth 100000 in
theorem qusame_any {w : World} {v u : Value} {l m : List Chg} (hv : Chgs w v l) (hu : Chgs w u m) (la lb : Bool) {r : Bool} (hr : Hid (quSame ⟨l, la⟩ ⟨m, lb⟩ = r)) :
    Calls Try.prog 20 #[.agg #[v, .bool la], .agg #[u, .bool lb]] w fun e w' => e = .returned (.bool r) ∧ Below w.heap.size w w' := by
  have hr := hr.out
  unfold quSame at hr
  simp only at hr
  obtain ⟨ao, cap, rfl, hmx⟩ := hv.open'
  obtain ⟨bo, cbp, rfl, hmy⟩ := hu.open'
  have b0 := bl_newZ w (.cells #[.slice ao l.length cap, .bool la] 24)
  have b1 := bl_newZ (w.alloc (.cells #[.slice ao l.length cap, .bool la] 24)) (.cells #[.slice bo m.length cbp, .bool lb] 24)
  have HB := Lib.hid (below2Z b0 b1)
  have V := Lib.hid ((hv.later b0).later b1)
  have U := Lib.hid ((hu.later b0).later b1)
  clear b0 b1 hv hu
  cases hx : (la == lb) with
  | false =>
    rw [hx, Bool.false_and] at hr
    subst hr
    go_enter Try.func20, Try.ntmps20
    go_wp2_with fail
    go_ret
    exact ⟨rfl, HB.out⟩
  | true =>
    rw [hx, Bool.true_and] at hr
    have HS := csame_any V.out U.out
    rw [hr] at HS
    have HS := Lib.hid HS
    clear hr
    go_enter Try.func20, Try.ntmps20
    go_wp2_with fail
    refine HS.out.mono ?_
    rintro e w1 ⟨rfl, b1⟩
    replace HB := Lib.hid (below2Z HB.out b1)
    clear b1
    go_wp2_with fail
    go_ret
    exact ⟨rfl, HB.out⟩

end Go.Proofs.Ythlkfbiclhgdoaa

end

section

/-
  LAYER 17: what is popped, the code's and the document's.
-/
namespace Go.Proofs.Ythlkfbiclhgdoaa
open Go.RowKit

set_option maxHeartbeats 3200000 in
set_option maxRecDepth 100000 in
theorem qupop_no {w : World} {v : Value} {l : List Chg} (hv : Chgs w v l) (la : Bool) (h0 : l = []) :
    Calls Try.prog 16 #[.agg #[v, .bool la]] w fun e w' => e = .returned (.tuple #[.agg #[.string ⟨#[]⟩, .bool false, .int .i64 0, .int .i64 0, .int .i64 0, .string ⟨#[]⟩], .agg #[v, .bool la], .bool false]) ∧ Below w.heap.size w w' := by
  obtain ⟨ao, cap, rfl, _hmx⟩ := hv.open'
  have HW := Lib.hid hv
  have b0 := bl_newZ w (.cells #[.slice ao l.length cap, .bool la] 24)
  have b1 := bl_newZ (w.alloc (.cells #[.slice ao l.length cap, .bool la] 24)) (.cells #[.string ⟨#[]⟩, .bool false, .int .i64 0, .int .i64 0, .int .i64 0, .string ⟨#[]⟩] 33)
  have b2 := bl_newZ ((w.alloc (.cells #[.slice ao l.length cap, .bool la] 24)).alloc (.cells #[.string ⟨#[]⟩, .bool false, .int .i64 0, .int .i64 0, .int .i64 0, .string ⟨#[]⟩] 33)) (.cells #[.slice none 0 0, .bool false] 24)
  have HB := Lib.hid (below2Z (below2Z b0 b1) b2)
  have V := Lib.hid (((hv.later b0).later b1).later b2)
  have A := Lib.hid (upQ (upQ (newQ w (.cells #[.slice ao l.length cap, .bool la] 24)) b1) b2)
  have C := newQ (w.alloc (.cells #[.slice ao l.length cap, .bool la] 24)) (.cells #[.string ⟨#[]⟩, .bool false, .int .i64 0, .int .i64 0, .int .i64 0, .string ⟨#[]⟩] 33)
  rw [World.size_alloc] at C
  replace C := Lib.hid (upQ C b2)
  have R := newQ ((w.alloc (.cells #[.slice ao l.length cap, .bool la] 24)).alloc (.cells #[.string ⟨#[]⟩, .bool false, .int .i64 0, .int .i64 0, .int .i64 0, .string ⟨#[]⟩] 33)) (.cells #[.slice none 0 0, .bool false] 24)
  rw [World.size_alloc, World.size_alloc] at R
  replace R := Lib.hid R
  clear b0 b1 b2 hv
  have hl0 : l.length = 0 := by rw [h0]; rfl
  have t1 : ((l.length : Int) == 0) = true := by rw [hl0]; rfl
  clear h0 hl0
  obtain ⟨⟨q0, q1⟩, f0, f1⟩ := twoQ A.out
  obtain ⟨⟨p0, p1, p2, p3, p4, p5⟩, ⟨s0, s1, s2, s3, s4, s5⟩⟩ := sixQ C.out
  obtain ⟨⟨r0, r1⟩, g0, g1⟩ := twoQ R.out
  go_enter Try.func16, Try.ntmps16
  go_wp2_with fail
  go_region
  go_wp2_with fail
  refine bodyPost_ret (v := .tuple #[.agg #[.string ⟨#[]⟩, .bool false, .int .i64 0, .int .i64 0, .int .i64 0, .string ⟨#[]⟩], .agg #[.slice ao l.length cap, .bool la], .bool false]) (by simp [results, Try.results16, go_sem]) rfl ⟨rfl, ?_⟩
  exact ((((Below.refl _ _).alloc (Nat.le_refl _) _).alloc (by simp) _).alloc (by simp; omega) _).drew

set_option maxHeartbeats 3200000 in
set_option maxRecDepth 100000 in
theorem qupop_yes {w : World} {v : Value} {l : List Chg} (hv : Chgs w v l) (hl : l.length ≤ 1000) (la : Bool) (hpos : 1 ≤ l.length) {c st : List UInt8} {on : Bool} {a b d : Int} (hg : l.getD 0 Chg.zero = ⟨c, on, ⟨a, b, d, st⟩⟩) :
    Calls Try.prog 16 #[.agg #[v, .bool la]] w fun e w' => ∃ u, e = .returned (.tuple #[.agg #[.string ⟨c.toArray⟩, .bool on, .int .i64 a, .int .i64 b, .int .i64 d, .string ⟨st.toArray⟩], .agg #[u, .bool la], .bool true]) ∧ Chgs w' u (l.drop 1) ∧ Below w.heap.size w w' := by
  obtain ⟨ao, cap, rfl, _hmx⟩ := hv.open'
  have HW := Lib.hid hv
  have b0 := bl_newZ w (.cells #[.slice ao l.length cap, .bool la] 24)
  have b1 := bl_newZ (w.alloc (.cells #[.slice ao l.length cap, .bool la] 24)) (.cells #[.string ⟨#[]⟩, .bool false, .int .i64 0, .int .i64 0, .int .i64 0, .string ⟨#[]⟩] 33)
  have b2 := bl_newZ ((w.alloc (.cells #[.slice ao l.length cap, .bool la] 24)).alloc (.cells #[.string ⟨#[]⟩, .bool false, .int .i64 0, .int .i64 0, .int .i64 0, .string ⟨#[]⟩] 33)) (.cells #[.slice none 0 0, .bool false] 24)
  have HB := Lib.hid (below2Z (below2Z b0 b1) b2)
  have V := Lib.hid (((hv.later b0).later b1).later b2)
  have A := Lib.hid (upQ (upQ (newQ w (.cells #[.slice ao l.length cap, .bool la] 24)) b1) b2)
  have C := newQ (w.alloc (.cells #[.slice ao l.length cap, .bool la] 24)) (.cells #[.string ⟨#[]⟩, .bool false, .int .i64 0, .int .i64 0, .int .i64 0, .string ⟨#[]⟩] 33)
  rw [World.size_alloc] at C
  replace C := Lib.hid (upQ C b2)
  have R := newQ ((w.alloc (.cells #[.slice ao l.length cap, .bool la] 24)).alloc (.cells #[.string ⟨#[]⟩, .bool false, .int .i64 0, .int .i64 0, .int .i64 0, .string ⟨#[]⟩] 33)) (.cells #[.slice none 0 0, .bool false] 24)
  rw [World.size_alloc, World.size_alloc] at R
  replace R := Lib.hid R
  clear b0 b1 b2 hv
  have t1 : ((l.length : Int) == 0) = false := by rw [beq_eq_false_iff_ne]; omega
  obtain ⟨bk, off, rfl, h0, h1, h2, h3, h4, h5⟩ := V.out.row (Below.refl _ _) 0 hpos
  rw [hg] at h0 h1 h2 h3 h4 h5
  simp only [Nat.zero_mul, Nat.add_zero] at h0 h1 h2 h3 h4 h5
  have hsl := fun w => run_slice_from_S chgOK w ⟨bk, off, none⟩ l.length cap 1 1 rfl hpos
  have VT := Lib.hid (RdS.tail V.out.rdS (by decide) 1 hpos)
  have VW := Lib.hid (RdS.tail HW.out.rdS (by decide) 1 hpos)
  obtain ⟨ad, had⟩ : ∃ ad, (if cap = 1 then (⟨bk, off, none⟩ : Addr) else (⟨bk, off, none⟩ : Addr).add (1 * 6)) = ad := ⟨_, rfl⟩
  rw [had] at VT VW
  simp only [had] at hsl
  have HG := Lib.hid hg
  clear had hg
  obtain ⟨⟨q0, q1⟩, f0, f1⟩ := twoQ A.out
  obtain ⟨⟨p0, p1, p2, p3, p4, p5⟩, ⟨s0, s1, s2, s3, s4, s5⟩⟩ := sixQ C.out
  obtain ⟨⟨r0, r1⟩, g0, g1⟩ := twoQ R.out
  go_enter Try.func16, Try.ntmps16
  go_upto_region 4 with fail
  clear q0 q1 f0 f1 p0 p1 p2 p3 p4 p5 s0 s1 s2 s3 s4 s5 r0 r1 g0 g1 h0 h1 h2 h3 h4 h5
  have D := newQ (((w.alloc (.cells #[.slice (some ⟨bk, off, none⟩) l.length cap, .bool la] 24)).alloc (.cells #[.string ⟨#[]⟩, .bool false, .int .i64 0, .int .i64 0, .int .i64 0, .string ⟨#[]⟩] 33)).alloc (.cells #[.slice none 0 0, .bool false] 24)) (.cells #[.string ⟨c.toArray⟩, .bool on, .int .i64 a, .int .i64 b, .int .i64 d, .string ⟨st.toArray⟩] 33)
  rw [World.size_alloc, World.size_alloc, World.size_alloc] at D
  replace D := Lib.hid D
  have b3 := bl_newZ (((w.alloc (.cells #[.slice (some ⟨bk, off, none⟩) l.length cap, .bool la] 24)).alloc (.cells #[.string ⟨#[]⟩, .bool false, .int .i64 0, .int .i64 0, .int .i64 0, .string ⟨#[]⟩] 33)).alloc (.cells #[.slice none 0 0, .bool false] 24)) (.cells #[.string ⟨c.toArray⟩, .bool on, .int .i64 a, .int .i64 b, .int .i64 d, .string ⟨st.toArray⟩] 33)
  replace A := Lib.hid (upQ A.out b3)
  replace C := Lib.hid (upQ C.out b3)
  replace R := Lib.hid (upQ R.out b3)
  replace VT := Lib.hid (RdS.later VT.out b3)
  replace HB := Lib.hid (below2Z HB.out b3)
  clear b3 V
  generalize (((w.alloc (.cells #[.slice (some ⟨bk, off, none⟩) l.length cap, .bool la] 24)).alloc (.cells #[.string ⟨#[]⟩, .bool false, .int .i64 0, .int .i64 0, .int .i64 0, .string ⟨#[]⟩] 33)).alloc (.cells #[.slice none 0 0, .bool false] 24)).alloc (.cells #[.string ⟨c.toArray⟩, .bool on, .int .i64 a, .int .i64 b, .int .i64 d, .string ⟨st.toArray⟩] 33) = W1 at A C R D VT HB ⊢
  have hA := (Array.getElem?_eq_some_iff.1 A.out).1
  have hC := (Array.getElem?_eq_some_iff.1 C.out).1
  have hR := (Array.getElem?_eq_some_iff.1 R.out).1
  obtain ⟨⟨q0, q1⟩, f0, f1⟩ := twoQ A.out
  go_wp2_with fail
  clear q0 q1 f0 f1
  refine (chg_clone VT.out (by rw [List.length_drop]; omega)).mono ?_
  rintro e w2 ⟨u, rfl, ho, b2⟩
  replace A := Lib.hid (upQ A.out b2)
  replace C := Lib.hid (upQ C.out b2)
  replace R := Lib.hid (upQ R.out b2)
  replace D := Lib.hid (upQ D.out b2)
  replace HB := Lib.hid (below2Z HB.out b2)
  clear b2 VT hsl
  obtain ⟨ga, cg, rfl⟩ := ownQ_shape ho
  obtain ⟨n1, hn1⟩ : ∃ n, (l.drop 1).length = n := ⟨_, rfl⟩
  rw [hn1] at ho ⊢
  have O := Lib.hid ho
  clear ho hn1
  obtain ⟨⟨q0, q1⟩, f0, f1⟩ := twoQ A.out
  go_upto_region 5 with fail
  have A3 := Lib.hid (show _ = some (Obj.cells #[.slice ga n1 cg, .bool la] 24 (0, 0)) from heap_setCell_same w2 w.heap.size 0 _ _ (.slice ga n1 cg) A.out)
  have C3 := Lib.hid ((Below.heap_setCell w2 ⟨w.heap.size, 0, none⟩ (.slice ga n1 cg) (w.heap.size + 1) (by show ¬ w.heap.size + 1 = w.heap.size; omega)).trans C.out)
  have R3 := Lib.hid ((Below.heap_setCell w2 ⟨w.heap.size, 0, none⟩ (.slice ga n1 cg) (w.heap.size + 1 + 1) (by show ¬ w.heap.size + 1 + 1 = w.heap.size; omega)).trans R.out)
  have D3 := Lib.hid ((Below.heap_setCell w2 ⟨w.heap.size, 0, none⟩ (.slice ga n1 cg) (w.heap.size + 1 + 1 + 1) (by show ¬ w.heap.size + 1 + 1 + 1 = w.heap.size; omega)).trans D.out)
  have O3 := Lib.hid (ownQ_other O.out hA 0 (.slice ga n1 cg))
  have HB3 := Lib.hid (HB.out.setCell (p := ⟨w.heap.size, 0, none⟩) (Nat.le_refl _) (.slice ga n1 cg))
  clear A C R D O HB q0 q1 f0 f1
  generalize w2.setCell ⟨w.heap.size, 0, none⟩ (.slice ga n1 cg) = W3 at A3 C3 R3 D3 O3 HB3 ⊢
  obtain ⟨⟨q0, q1⟩, f0, f1⟩ := twoQ A3.out
  obtain ⟨⟨p0, p1, p2, p3, p4, p5⟩, ⟨s0, s1, s2, s3, s4, s5⟩⟩ := sixQ C3.out
  obtain ⟨⟨r0, r1⟩, g0, g1⟩ := twoQ R3.out
  obtain ⟨⟨m0, m1, m2, m3, m4, m5⟩, ⟨k0, k1, k2, k3, k4, k5⟩⟩ := sixQ D3.out
  go_wp2_with fail
  go_region
  go_wp2_with fail
  have hle1 : w.heap.size ≤ w.heap.size + 1 := by omega
  have hle2 : w.heap.size ≤ w.heap.size + 1 + 1 := by omega
  refine bodyPost_ret (v := .tuple #[.agg #[.string ⟨c.toArray⟩, .bool on, .int .i64 a, .int .i64 b, .int .i64 d, .string ⟨st.toArray⟩], .agg #[.slice ga n1 cg, .bool la], .bool true]) (by simp [results, Try.results16, go_sem, p0, p1, p2, p3, p4, p5, r0, r1]) rfl ⟨_, rfl, ?_, ?_⟩
  · exact OwnQ.chgs (OwnS.drew (ownQ_other (ownQ_other (ownQ_other (ownQ_other (ownQ_other (ownQ_other (ownQ_other (ownQ_other O3.out hC _ _) hC _ _) hC _ _) hC _ _) hC _ _) hC _ _) hR _ _) hR _ _))
  · exact ((store6Q HB3.out hle1 0 1 2 3 4 5 _ _ _ _ _ _).setCell hle2 _ |>.setCell hle2 _).drew

set_option maxHeartbeats 3200000 in
set_option maxRecDepth 100000 in
theorem rqupop_no {w : World} {v : Value} {l : List Chg} (hv : Chgs w v l) (la : Bool) (h0 : l = []) :
    Calls Try.prog 17 #[.agg #[v, .bool la]] w fun e w' => e = .returned (.tuple #[.agg #[.string ⟨#[]⟩, .bool false, .int .i64 0, .int .i64 0, .int .i64 0, .string ⟨#[]⟩], .agg #[v, .bool la], .bool false]) ∧ Below w.heap.size w w' := by
  obtain ⟨ao, cap, rfl, _hmx⟩ := hv.open'
  have HW := Lib.hid hv
  have b0 := bl_newZ w (.cells #[.slice ao l.length cap, .bool la] 24)
  have b1 := bl_newZ (w.alloc (.cells #[.slice ao l.length cap, .bool la] 24)) (.cells #[.string ⟨#[]⟩, .bool false, .int .i64 0, .int .i64 0, .int .i64 0, .string ⟨#[]⟩] 33)
  have b2 := bl_newZ ((w.alloc (.cells #[.slice ao l.length cap, .bool la] 24)).alloc (.cells #[.string ⟨#[]⟩, .bool false, .int .i64 0, .int .i64 0, .int .i64 0, .string ⟨#[]⟩] 33)) (.cells #[.slice none 0 0, .bool false] 24)
  have HB := Lib.hid (below2Z (below2Z b0 b1) b2)
  have V := Lib.hid (((hv.later b0).later b1).later b2)
  have A := Lib.hid (upQ (upQ (newQ w (.cells #[.slice ao l.length cap, .bool la] 24)) b1) b2)
  have C := newQ (w.alloc (.cells #[.slice ao l.length cap, .bool la] 24)) (.cells #[.string ⟨#[]⟩, .bool false, .int .i64 0, .int .i64 0, .int .i64 0, .string ⟨#[]⟩] 33)
  rw [World.size_alloc] at C
  replace C := Lib.hid (upQ C b2)
  have R := newQ ((w.alloc (.cells #[.slice ao l.length cap, .bool la] 24)).alloc (.cells #[.string ⟨#[]⟩, .bool false, .int .i64 0, .int .i64 0, .int .i64 0, .string ⟨#[]⟩] 33)) (.cells #[.slice none 0 0, .bool false] 24)
  rw [World.size_alloc, World.size_alloc] at R
  replace R := Lib.hid R
  clear b0 b1 b2 hv
  have hl0 : l.length = 0 := by rw [h0]; rfl
  have t1 : ((l.length : Int) == 0) = true := by rw [hl0]; rfl
  clear h0 hl0
  obtain ⟨⟨q0, q1⟩, f0, f1⟩ := twoQ A.out
  obtain ⟨⟨p0, p1, p2, p3, p4, p5⟩, ⟨s0, s1, s2, s3, s4, s5⟩⟩ := sixQ C.out
  obtain ⟨⟨r0, r1⟩, g0, g1⟩ := twoQ R.out
  go_enter Try.func17, Try.ntmps17
  go_wp2_with fail
  go_region
  go_wp2_with fail
  refine bodyPost_ret (v := .tuple #[.agg #[.string ⟨#[]⟩, .bool false, .int .i64 0, .int .i64 0, .int .i64 0, .string ⟨#[]⟩], .agg #[.slice ao l.length cap, .bool la], .bool false]) (by simp [results, Try.results17, go_sem]) rfl ⟨rfl, ?_⟩
  exact ((((Below.refl _ _).alloc (Nat.le_refl _) _).alloc (by simp) _).alloc (by simp; omega) _).drew

set_option maxHeartbeats 3200000 in
set_option maxRecDepth 100000 in
theorem rqupop_yes {w : World} {v : Value} {l : List Chg} (hv : Chgs w v l) (la : Bool) (hpos : 1 ≤ l.length) {c st : List UInt8} {on : Bool} {a b d : Int} (hg : l.getD 0 Chg.zero = ⟨c, on, ⟨a, b, d, st⟩⟩) :
    Calls Try.prog 17 #[.agg #[v, .bool la]] w fun e w' => ∃ u, e = .returned (.tuple #[.agg #[.string ⟨c.toArray⟩, .bool on, .int .i64 a, .int .i64 b, .int .i64 d, .string ⟨st.toArray⟩], .agg #[u, .bool la], .bool true]) ∧ Chgs w' u (l.drop 1) ∧ Below w.heap.size w w' := by
  obtain ⟨ao, cap, rfl, _hmx⟩ := hv.open'
  have HW := Lib.hid hv
  have b0 := bl_newZ w (.cells #[.slice ao l.length cap, .bool la] 24)
  have b1 := bl_newZ (w.alloc (.cells #[.slice ao l.length cap, .bool la] 24)) (.cells #[.string ⟨#[]⟩, .bool false, .int .i64 0, .int .i64 0, .int .i64 0, .string ⟨#[]⟩] 33)
  have b2 := bl_newZ ((w.alloc (.cells #[.slice ao l.length cap, .bool la] 24)).alloc (.cells #[.string ⟨#[]⟩, .bool false, .int .i64 0, .int .i64 0, .int .i64 0, .string ⟨#[]⟩] 33)) (.cells #[.slice none 0 0, .bool false] 24)
  have HB := Lib.hid (below2Z (below2Z b0 b1) b2)
  have V := Lib.hid (((hv.later b0).later b1).later b2)
  have A := Lib.hid (upQ (upQ (newQ w (.cells #[.slice ao l.length cap, .bool la] 24)) b1) b2)
  have C := newQ (w.alloc (.cells #[.slice ao l.length cap, .bool la] 24)) (.cells #[.string ⟨#[]⟩, .bool false, .int .i64 0, .int .i64 0, .int .i64 0, .string ⟨#[]⟩] 33)
  rw [World.size_alloc] at C
  replace C := Lib.hid (upQ C b2)
  have R := newQ ((w.alloc (.cells #[.slice ao l.length cap, .bool la] 24)).alloc (.cells #[.string ⟨#[]⟩, .bool false, .int .i64 0, .int .i64 0, .int .i64 0, .string ⟨#[]⟩] 33)) (.cells #[.slice none 0 0, .bool false] 24)
  rw [World.size_alloc, World.size_alloc] at R
  replace R := Lib.hid R
  clear b0 b1 b2 hv
  have t1 : ((l.length : Int) == 0) = false := by rw [beq_eq_false_iff_ne]; omega
  obtain ⟨bk, off, rfl, h0, h1, h2, h3, h4, h5⟩ := V.out.row (Below.refl _ _) 0 hpos
  rw [hg] at h0 h1 h2 h3 h4 h5
  simp only [Nat.zero_mul, Nat.add_zero] at h0 h1 h2 h3 h4 h5
  have hsl := fun w => run_slice_from_S chgOK w ⟨bk, off, none⟩ l.length cap 1 1 rfl hpos
  have VT := Lib.hid (RdS.tail V.out.rdS (by decide) 1 hpos)
  have VW := Lib.hid (RdS.tail HW.out.rdS (by decide) 1 hpos)
  obtain ⟨ad, had⟩ : ∃ ad, (if cap = 1 then (⟨bk, off, none⟩ : Addr) else (⟨bk, off, none⟩ : Addr).add (1 * 6)) = ad := ⟨_, rfl⟩
  rw [had] at VT VW
  simp only [had] at hsl
  have HG := Lib.hid hg
  clear had hg
  obtain ⟨⟨q0, q1⟩, f0, f1⟩ := twoQ A.out
  obtain ⟨⟨p0, p1, p2, p3, p4, p5⟩, ⟨s0, s1, s2, s3, s4, s5⟩⟩ := sixQ C.out
  obtain ⟨⟨r0, r1⟩, g0, g1⟩ := twoQ R.out
  go_enter Try.func17, Try.ntmps17
  go_upto_region 3 with fail
  clear q0 q1 f0 f1 p0 p1 p2 p3 p4 p5 s0 s1 s2 s3 s4 s5 r0 r1 g0 g1 h0 h1 h2 h3 h4 h5
  generalize ((w.alloc (.cells #[.slice (some ⟨bk, off, none⟩) l.length cap, .bool la] 24)).alloc (.cells #[.string ⟨#[]⟩, .bool false, .int .i64 0, .int .i64 0, .int .i64 0, .string ⟨#[]⟩] 33)).alloc (.cells #[.slice none 0 0, .bool false] 24) = W1 at A C R V VT HB ⊢
  have hA := (Array.getElem?_eq_some_iff.1 A.out).1
  have hC := (Array.getElem?_eq_some_iff.1 C.out).1
  have hR := (Array.getElem?_eq_some_iff.1 R.out).1
  obtain ⟨bk', off', e', h0, h1, h2, h3, h4, h5⟩ := V.out.row (Below.refl _ _) 0 hpos
  rw [HG.out] at h0 h1 h2 h3 h4 h5
  simp only [Nat.zero_mul, Nat.add_zero] at h0 h1 h2 h3 h4 h5
  simp only [Option.some.injEq, Addr.mk.injEq, and_true] at e'
  obtain ⟨rfl, rfl⟩ := e'
  obtain ⟨⟨q0, q1⟩, f0, f1⟩ := twoQ A.out
  obtain ⟨⟨p0, p1, p2, p3, p4, p5⟩, ⟨s0, s1, s2, s3, s4, s5⟩⟩ := sixQ C.out
  obtain ⟨⟨r0, r1⟩, g0, g1⟩ := twoQ R.out
  go_wp2_with fail
  go_region
  go_wp2_with fail
  have hle1 : w.heap.size ≤ w.heap.size + 1 := by omega
  have hle2 : w.heap.size ≤ w.heap.size + 1 + 1 := by omega
  refine bodyPost_ret (v := .tuple #[.agg #[.string ⟨c.toArray⟩, .bool on, .int .i64 a, .int .i64 b, .int .i64 d, .string ⟨st.toArray⟩], .agg #[.slice (some ad) (l.length - 1) (cap - 1), .bool la], .bool true]) (by simp [results, Try.results17, go_sem, p0, p1, p2, p3, p4, p5, r0, r1]) rfl ⟨_, rfl, ?_, ?_⟩
  · exact chgs_of (RdS.later VW.out (Below.drew (((store6Q HB.out hle1 0 1 2 3 4 5 _ _ _ _ _ _).setCell hle2 _).setCell hle2 _)))
  · exact Below.drew (((store6Q HB.out hle1 0 1 2 3 4 5 _ _ _ _ _ _).setCell hle2 _).setCell hle2 _)

theorem qupop_any {w : World} {v : Value} {l : List Chg} (hv : Chgs w v l) (hl : l.length ≤ 1000) (la : Bool) {c st : List UInt8} {on k : Bool} {a b d : Int} {ql : List Chg} {qa : Bool} (hr : Hid (quPop ⟨l, la⟩ = (⟨c, on, ⟨a, b, d, st⟩⟩, ⟨ql, qa⟩, k))) :
    Calls Try.prog 16 #[.agg #[v, .bool la]] w fun e w' => ∃ u, e = .returned (.tuple #[.agg #[.string ⟨c.toArray⟩, .bool on, .int .i64 a, .int .i64 b, .int .i64 d, .string ⟨st.toArray⟩], .agg #[u, .bool qa], .bool k]) ∧ Chgs w' u ql ∧ Below w.heap.size w w' := by
  have hr := hr.out
  unfold quPop at hr
  cases l with
  | nil =>
    simp only [Prod.mk.injEq, Que.mk.injEq, Chg.nought, Chg.mk.injEq, Val.zero, Val.mk.injEq] at hr
    obtain ⟨⟨rfl, rfl, rfl, rfl, rfl, rfl⟩, ⟨rfl, rfl⟩, rfl⟩ := hr
    exact (qupop_no hv la rfl).mono fun e w' ⟨he, hb⟩ => ⟨v, he, hv.later hb, hb⟩
  | cons x l =>
    simp only [Prod.mk.injEq, Que.mk.injEq] at hr
    obtain ⟨hx, ⟨rfl, rfl⟩, rfl⟩ := hr
    exact qupop_yes hv hl la (by simp) (by rw [← hx]; rfl)

theorem rqupop_any {w : World} {v : Value} {l : List Chg} (hv : Chgs w v l) (_hl : l.length ≤ 1000) (la : Bool) {c st : List UInt8} {on k : Bool} {a b d : Int} {ql : List Chg} {qa : Bool} (hr : Hid (quPop ⟨l, la⟩ = (⟨c, on, ⟨a, b, d, st⟩⟩, ⟨ql, qa⟩, k))) :
    Calls Try.prog 17 #[.agg #[v, .bool la]] w fun e w' => ∃ u, e = .returned (.tuple #[.agg #[.string ⟨c.toArray⟩, .bool on, .int .i64 a, .int .i64 b, .int .i64 d, .string ⟨st.toArray⟩], .agg #[u, .bool qa], .bool k]) ∧ Chgs w' u ql ∧ Below w.heap.size w w' := by
  have hr := hr.out
  unfold quPop at hr
  cases l with
  | nil =>
    simp only [Prod.mk.injEq, Que.mk.injEq, Chg.nought, Chg.mk.injEq, Val.zero, Val.mk.injEq] at hr
    obtain ⟨⟨rfl, rfl, rfl, rfl, rfl, rfl⟩, ⟨rfl, rfl⟩, rfl⟩ := hr
    exact (rqupop_no hv la rfl).mono fun e w' ⟨he, hb⟩ => ⟨v, he, hv.later hb, hb⟩
  | cons x l =>
    simp only [Prod.mk.injEq, Que.mk.injEq] at hr
    obtain ⟨hx, ⟨rfl, rfl⟩, rfl⟩ := hr
    exact rqupop_yes hv la (by simp) (by rw [← hx]; rfl)

end Go.Proofs.Ythlkfbiclhgdoaa

end

section

/-
  A FEW BLOCKS THAT A DRAWN REGION READS, KEPT THROUGH ITS CALLS: over any program.
-/
namespace Go.Proofs.Ythlkfbiclhgdoaa
open Go.RowKit

/-- Each block's cells, from the first one on. -/
def heldB (X : World) (bs : List (Nat × List Value)) : Prop := ∀ p ∈ bs, CellsAt X p.1 0 p.2

theorem heldB_nil (X : World) : heldB X [] := fun p h => by cases h
theorem heldB_cons {X : World} {b : Nat} {vs : List Value} {bs : List (Nat × List Value)} (h : CellsAt X b 0 vs) (ht : heldB X bs) : heldB X ((b, vs) :: bs) := fun p hp => by
  rcases List.mem_cons.1 hp with rfl | hp
  · exact h
  · exact ht p hp
theorem heldB_up {W X : World} {bs : List (Nat × List Value)} (hb : Below W.heap.size W X) (h : heldB W bs) : heldB X bs := fun p hp => (h p hp).later hb
theorem heldB_get {X : World} {bs : List (Nat × List Value)} (h : heldB X bs) {b : Nat} {vs : List Value} {i : Nat} {v : Value} (hm : (b, vs) ∈ bs) (hi : vs[i]? = some v) : X.cell? ⟨b, i, none⟩ = some v := by
  have := h _ hm i v hi
  rwa [Nat.zero_add] at this

/-- A block known whole. -/
theorem cellsAt_block {X : World} {b : Nat} {cs : Array Value} {T : TypeId} (h : X.heap[b]? = some (.cells cs T (0, 0))) : CellsAt X b 0 cs.toList := by
  intro j u hu
  have hj : cs[j]? = some u := by rw [← hu]; simp
  rw [Nat.zero_add]
  unfold World.cell?
  rw [h]
  simpa using hj

end Go.Proofs.Ythlkfbiclhgdoaa

end
