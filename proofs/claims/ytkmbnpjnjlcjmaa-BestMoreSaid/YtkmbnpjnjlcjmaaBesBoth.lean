/-
  LAYER 11: the code's and the document's answers, of any sessions, side by side.
-/
import Derived.Test.YtkmbnpjnjlcjmaaBesLive
namespace Go.Proofs.Ytkmbnpjnjlcjmaa
open Go.RowKit

/-- The best one, or the zero one. -/
def bestB (l : List Ses) : Ses := if l = [] then Ses.zero else besOf l
/-- The presence, or the zero one. -/
def valB (l : List Ses) : Val := if l = [] then Val.zero else besV l
def someB (l : List Ses) : Bool := decide (l ≠ [])

def sesAggB (s : Ses) : Value := .agg #[.string ⟨s.u.toArray⟩, .int .i64 s.id, .int .i64 s.v.sh, .int .i64 s.v.pr, .int .i64 s.v.si, .string ⟨s.v.st.toArray⟩]
def valAggB (v : Val) : Value := .agg #[.int .i64 v.sh, .int .i64 v.pr, .int .i64 v.si, .string ⟨v.st.toArray⟩]

theorem bbest_any {w : World} {v : Value} {l : List Ses} (hv : Sess w v l) (hf : ∀ s ∈ l, SesFit s) {n st : List UInt8} {i a b c : Int} (hr : bestB l = ⟨n, i, ⟨a, b, c, st⟩⟩) {x : Bool} (hx : someB l = x) :
    Calls Try.prog 64 #[v] w fun e w' => e = .returned (.tuple #[.agg #[.string ⟨n.toArray⟩, .int .i64 i, .int .i64 a, .int .i64 b, .int .i64 c, .string ⟨st.toArray⟩], .bool x]) ∧ Below w.heap.size w w' := by
  by_cases h : l = []
  · subst h
    unfold bestB Ses.zero Val.zero at hr
    rw [if_pos rfl, Ses.mk.injEq, Val.mk.injEq] at hr
    obtain ⟨rfl, rfl, rfl, rfl, rfl, rfl⟩ := hr
    obtain rfl : false = x := by rw [← hx]; rfl
    exact best_no hv
  · unfold bestB at hr
    rw [if_neg h] at hr
    obtain rfl : true = x := by rw [← hx]; unfold someB; simp [h]
    exact best_yes hv hf (List.length_pos_iff.2 h) hr

theorem rbest_any {w : World} {v : Value} {l : List Ses} (hv : Sess w v l) {n st : List UInt8} {i a b c : Int} (hr : bestB l = ⟨n, i, ⟨a, b, c, st⟩⟩) {x : Bool} (hx : someB l = x) :
    Calls Try.prog 102 #[v] w fun e w' => e = .returned (.tuple #[.agg #[.string ⟨n.toArray⟩, .int .i64 i, .int .i64 a, .int .i64 b, .int .i64 c, .string ⟨st.toArray⟩], .bool x]) ∧ Below w.heap.size w w' := by
  by_cases h : l = []
  · subst h
    unfold bestB Ses.zero Val.zero at hr
    rw [if_pos rfl, Ses.mk.injEq, Val.mk.injEq] at hr
    obtain ⟨rfl, rfl, rfl, rfl, rfl, rfl⟩ := hr
    obtain rfl : false = x := by rw [← hx]; rfl
    exact rbest_no hv
  · unfold bestB at hr
    rw [if_neg h] at hr
    obtain rfl : true = x := by rw [← hx]; unfold someB; simp [h]
    exact rbest_yes hv (List.length_pos_iff.2 h) hr

theorem bvalue_any {w : World} {v : Value} {l : List Ses} (hv : Sess w v l) (hf : ∀ s ∈ l, SesFit s) {st : List UInt8} {a b c : Int} (hr : valB l = ⟨a, b, c, st⟩) {x : Bool} (hx : someB l = x) :
    Calls Try.prog 32 #[v] w fun e w' => e = .returned (.tuple #[.agg #[.int .i64 a, .int .i64 b, .int .i64 c, .string ⟨st.toArray⟩], .bool x]) ∧ Below w.heap.size w w' := by
  by_cases h : l = []
  · subst h
    unfold valB Val.zero at hr
    rw [if_pos rfl, Val.mk.injEq] at hr
    obtain ⟨rfl, rfl, rfl, rfl⟩ := hr
    obtain rfl : false = x := by rw [← hx]; rfl
    exact bvalue_no hv
  · unfold valB at hr
    rw [if_neg h] at hr
    obtain rfl : true = x := by rw [← hx]; unfold someB; simp [h]
    exact bvalue_yes hv hf (List.length_pos_iff.2 h) hr

theorem rbvalue_any {w : World} {v : Value} {l : List Ses} (hv : Sess w v l) {st : List UInt8} {a b c : Int} (hr : valB l = ⟨a, b, c, st⟩) {x : Bool} (hx : someB l = x) :
    Calls Try.prog 75 #[v] w fun e w' => e = .returned (.tuple #[.agg #[.int .i64 a, .int .i64 b, .int .i64 c, .string ⟨st.toArray⟩], .bool x]) ∧ Below w.heap.size w w' := by
  by_cases h : l = []
  · subst h
    unfold valB Val.zero at hr
    rw [if_pos rfl, Val.mk.injEq] at hr
    obtain ⟨rfl, rfl, rfl, rfl⟩ := hr
    obtain rfl : false = x := by rw [← hx]; rfl
    exact rbvalue_no hv
  · unfold valB at hr
    rw [if_neg h] at hr
    obtain rfl : true = x := by rw [← hx]; unfold someB; simp [h]
    exact rbvalue_yes hv (List.length_pos_iff.2 h) hr

theorem cells4v {w : World} {b o : Nat} {a b' c : Int} {st : List UInt8} (h : CellsAt w b o [.int .i64 a, .int .i64 b', .int .i64 c, .string ⟨st.toArray⟩]) :
    w.cell? ⟨b, o, none⟩ = some (.int .i64 a) ∧ w.cell? ⟨b, o + 1, none⟩ = some (.int .i64 b') ∧ w.cell? ⟨b, o + 2, none⟩ = some (.int .i64 c) ∧ w.cell? ⟨b, o + 3, none⟩ = some (.string ⟨st.toArray⟩) :=
  ⟨h 0 _ rfl, h 1 _ rfl, h 2 _ rfl, h 3 _ rfl⟩

end Go.Proofs.Ytkmbnpjnjlcjmaa
