/-
  LAYER 10: calls of a heap that came in, and the heap on which they were called.
-/
import Derived.Test.YtkmbnpjnjlcjmaaHeaAbs
namespace Go.Proofs.Ytkmbnpjnjlcjmaa
open Go.RowKit

structure HOp where
  act : Int
  id : Int
  r0 : Int
  r1 : Int
  r2 : Int

def HOp.zero : HOp := ⟨0, 0, 0, 0, 0⟩
def HOp.sl (o : HOp) : Sl := ⟨o.id, o.r0, o.r1, o.r2⟩

def opVals (o : HOp) : List Value := [.int .i64 o.act, .int .i64 o.id, .int .i64 o.r0, .int .i64 o.r1, .int .i64 o.r2]

theorem cells5o {w : World} {b o : Nat} {s : HOp} (h : CellsAt w b o (opVals s)) :
    w.cell? ⟨b, o, none⟩ = some (.int .i64 s.act) ∧ w.cell? ⟨b, o + 1, none⟩ = some (.int .i64 s.id) ∧ w.cell? ⟨b, o + 2, none⟩ = some (.int .i64 s.r0) ∧ w.cell? ⟨b, o + 3, none⟩ = some (.int .i64 s.r1) ∧ w.cell? ⟨b, o + 4, none⟩ = some (.int .i64 s.r2) :=
  ⟨h 0 _ rfl, h 1 _ rfl, h 2 _ rfl, h 3 _ rfl, h 4 _ rfl⟩

/-- Calls that came in: their slice may be read, and lies below 'base'. -/
def OpsAt (w : World) (v : Value) (l : List HOp) : Prop := RdS opVals 5 HOp.zero w v l ∧ ∀ o ∈ l, (Lit.int .i64 o.id).wf = true

/-- What a call makes of the slots. -/
def stepS (L : List Sl) (o : HOp) : List Sl := if o.act = 1 then slDel L o.id else slPut L o.sl

def runS (l : List HOp) : List Sl := l.foldl stepS []

theorem runS_next {l : List HOp} {k : Nat} (hk : k < l.length) : runS (l.take (k + 1)) = stepS (runS (l.take k)) (l.getD k HOp.zero) := by
  unfold runS
  rw [List.take_succ_eq_append_getElem hk, List.foldl_append]
  rw [List.getD_eq_getElem?_getD, List.getElem?_eq_getElem hk]
  rfl

theorem stepS_len (L : List Sl) (o : HOp) : (stepS L o).length ≤ L.length + 1 := by
  unfold stepS
  split
  · exact Nat.le_succ_of_le (List.length_filter_le _ _)
  · rw [slPut_len]; split <;> omega

theorem RdS.below {α : Type} {vals : α → List Value} {sz : Nat} {zero : α} {w w' : World} {v : Value} {l : List α} (h : RdS vals sz zero w v l) (hb : Below w.heap.size w w') : RdS vals sz zero w' v l := h.later hb

end Go.Proofs.Ytkmbnpjnjlcjmaa
