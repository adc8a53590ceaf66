/-
  TEXTS OF THE PROOF, one behind the other: ValPut.
-/
import Derived.Test.YtphfinlfabklmaaGreatA19
import Derived.Deep.RegionHeld

/-
  THE CONTRACTS OF value.Put AND OF THE DOCUMENT'S ANSWER TO IT.
-/
namespace Go.Proofs.YtphfinlfabklmaaGreat
open Go.RowKit
attribute [local go_sem] ByteArray.mk_append_mk

/-- What Put tells. -/
def vaPut (v : Val) : List UInt8 := if vaMay v = true then vaBytes v else []

theorem cell_later {w w' : World} {a : Addr} {v : Value} (h : w.cell? a = some v) (hb : Below w.heap.size w w') : w'.cell? a = some v :=
  (hb.cell (World.block_lt_of_cell? w a h)).trans h

theorem may_eq (a b c : Int) (l : List UInt8) (hl : l.length ≤ 4294967296) {r : Bool} (h : Hid (vaMay ⟨a, b, c, l⟩ = r)) (w : World) :
    Calls Tryz.prog 78 #[.agg #[.int .i64 a, .int .i64 b, .int .i64 c, .string ⟨l.toArray⟩]] w fun e w' => e = .returned (.bool r) ∧ Below w.heap.size w w' := by
  have := may_any a b c l hl w
  rwa [h.out] at this

theorem bl_alloc {w a : World} (h : Below w.heap.size w a) (o : Obj) : Below w.heap.size w (a.alloc o) := h.alloc h.size o

end Go.Proofs.YtphfinlfabklmaaGreat
