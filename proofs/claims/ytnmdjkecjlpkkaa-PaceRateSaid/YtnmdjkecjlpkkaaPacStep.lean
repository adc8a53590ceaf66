/-
  LAYER 16: a bucket in a block that is stored anew; ints that came in.
-/
import Derived.Test.YtnmdjkecjlpkkaaPacLive
import Derived.Test.YtnmdjkecjlpkkaaPacFrame
import Derived.BigQuiet
import Derived.Lib.QuietBelow
namespace Go.Proofs.Ytnmdjkecjlpkkaa
open Go.RowKit

theorem heap_set_otherP {w : World} {b c : Nat} {o : Obj} (h : w.heap[b]? = some o) (hne : c ≠ b) (j : Nat) (v : Value) : (w.setCell ⟨c, j, none⟩ v).heap[b]? = some o :=
  (heap_setCell_other w ⟨c, j, none⟩ b v (fun e => hne e.symm)).trans h

theorem bk_cells {w : World} {B : Nat} {x y : Int} (h : w.heap[B]? = some (.cells #[.int .i64 x, .int .i64 y] 54 (0, 0))) :
    w.cell? ⟨B, 0, none⟩ = some (.int .i64 x) ∧ w.cell? ⟨B, 1, none⟩ = some (.int .i64 y) ∧ w.frozen? ⟨B, 0, none⟩ = false ∧ w.frozen? ⟨B, 1, none⟩ = false :=
  ⟨cell_of_row w B 0 _ _ (0, 0) h, cell_of_row w B 1 _ _ (0, 0) h, frozen_of_row w B 0 _ _ h, frozen_of_row w B 1 _ _ h⟩

theorem bk_set {w : World} {B : Nat} {x y : Int} (h : w.heap[B]? = some (.cells #[.int .i64 x, .int .i64 y] 54 (0, 0))) (x' y' : Int) :
    ((w.setCell ⟨B, 0, none⟩ (.int .i64 x')).setCell ⟨B, 1, none⟩ (.int .i64 y')).heap[B]? = some (.cells #[.int .i64 x', .int .i64 y'] 54 (0, 0)) :=
  heap_setCell_same _ B 1 _ _ (.int .i64 y') (heap_setCell_same w B 0 _ _ (.int .i64 x') h)

theorem bk_other {w : World} {B C : Nat} {o : Obj} (h : w.heap[C]? = some o) (hne : B ≠ C) (x' y' : Int) :
    ((w.setCell ⟨B, 0, none⟩ (.int .i64 x')).setCell ⟨B, 1, none⟩ (.int .i64 y')).heap[C]? = some o :=
  heap_set_otherP (heap_set_otherP h hne 0 _) hne 1 _

theorem heap_new (w : World) (o : Obj) {B : Nat} (hB : B = w.heap.size) : (w.alloc o).heap[B]? = some o := by
  subst hB
  exact heap_alloc_new w o

theorem heap_lt {w : World} {B : Nat} {o : Obj} (h : w.heap[B]? = some o) : B < w.heap.size := (Array.getElem?_eq_some_iff.1 h).1

theorem heap_later {w w' : World} {B : Nat} {o : Obj} (h : w.heap[B]? = some o) (hb : Below w.heap.size w w') : w'.heap[B]? = some o := (hb.block B (heap_lt h)).trans h

/-- Ints that came in, as they are read. -/
theorem row_read {w : World} {a : Option Addr} {len cap : Nat} {ns : List Int} (h : IsRow .i64 w a len cap ns) :
    len ≤ maxLen ∧ ∀ k, k < len → ∃ b off, a = some ⟨b, off, none⟩ ∧ b < w.heap.size ∧ w.cell? ⟨b, off + k, none⟩ = some (.int .i64 (ns.getD k 0)) := by
  obtain ⟨h1, h2, h3, -⟩ := h.form
  refine ⟨by omega, fun k hk => ?_⟩
  rcases h3 with h3 | ⟨b, off, e, hb, hc⟩
  · omega
  · exact ⟨b, off, e, hb, hc k hk⟩

end Go.Proofs.Ytnmdjkecjlpkkaa
