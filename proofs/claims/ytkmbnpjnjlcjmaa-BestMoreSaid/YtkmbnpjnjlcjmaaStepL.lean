/-
  AN append OF A ROW, AS ONE STEP OF A REGION: what it leaves alone.
-/
import Derived.Test.YtkmbnpjnjlcjmaaHeaRput
namespace Go.Proofs.Ytkmbnpjnjlcjmaa
open Go.RowKit

/-- What an append of the row ms leaves. -/
def OutL {α : Type} (vals : α → List Value) (sz : Nat) (T : TypeId) (w w' : World) (base : Nat) (v : Value) (t : List α) (ms : List α) (v' : Value) : Prop :=
  OwnS vals sz T w' base v' (t ++ ms) ∧ w.heap.size ≤ w'.heap.size ∧ Below base w w' ∧ ∀ b, b < w.heap.size → (∀ n c, v ≠ .slice (some ⟨b, 0, none⟩) n c) → w'.heap[b]? = w.heap[b]?

theorem step_append_L {α : Type} {P : Program} {vals : α → List Value} {sz : Nat} {zero : α} {T S : TypeId} {Z : Value} {bytes : Nat} (D : RowOK P vals sz zero T S Z bytes) {w : World} {ops : Array Oper} {o : Oper} {a : Act} {K : Act → World → Prop} {Q : Exit → Act → World → Prop} {E : Prop}
    (hgd : o.guard = none) (s x : Operand) (ho : o.op = .call { callee := .builtin .append, args := #[s, x], argTypes := #[S, S] })
    (base : Nat) (v : Value) (t : List α) (hs : a.eval s = v) (hown : OwnS vals sz T w base v t)
    (ad : Addr) (m c : Nat) (ms : List α) (hx : a.eval x = .slice (some ad) m c) (hm : m = ms.length) (hsome : SrcS vals w ad ms)
    (h0 : 0 < ms.length) (hlen : t.length + ms.length < 4294967) (hbase : base ≤ w.heap.size)
    (h : ∀ v' w', OutL vals sz T w w' base v t ms v' → K (a.put o.dst v') w') :
    if Region.wanted o (yielded ops a.tmps) = true then Oper.wp P o a w K Q else E := by
  obtain ⟨i, hi, hz, hsize, hby⟩ := info_parts D.info
  subst hm
  have hzl : Z.cells.size = sz := by have := congrArg List.length D.zvals; rwa [Array.length_toList, D.len] at this
  refine step_append_lies w hgd s x S ho base T i _ sz bytes D.under hi hz hsize hby hzl D.pos v t.length (cellsS vals t) hs hown ad ms.length c (cellsS vals ms) hx (cellsS_len D.len ms) hsome (cellsS_single D.one ms) h0
    (by unfold maxLen; omega) (Nat.le_trans (Nat.mul_le_mul (show t.length + ms.length ≤ 4294967 by omega) D.fits) (by decide)) hbase _ rfl ?_
  intro g cap w' h1 h2 h3 h4
  refine h _ w' ⟨?_, h2.size, ?_, fun b hb hn => ?_⟩
  · unfold OwnS
    rw [cellsS_append, List.length_append]
    exact h1
  · exact (Below.refl base w).grown h2 hbase (fun k hk => by obtain ⟨n, c, e'⟩ := own_blk hown hk; exact (hown.gblock e').2.1)
  · exact h2.block b hb fun e => by obtain ⟨n, c, e'⟩ := own_blk hown e.symm; exact hn n c e'

theorem own_fresh {α : Type} {vals : α → List Value} {sz : Nat} {T : TypeId} {X : World} {base n : Nat} (h : X.heap[n]? = some (.cells #[] T (0, 0))) (hb : base ≤ n) : OwnS vals sz T X base (.slice (some ⟨n, 0, none⟩) 0 0) [] := by
  unfold OwnS World.ownsRow
  exact ⟨by simp [cellsS], .inr ⟨n, 0, #[], rfl, hb, h, by simp, Nat.zero_le _, by simp, by simp [cellsS]⟩⟩

theorem srcS_up {α : Type} {vals : α → List Value} {w X : World} {ad : Addr} {ms : List α} (h : SrcS vals w ad ms) (hb : Below w.heap.size w X) : SrcS vals X ad ms := fun j u hu => by
  have hc := h j u hu
  rw [hb.cell (World.block_lt_of_cell? _ _ hc)]
  exact hc

theorem src_cells {α : Type} {vals : α → List Value} {X : World} {n : Nat} {cs : Array Value} {T : TypeId} {r : α} (h : X.heap[n]? = some (.cells cs T (0, 0))) (hcs : cs.toList = vals r) : SrcS vals X ⟨n, 0, none⟩ [r] := fun j u hu => by
  have hv : (vals r)[j]? = some u := by simpa [cellsS] using hu
  rw [Addr.add_lit, Nat.zero_add, cell_of_row X n j _ _ (0, 0) h, ← hv, ← hcs]
  simp

theorem at_new {w : World} {o : Obj} {n : Nat} (h : n = w.heap.size) : (w.alloc o).heap[n]? = some o := by
  subst h
  exact heap_alloc_new w o

theorem at_old {w : World} {o p : Obj} {n : Nat} (h : w.heap[n]? = some p) : (w.alloc o).heap[n]? = some p :=
  (heap_alloc_old w o (Array.getElem?_eq_some_iff.1 h).1).trans h

theorem at_drew {w : World} {p : Obj} {n : Nat} (h : w.heap[n]? = some p) : w.drew.heap[n]? = some p := h

end Go.Proofs.Ytkmbnpjnjlcjmaa
