/-
  LAYER 10, THE DOCUMENT's: Put.
-/
import Derived.Test.YtkmbnpjnjlcjmaaHeaRef
import Derived.Deep.AppendLies
namespace Go.Proofs.Ytkmbnpjnjlcjmaa
open Go.RowKit

theorem step_append_G {α : Type} {P : Program} {vals : α → List Value} {sz : Nat} {zero : α} {T S : TypeId} {Z : Value} {bytes : Nat} (D : RowOK P vals sz zero T S Z bytes) {w : World} {ops : Array Oper} {o : Oper} {a : Act} {K : Act → World → Prop} {Q : Exit → Act → World → Prop} {E : Prop}
    (hgd : o.guard = none) (s x : Operand) (ho : o.op = .call { callee := .builtin .append, args := #[s, x], argTypes := #[S, S] })
    (base : Nat) (v : Value) (t : List α) (hs : a.eval s = v) (hown : OwnS vals sz T w base v t)
    (ad : Addr) (c : Nat) (m : α) (hx : a.eval x = .slice (some ad) 1 c) (hsome : SrcS vals w ad [m])
    (hlen : t.length < 4294967) (hbase : base ≤ w.heap.size)
    (h : ∀ v' w', OutG vals sz T w w' base v t m v' → K (a.put o.dst v') w') :
    if Region.wanted o (yielded ops a.tmps) = true then Oper.wp P o a w K Q else E := by
  obtain ⟨i, hi, hz, hsize, hby⟩ := info_parts D.info
  have hzl : Z.cells.size = sz := by have := congrArg List.length D.zvals; rwa [Array.length_toList, D.len] at this
  refine step_append_lies w hgd s x S ho base T i _ sz bytes D.under hi hz hsize hby hzl D.pos v t.length (cellsS vals t) hs hown ad 1 c (cellsS vals [m]) hx (cellsS_len D.len [m]) hsome (cellsS_single D.one [m]) (by decide)
    (by unfold maxLen; omega) (Nat.le_trans (Nat.mul_le_mul (show t.length + 1 ≤ 4294967 by omega) D.fits) (by decide)) hbase _ rfl ?_
  intro g cap w' h1 h2 h3 h4
  refine h _ w' ⟨g, cap, rfl, ?_, h2, h3, h4⟩
  unfold OwnS
  rw [cellsS_append, List.length_append]
  exact h1

theorem setCell_id {w : World} {b i : Nat} {v : Value} (h : w.cell? ⟨b, i, none⟩ = some v) : w.setCell ⟨b, i, none⟩ v = w := by
  obtain ⟨H, tp, dr, os, out⟩ := w
  unfold World.setCell
  congr 1
  refine Array.ext_getElem? fun k => ?_
  rw [Array.getElem?_modify]
  split
  · rename_i e
    have e' : b = k := e
    subst e'
    cases hb : H[b]? with
    | none => rfl
    | some o =>
      simp only [World.cell?, hb] at h
      cases o with
      | cells cs T fr =>
        simp at h
        simp [Option.map]
        rw [Array.setIfInBounds_def]
        split
        · rename_i hi
          rw [Array.getElem?_eq_getElem hi] at h
          refine Array.ext_getElem? fun j => ?_
          rw [Array.getElem?_set]
          split
          · rename_i ej
            subst ej
            rw [Array.getElem?_eq_getElem hi, h]
          · rfl
        · rfl
      | _ => rfl
  · rfl

/-- What the document's heap may turn. -/
def FootK (K : Nat) (v : Value) (b : Nat) : Prop := b = K ∨ ∃ n c, v = .slice (some ⟨b, 0, none⟩) n c

structure TurnK (w w' : World) (base K : Nat) (v v' : Value) : Prop where
  beside : Beside w w' (FootK K v)
  size : w.heap.size ≤ w'.heap.size
  below : Below base w w'
  new : ∀ g n c, v' = .slice (some ⟨g, 0, none⟩) n c → (∃ n c, v = .slice (some ⟨g, 0, none⟩) n c) ∨ w.heap.size ≤ g

end Go.Proofs.Ytkmbnpjnjlcjmaa
