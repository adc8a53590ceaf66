/-
  A ROW OF INTS OF THE CALL's OWN: appended to, read.
-/
import Derived.Test.YtnmdjkecjlpkkaaPacStep
import Derived.Lib.Hide
import Derived.WalkSpells
namespace Go.Proofs.Ytnmdjkecjlpkkaa
open Go.RowKit

def intVals (z : Int) : List Value := [.int .i64 z]

theorem intOK : RowOK Try.prog intVals 1 (0 : Int) 3 62 (.int .i64 0) 8 where
  len _ := rfl
  one a u hu := by
    simp only [intVals, List.mem_cons, List.not_mem_nil, or_false] at hu
    subst hu
    rfl
  pos := by decide
  small := by decide
  under := Try.underlying62
  info := by kernel_rfl
  zvals := rfl
  fits := by decide

/-- An append, and what it leaves alone besides. -/
theorem wpList_append_I {w : World} {ops : Array Oper} {rest : List Oper} {o : Oper} {a : Act} {Q : Exit → Act → World → Prop}
    (hgd : o.guard = none) (s x : Operand) (ho : o.op = .call { callee := .builtin .append, args := #[s, x], argTypes := #[62, 62] })
    (base : Nat) (v : Value) (t : List Int) (hs : a.eval s = v) (hown : OwnS intVals 1 3 w base v t)
    (ad : Addr) (c : Nat) (z : Int) (hx : a.eval x = .slice (some ad) 1 c)
    (hsome : SrcS intVals w ad [z])
    (hlen : t.length + 1 < 4294967296) (hbase : base ≤ w.heap.size)
    (h : ∀ v' w', OwnS intVals 1 3 w' base v' (t ++ [z]) → Below base w w' → w.heap.size ≤ w'.heap.size → (∀ b, b < w.heap.size → v.ownBlock ≠ some b → w'.heap[b]? = w.heap[b]?) → wpList Try.prog ops Q rest (a.put o.dst v') w') :
    wpList Try.prog ops Q (o :: rest) a w := by
  have D := intOK
  obtain ⟨i, hi, hz, hsize, hby⟩ := info_parts D.info
  have hzl : (Value.int .i64 0).cells.size = 1 := rfl
  refine wpList_append_own _ hgd s x 62 ho base 3 i _ 1 8 D.under hi hz hsize hby hzl D.pos v t.length (cellsS intVals t) hs hown ad 1 c (cellsS intVals [z]) hx (cellsS_len D.len [z]) hsome (cellsS_single D.one [z])
    (by unfold maxLen; omega) (Nat.le_trans (Nat.mul_le_mul (show t.length + 1 ≤ 4294967296 by omega) D.fits) (by decide)) hbase ?_
  intro v' w' hown' hgrow _
  refine h v' w' ?_ ((Below.refl base w).grown hgrow hbase (fun k hk => (World.ownsRow.lt hown k hk).1)) hgrow.size (fun b hb hn => hgrow.block b hb (fun e => hn e.symm))
  unfold OwnS
  rw [cellsS_append, List.length_append]
  exact hown'

theorem ownI_lt {w : World} {base : Nat} {v : Value} {t : List Int} (h : OwnS intVals 1 3 w base v t) {k : Nat} (hk : v.ownBlock = some k) : base ≤ k ∧ k < w.heap.size := World.ownsRow.lt h k hk

/-- How it is read. -/
theorem ownI_read {w : World} {base : Nat} {v : Value} {t : List Int} (h : OwnS intVals 1 3 w base v t) :
    ∃ ao cap, v = .slice ao t.length cap ∧ ∀ k, k < t.length → ∃ g, ao = some ⟨g, 0, none⟩ ∧ g < w.heap.size ∧ w.cell? ⟨g, 0 + k, none⟩ = some (.int .i64 (t.getD k 0)) := by
  obtain ⟨hl, h⟩ := h
  rcases h with ⟨rfl, h0⟩ | ⟨g, cap, cur, rfl, hb, hg, hc, hm, hs, ht⟩
  · exact ⟨none, 0, by rw [h0], fun k hk => by omega⟩
  · refine ⟨_, _, rfl, fun k hk => ⟨g, rfl, heap_lt hg, ?_⟩⟩
    rw [Nat.zero_add]
    refine (cell_of_row w g k _ _ (0, 0) hg).trans ?_
    have e : cur[k]? = (cur.toList.take (t.length * 1))[k]? := by
      rw [List.getElem?_take_of_lt (by omega)]
      simp
    rw [e, ht]
    have : ∀ (l : List Int) (k : Nat), k < l.length → (cellsS intVals l)[k]? = some (.int .i64 (l.getD k 0)) := by
      intro l
      induction l with
      | nil => intro k hk; simp at hk
      | cons a l ih =>
        intro k hk
        cases k with
        | zero => rfl
        | succ k => exact ih k (by simpa using hk)
    exact this t k hk

theorem srcI_new (w : World) (z : Int) {B : Nat} (hB : B = w.heap.size) : SrcS intVals (w.alloc (.cells #[.int .i64 z] 3)) ⟨B, 0, none⟩ [z] :=
  srcS_new (vals := intVals) (r := z) (cs := #[.int .i64 z]) rfl hB ⟨B, 0, none⟩ rfl

end Go.Proofs.Ytnmdjkecjlpkkaa
