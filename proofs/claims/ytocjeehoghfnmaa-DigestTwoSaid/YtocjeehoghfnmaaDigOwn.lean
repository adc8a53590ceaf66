/-
  TABLES OF THE CALL'S OWN: what they hold, and what append makes of them.
-/
import Derived.Test.YtocjeehoghfnmaaDigTakeR
namespace Go.Proofs.Ytocjeehoghfnmaa
open Go.RowKit

/-- The cells of rows, one row behind the other. -/
def cellsOf (t : List Row) : List Value := (t.map rowVals).flatten

theorem cellsOf_nil : cellsOf [] = [] := rfl
theorem cellsOf_cons (r : Row) (t : List Row) : cellsOf (r :: t) = rowVals r ++ cellsOf t := rfl
theorem cellsOf_append (a b : List Row) : cellsOf (a ++ b) = cellsOf a ++ cellsOf b := by simp [cellsOf]
theorem cellsOf_one (r : Row) : cellsOf [r] = rowVals r := by simp [cellsOf]

theorem rowVals_len (r : Row) : (rowVals r).length = 5 := rfl

theorem cellsOf_len : ∀ t : List Row, (cellsOf t).length = t.length * 5
  | [] => rfl
  | r :: t => by rw [cellsOf_cons, List.length_append, rowVals_len, cellsOf_len t, List.length_cons]; omega

theorem cellsOf_at : ∀ (t : List Row) (i j : Nat), i < t.length → j < 5 → (cellsOf t)[i * 5 + j]? = (rowVals (t.getD i Row.zero))[j]?
  | [], i, j, h, _ => by simp at h
  | r :: t, 0, j, _, hj => by
    rw [cellsOf_cons, Nat.zero_mul, Nat.zero_add, List.getElem?_append_left (by rw [rowVals_len]; exact hj)]
    rfl
  | r :: t, i + 1, j, h, hj => by
    rw [cellsOf_cons, List.getElem?_append_right (by rw [rowVals_len]; omega), rowVals_len, show (i + 1) * 5 + j - 5 = i * 5 + j by omega, cellsOf_at t i j (by simpa using h) hj]
    rfl

theorem cellsOf_single (t : List Row) : ∀ u ∈ cellsOf t, u.oneCell' = true := by
  intro u hu
  obtain ⟨l, hl, hu⟩ := List.mem_flatten.1 hu
  obtain ⟨r, _, rfl⟩ := List.mem_map.1 hl
  simp only [rowVals, List.mem_cons, List.not_mem_nil, or_false] at hu
  rcases hu with rfl | rfl | rfl | rfl | rfl <;> rfl

theorem cells5_of {w : World} {b o : Nat} {r : Row} (h : ∀ j u, (rowVals r)[j]? = some u → w.cell? ⟨b, o + j, none⟩ = some u) : Cells5 w b o r :=
  ⟨h 0 _ rfl, h 1 _ rfl, h 2 _ rfl, h 3 _ rfl, h 4 _ rfl⟩

theorem cells5_get {w : World} {b o : Nat} {r : Row} (h : Cells5 w b o r) : ∀ j u, (rowVals r)[j]? = some u → w.cell? ⟨b, o + j, none⟩ = some u := by
  obtain ⟨h0, h1, h2, h3, h4⟩ := h
  intro j u hu
  match j, hu with
  | 0, hu => rw [← hu]; exact h0
  | 1, hu => rw [← hu]; exact h1
  | 2, hu => rw [← hu]; exact h2
  | 3, hu => rw [← hu]; exact h3
  | 4, hu => rw [← hu]; exact h4
  | n + 5, hu => simp [rowVals] at hu

/-- A table of the call's own. -/
def OwnR (w : World) (base : Nat) (v : Value) (t : List Row) : Prop := w.ownsRow base 48 5 v t.length (cellsOf t)

theorem OwnR.alloc {w : World} {base : Nat} {v : Value} {t : List Row} (h : OwnR w base v t) (o : Obj) : OwnR (w.alloc o) base v t := World.ownsRow.alloc h o

theorem ownR_nil (w : World) (base : Nat) : OwnR w base (.slice none 0 0) [] := World.ownsRow_nil w base _ _

theorem ownR_made (w : World) : OwnR (w.alloc (.cells #[] 48)) w.heap.size (.slice (some ⟨w.heap.size, 0, none⟩) 0 0) [] := World.ownsRow_made w #[] 0 (Nat.le_refl _) (by decide) rfl

theorem OwnR.later {w w' : World} {base : Nat} {v : Value} {t : List Row} (h : OwnR w base v t) (hb : Below w.heap.size w w') : OwnR w' base v t := by
  refine ⟨h.1, ?_⟩
  rcases h.2 with h' | ⟨g, cap, cur, h1, h2, h3, h4⟩
  · exact .inl h'
  · exact .inr ⟨g, cap, cur, h1, h2, by rw [hb.block g (Array.getElem?_eq_some_iff.1 h3).1]; exact h3, h4⟩

theorem OwnR.tab {w : World} {base : Nat} {v : Value} {t : List Row} (h : OwnR w base v t) : Tab w v t := by
  rcases h with ⟨_, ⟨rfl, h0⟩ | ⟨g, cap, cur, rfl, hb, hg, hn, hc, hsz, htk⟩⟩
  · obtain rfl : t = [] := List.length_eq_zero_iff.1 h0
    exact tab_nil w
  · refine ⟨some ⟨g, 0, none⟩, cap, rfl, hn, hc, (fun e => by cases e), .inr ⟨g, 0, rfl, (Array.getElem?_eq_some_iff.1 hg).1, fun i hi => ?_⟩⟩
    refine cells5_of fun j u hu => ?_
    have hj : j < 5 := by have := (List.getElem?_eq_some_iff.1 hu).1; rwa [rowVals_len] at this
    rw [Nat.zero_add, cell_of_row w g (i * 5 + j) cur _ (0, 0) hg]
    have h1 : cur.toList[i * 5 + j]? = (cellsOf t)[i * 5 + j]? := by
      rw [← htk, List.getElem?_take, if_pos (by omega)]
    rw [← hu, ← cellsOf_at t i j hi hj, ← h1]
    simp

theorem Try.infoSeen : (Try.prog.info? 48).map (fun i => (i.zero, i.size, i.bytes)) = some (some (.agg #[.string ⟨#[]⟩, .int .i64 0, .int .i64 0, .int .i64 0, .string ⟨#[]⟩]), 5, 56) := by kernel_rfl

/-- 'out = append(out, src...)', out nil or a table of the call's own, src whatever. -/
theorem wpList_append_rows {w : World} {ops : Array Oper} {rest : List Oper} {o : Oper} {a : Act} {Q : Exit → Act → World → Prop}
    (hgd : o.guard = none) (s x : Operand) (ho : o.op = .call { callee := .builtin .append, args := #[s, x], argTypes := #[22, 22] })
    (base : Nat) (v : Value) (t : List Row) (hs : a.eval s = v) (hown : OwnR w base v t)
    (ao : Option Addr) (m c : Nat) (ms : List Row) (hx : a.eval x = .slice ao m c) (hm : m = ms.length) (hnone : ao = none → c = 0 ∧ ms = [])
    (hsome : ∀ ad, ao = some ad → ∀ j u, (cellsOf ms)[j]? = some u → w.cell? (ad.add j) = some u)
    (hlen : t.length + ms.length < 4294967296) (hbase : base ≤ w.heap.size)
    (h : ∀ v' w', OwnR w' base v' (t ++ ms) → Below base w w' → wpList Try.prog ops Q rest (a.put o.dst v') w') :
    wpList Try.prog ops Q (o :: rest) a w := by
  obtain ⟨i, hi, hz, hsize, hby⟩ := info_parts Try.infoSeen
  cases ao with
  | none =>
    obtain ⟨rfl, rfl⟩ := hnone rfl
    simp only [List.length_nil] at hm
    subst hm
    exact wpList_append_own_none hgd s x 22 ho base 48 i 5 Try.underlying22 hi v t.length (cellsOf t) hs hown hx (h v w (by simpa using hown) (Below.refl _ _))
  | some ad =>
    subst hm
    refine wpList_append_own _ hgd s x 22 ho base 48 i _ 5 56 Try.underlying22 hi hz hsize hby rfl (by decide) v t.length (cellsOf t) hs hown ad ms.length c (cellsOf ms) hx (cellsOf_len ms) (hsome ad rfl) (cellsOf_single ms)
      (by unfold maxLen; omega) (by omega) hbase ?_
    intro v' w' hown' hgrow _
    refine h v' w' ?_ ((Below.refl base w).grown hgrow hbase (fun k hk => (World.ownsRow.lt hown k hk).1))
    unfold OwnR
    rw [cellsOf_append, List.length_append]
    exact hown'

/-- A new block of one row. -/
theorem new_row {w : World} {r : Row} {e : TypeId} {B : Nat} (hB : B = w.heap.size) : ∀ ad, some (⟨B, 0, none⟩ : Addr) = some ad → ∀ j u, (cellsOf [r])[j]? = some u → (w.alloc (.cells #[.string ⟨r.c.toArray⟩, .int .i64 r.v.sh, .int .i64 r.v.pr, .int .i64 r.v.si, .string ⟨r.v.st.toArray⟩] e)).cell? (ad.add j) = some u := by
  intro ad had j u hu
  subst hB
  obtain rfl := Option.some.inj had
  rw [cellsOf_one] at hu
  rw [Addr.add_lit, Nat.zero_add, World.cell?_alloc_at _ _ _ _ rfl, ← hu]
  simp [rowVals]

end Go.Proofs.Ytocjeehoghfnmaa
