/-
  A ROW OF TEXTS THAT IS MADE, AND WRITTEN ONE BY ONE.
-/
import Derived.Test.YtkmbnpjnjlcjmaaIdMerge
namespace Go.Proofs.Ytkmbnpjnjlcjmaa
open Go.RowKit

/-- A row of texts that may be written. -/
def RowX (w : World) (B : Nat) (u : List (List UInt8)) : Prop := ∀ j, j < u.length → w.cell? ⟨B, j, none⟩ = some (encS (u.getD j [])) ∧ w.frozen? ⟨B, j, none⟩ = false

theorem RowX.set {w : World} {B : Nat} {u : List (List UInt8)} (h : RowX w B u) (j : Nat) (x : List UInt8) (hj : j < u.length) : RowX (w.setCell ⟨B, j, none⟩ (encS x)) B (u.set j x) := by
  intro i hi
  have hi' : i < u.length := by simpa using hi
  refine ⟨?_, (World.frozen?_setCell w _ _ _).trans (h i hi').2⟩
  by_cases hij : i = j
  · subst hij
    rw [World.cell?_setCell_same _ _ _ (h i hj).1]
    simp [List.getD, hj]
  · rw [World.cell?_setCell_other _ _ _ _ (by simp), (h i hi').1]
    simp [List.getD, show ¬ j = i by omega]

theorem RowX.later {w w' : World} {B : Nat} {u : List (List UInt8)} (h : RowX w B u) (hB : B < w.heap.size) (hb : Below w.heap.size w w') : RowX w' B u := fun j hj =>
  ⟨(hb.cell (p := ⟨B, j, none⟩) hB).trans (h j hj).1, (hb.frozen (p := ⟨B, j, none⟩) hB).trans (h j hj).2⟩

theorem RowX.texts {w : World} {B : Nat} {u : List (List UInt8)} (h : RowX w B u) (hB : B < w.heap.size) (hl : u.length ≤ 4294967296) : Texts w (.slice (some ⟨B, 0, none⟩) u.length u.length) u :=
  ⟨_, u.length, rfl, Nat.le_refl _, by unfold maxLen; omega, (fun e => by cases e), .inr ⟨B, 0, rfl, hB, fun i hi => by rw [Nat.zero_add]; exact (h i hi).1⟩⟩

/-- The texts up to k, and nothing yet behind. -/
def txtAt (t : List (List UInt8)) (k : Nat) : List (List UInt8) := t.take k ++ List.replicate (t.length - k) []

theorem txtAt_len {t : List (List UInt8)} {k : Nat} (h : k ≤ t.length) : (txtAt t k).length = t.length := by unfold txtAt; rw [List.length_append, List.length_take, List.length_replicate]; omega

theorem txtAt_set {t : List (List UInt8)} {k : Nat} (hk : k < t.length) : (txtAt t k).set k (t.getD k []) = txtAt t (k + 1) := by
  unfold txtAt
  have h1 : (t.take k).length = k := by rw [List.length_take]; omega
  rw [List.set_append_right _ _ (by omega), h1, Nat.sub_self, show t.length - k = (t.length - (k + 1)) + 1 by omega, List.replicate_succ, List.set_cons_zero, List.getD_eq_getElem?_getD, List.getElem?_eq_getElem hk]
  have h2 : t.take (k + 1) = t.take k ++ [t[k]] := List.take_succ_eq_append_getElem hk
  rw [h2, List.append_assoc]
  rfl

theorem txtAt_end (t : List (List UInt8)) : txtAt t t.length = t := by
  unfold txtAt
  rw [Nat.sub_self, List.take_length]
  simp

/-- 'make([]string, n)'. -/
theorem wpList_make_txt {w : World} {ops : Array Oper} {rest : List Oper} {o : Oper} {a : Act} {Q : Exit → Act → World → Prop}
    (hg : o.guard = none) (l c : Operand) (hop : o.op = Op.makeSlice 28 l c)
    (L C : Int) (n : Nat) (hl : a.eval l = .int .i64 L) (hc : a.eval c = .int .i64 C) (hL : L = (n : Int)) (hC : C = (n : Int)) (hn : n ≤ 4294967296)
    (hK : ∀ w', RowX w' w.heap.size (List.replicate n []) → Below w.heap.size w w' → w.heap.size < w'.heap.size → wpList Try.prog ops Q rest (a.put o.dst (.slice (some ⟨w.heap.size, 0, none⟩) n n)) w') :
    wpList Try.prog ops Q (o :: rest) a w := by
  obtain ⟨i, hi, hz, hsize, hby⟩ := info_parts Try.infoStr
  refine wpList_make_full w hg l c _ hop w.heap.size 9 i _ 1 Try.underlying28 hi hz hsize .i64 .i64 L C n hl hc hL hC (by rw [hby]; omega) (by unfold maxLen; omega) (Nat.le_refl _) ?_
  intro w' hown hgrow
  refine hK w' (fun j hj => ?_) ((Below.refl _ _).grown hgrow (Nat.le_refl _) (fun k hk => by simp at hk)) (hown.lt w.heap.size rfl).2
  have hj' : j < n := by simpa using hj
  refine ⟨?_, hown.frozenAt j⟩
  have hm : (madeCells (Value.string ⟨#[]⟩).cells (n * 1)).toList = List.replicate n (encS []) := by rw [Nat.mul_one]; exact toList_madeCells_one _ n
  rw [hown.cellAt j (by omega), hm]
  simp [List.getD, hj']

theorem txt_cell {w : World} {u : Value} {e : TypeId} : ∀ ad, some (⟨w.heap.size, 0, none⟩ : Addr) = some ad → ∀ j v, ([u] : List Value)[j]? = some v → (w.alloc (.cells #[u] e)).cell? (ad.add j) = some v := by
  intro ad had j v hv
  obtain rfl := Option.some.inj had
  exact cells_one w u e j v hv

end Go.Proofs.Ytkmbnpjnjlcjmaa
