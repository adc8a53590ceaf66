/-
  TEXTS OF THE PROOF, one behind the other: DigTakeR, DigOwn, DigLay, DigTake, DigRtake, DigGet, DigDel, DigWithout, DigIns, DigInsR, IdRow, IdDoc, IdRput, IdRmerge, IdConcat, IdMerge, DigCts, DigSet, DigFrame, CrcPure.
-/
import Derived.Test.YtohfhphiofobcaaS06
import Derived.Laws.IdiomCopy
import Derived.Lib.AppendZerosOnto
import Derived.Lib.Overlaps
import Derived.Deep.RegionLaw
import Derived.WalkSpells
import Derived.Laws.Externs
import Derived.Test.YtohfhphiofobcaaS01
import Derived.Laws.AppendOwnNone
import Derived.Laws.OwnMore
import Derived.Test.YtohfhphiofobcaaProg
import Derived.Lib.Hide
import Derived.Test.YtohfhphiofobcaaS02
import Derived.Lib.AppendZeros
import Derived.OwnWalk
import Derived.BigQuiet
import Derived.Deep.DeepMust
import Derived.Lib.OwnBridge
import Derived.ProofKit
import Derived.OpenShut
import Derived.Lib.SmallJoins
import Derived.Deep.Slices
import Derived.Deep.Fields
import Derived.ChangeSame

section

/-
  THE CONTRACT OF digest.takeRow.
-/
namespace Go.Proofs.Ytohfhphiofobcaa
open Go.RowKit

def rowAgg (r : Row) : Value := .agg #[.string ⟨r.c.toArray⟩, .int .i64 r.v.sh, .int .i64 r.v.pr, .int .i64 r.v.si, .string ⟨r.v.st.toArray⟩]

/-- Three results: row, place, error. -/
def tripleR (r : Row × Nat × Nat) : Value := .tuple #[rowAgg r.1, .int .i64 r.2.1, .int .i64 r.2.2]

def set5D (w : World) (B : Nat) (a b c d e : Value) : World :=
  ((((w.setCell ⟨B, 0, none⟩ a).setCell ⟨B, 1, none⟩ b).setCell ⟨B, 2, none⟩ c).setCell ⟨B, 3, none⟩ d).setCell ⟨B, 4, none⟩ e

theorem five_set (w : World) (B : Nat) (a b c d e : Value) {a' b' c' d' e' : Value} (h0 : w.cell? ⟨B, 0, none⟩ = some a') (h1 : w.cell? ⟨B, 1, none⟩ = some b') (h2 : w.cell? ⟨B, 2, none⟩ = some c') (h3 : w.cell? ⟨B, 3, none⟩ = some d') (h4 : w.cell? ⟨B, 4, none⟩ = some e') :
    (set5D w B a b c d e).cell? ⟨B, 0, none⟩ = some a ∧ (set5D w B a b c d e).cell? ⟨B, 1, none⟩ = some b ∧ (set5D w B a b c d e).cell? ⟨B, 2, none⟩ = some c ∧ (set5D w B a b c d e).cell? ⟨B, 3, none⟩ = some d ∧ (set5D w B a b c d e).cell? ⟨B, 4, none⟩ = some e := by
  unfold set5D
  have o1 : ((w.setCell ⟨B, 0, none⟩ a)).cell? ⟨B, 1, none⟩ = some b' := by rw [World.cell?_setCell_other _ _ _ _ (by simp)]; exact h1
  have o2 : ((w.setCell ⟨B, 0, none⟩ a).setCell ⟨B, 1, none⟩ b).cell? ⟨B, 2, none⟩ = some c' := by rw [World.cell?_setCell_other _ _ _ _ (by simp), World.cell?_setCell_other _ _ _ _ (by simp)]; exact h2
  have o3 : (((w.setCell ⟨B, 0, none⟩ a).setCell ⟨B, 1, none⟩ b).setCell ⟨B, 2, none⟩ c).cell? ⟨B, 3, none⟩ = some d' := by rw [World.cell?_setCell_other _ _ _ _ (by simp), World.cell?_setCell_other _ _ _ _ (by simp), World.cell?_setCell_other _ _ _ _ (by simp)]; exact h3
  have o4 : ((((w.setCell ⟨B, 0, none⟩ a).setCell ⟨B, 1, none⟩ b).setCell ⟨B, 2, none⟩ c).setCell ⟨B, 3, none⟩ d).cell? ⟨B, 4, none⟩ = some e' := by
    rw [World.cell?_setCell_other _ _ _ _ (by simp), World.cell?_setCell_other _ _ _ _ (by simp), World.cell?_setCell_other _ _ _ _ (by simp), World.cell?_setCell_other _ _ _ _ (by simp)]; exact h4
  refine ⟨?_, ?_, ?_, ?_, ?_⟩
  · rw [World.cell?_setCell_other _ _ _ _ (by simp), World.cell?_setCell_other _ _ _ _ (by simp), World.cell?_setCell_other _ _ _ _ (by simp), World.cell?_setCell_other _ _ _ _ (by simp)]
    exact World.cell?_setCell_same _ _ _ h0
  · rw [World.cell?_setCell_other _ _ _ _ (by simp), World.cell?_setCell_other _ _ _ _ (by simp), World.cell?_setCell_other _ _ _ _ (by simp)]
    exact World.cell?_setCell_same _ _ _ o1
  · rw [World.cell?_setCell_other _ _ _ _ (by simp), World.cell?_setCell_other _ _ _ _ (by simp)]
    exact World.cell?_setCell_same _ _ _ o2
  · rw [World.cell?_setCell_other _ _ _ _ (by simp)]
    exact World.cell?_setCell_same _ _ _ o3
  · exact World.cell?_setCell_same _ _ _ o4

theorem set5D_below {w w1 : World} (h : Below w.heap.size w w1) (B : Nat) (hB : w.heap.size ≤ B) (a b c d e : Value) : Below w.heap.size w (set5D w1 B a b c d e) :=
  ((((h.setCell hB _).setCell hB _).setCell hB _).setCell hB _).setCell hB _

/-- None of a block's five cells is frozen. -/
def Free5 (w : World) (b : Nat) : Prop :=
  w.frozen? ⟨b, 0, none⟩ = false ∧ w.frozen? ⟨b, 1, none⟩ = false ∧ w.frozen? ⟨b, 2, none⟩ = false ∧ w.frozen? ⟨b, 3, none⟩ = false ∧ w.frozen? ⟨b, 4, none⟩ = false

theorem Free5.later {w w' : World} {b : Nat} (h : Free5 w b) (hb : Below w.heap.size w w') (hlt : b < w.heap.size) : Free5 w' b := by
  obtain ⟨h0, h1, h2, h3, h4⟩ := h
  have k : ∀ o, w'.frozen? ⟨b, o, none⟩ = w.frozen? ⟨b, o, none⟩ := fun o => hb.frozen (p := ⟨b, o, none⟩) hlt
  exact ⟨(k _).trans h0, (k _).trans h1, (k _).trans h2, (k _).trans h3, (k _).trans h4⟩

theorem free5 {wr w1 : World} {a b c d e : Value} {ty : TypeId} (hb : Below (wr.alloc (.cells #[a, b, c, d, e] ty)).heap.size (wr.alloc (.cells #[a, b, c, d, e] ty)) w1) : Free5 w1 wr.heap.size := by
  have k : ∀ o, w1.frozen? ⟨wr.heap.size, o, none⟩ = false := fun o => by
    rw [hb.frozen (p := ⟨wr.heap.size, o, none⟩) (by show wr.heap.size < _; simp)]
    simp
  exact ⟨k 0, k 1, k 2, k 3, k 4⟩

theorem five_set_alloc (w : World) (B : Nat) (o : Obj) (a b c d e : Value) {a' b' c' d' e' : Value} (h0 : w.cell? ⟨B, 0, none⟩ = some a') (h1 : w.cell? ⟨B, 1, none⟩ = some b') (h2 : w.cell? ⟨B, 2, none⟩ = some c') (h3 : w.cell? ⟨B, 3, none⟩ = some d') (h4 : w.cell? ⟨B, 4, none⟩ = some e') :
    ((set5D w B a b c d e).alloc o).cell? ⟨B, 0, none⟩ = some a ∧ ((set5D w B a b c d e).alloc o).cell? ⟨B, 1, none⟩ = some b ∧ ((set5D w B a b c d e).alloc o).cell? ⟨B, 2, none⟩ = some c ∧ ((set5D w B a b c d e).alloc o).cell? ⟨B, 3, none⟩ = some d ∧ ((set5D w B a b c d e).alloc o).cell? ⟨B, 4, none⟩ = some e := by
  obtain ⟨r0, r1, r2, r3, r4⟩ := five_set w B a b c d e h0 h1 h2 h3 h4
  have hb : Below (set5D w B a b c d e).heap.size (set5D w B a b c d e) ((set5D w B a b c d e).alloc o) := (Below.refl _ _).alloc (Nat.le_refl _) _
  exact ⟨cell_later r0 hb, cell_later r1 hb, cell_later r2 hb, cell_later r3 hb, cell_later r4 hb⟩

theorem taker_id {l : List UInt8} {p : Nat} {c : List UInt8} {f er : Nat} (h : idTake l p = (c, f, er)) (he : er ≠ 0) : diTakeRow l p = (Row.zero, 0, er) := by
  unfold diTakeRow
  rw [h]
  simp only [if_pos he]

theorem taker_va {l : List UInt8} {p : Nat} {c : List UInt8} {f g er : Nat} {v : Val} (h : idTake l p = (c, f, 0)) (h2 : vaTake l f = (v, g, er)) (he : er ≠ 0) : diTakeRow l p = (Row.zero, 0, er) := by
  unfold diTakeRow
  rw [h]
  simp only [ne_eq, not_true_eq_false, if_false]
  rw [h2]
  simp only [if_pos he]

theorem taker_ok {l : List UInt8} {p : Nat} {c : List UInt8} {f g : Nat} {v : Val} (h : idTake l p = (c, f, 0)) (h2 : vaTake l f = (v, g, 0)) : diTakeRow l p = (⟨c, v⟩, g, 0) := by
  unfold diTakeRow
  rw [h]
  simp only [ne_eq, not_true_eq_false, if_false]
  rw [h2]
  simp only [not_true_eq_false, if_false]

set_option maxHeartbeats 800000 in
set_option maxRecDepth 100000 in
theorem taker_1 (l : List UInt8) (hl : l.length ≤ 4294967296) (p : Nat) {c : List UInt8} {f er : Nat} (h : idTake l p = (c, f, er)) (he : er ≠ 0) (w : World) :
    Calls Try.prog 127 #[.string ⟨l.toArray⟩, .int .i64 p] w fun e w' => e = .returned (tripleR (diTakeRow l p)) ∧ Below w.heap.size w w' := by
  have HR := Lib.hid (taker_id h he)
  have HT := Lib.hid (idtake_eq l hl p (Lib.hid h))
  have t1 : ((er : Int) != 0) = true := by simp; omega
  clear h he
  go_enter Try.func127, Try.ntmps127
  go_wp2_with fail
  refine (HT.out _).mono ?_
  rintro e w1 ⟨rfl, hb1⟩
  obtain ⟨q0, q1, q2, q3, q4⟩ := (box5 (c := []) (st := []) hb1).1
  obtain ⟨f0, f1, f2, f3, f4⟩ := free5 hb1
  have B1 := Lib.hid (box5 (c := []) (st := []) hb1).2
  clear hb1
  go_wp2_with fail
  obtain ⟨r0, r1, r2, r3, r4⟩ := five_set w1 w.heap.size (.string ⟨#[]⟩) (.int .i64 0) (.int .i64 0) (.int .i64 0) (.string ⟨#[]⟩) q0 q1 q2 q3 q4
  unfold set5D at r0 r1 r2 r3 r4
  exact bodyPost_ret (v := tripleR (Row.zero, 0, er)) (by simp [results, Try.results127, go_sem, tripleR, rowAgg, Row.zero, Val.zero, r0, r1, r2, r3, r4]) rfl ⟨by rw [HR.out], set5D_below B1.out _ (Nat.le_refl _) _ _ _ _ _⟩

set_option maxHeartbeats 800000 in
set_option maxRecDepth 100000 in
theorem taker_2 (l : List UInt8) (hl : l.length ≤ 4294967296) (p : Nat) {c : List UInt8} {f g er : Nat} {x y z : Int} {st : List UInt8} (h : idTake l p = (c, f, 0)) (h2 : vaTake l f = (⟨x, y, z, st⟩, g, er)) (he : er ≠ 0) (w : World) :
    Calls Try.prog 127 #[.string ⟨l.toArray⟩, .int .i64 p] w fun e w' => e = .returned (tripleR (diTakeRow l p)) ∧ Below w.heap.size w w' := by
  have HR := Lib.hid (taker_va h h2 he)
  have HT := Lib.hid (idtake_eq l hl p (Lib.hid h))
  have HU := Lib.hid (vatake_eq l hl f (Lib.hid h2))
  have t1 : ((er : Int) != 0) = true := by simp; omega
  clear h h2 he
  go_enter Try.func127, Try.ntmps127
  go_wp2_with fail
  refine (HT.out _).mono ?_
  rintro e w1 ⟨rfl, hb1⟩
  have Q1 := Lib.hid (box5 (c := []) (st := []) hb1).1
  have F1 := Lib.hid (free5 hb1)
  have B1 := Lib.hid (box5 (c := []) (st := []) hb1).2
  clear hb1
  go_wp2_with fail
  refine (HU.out _).mono ?_
  rintro e w2 ⟨rfl, hb2⟩
  have B2 := Lib.hid (below2' B1.out hb2)
  have hlt := (Q1.out.later hb2).lt
  have k := (Q1.out.later hb2)
  obtain ⟨k0, k1, k2, k3, k4⟩ := k
  obtain ⟨f0, f1, f2, f3, f4⟩ := F1.out.later hb2 Q1.out.lt
  clear hb2 B1 Q1 F1
  go_wp2_with fail
  obtain ⟨r0, r1, r2, r3, r4⟩ := five_set_alloc w2 w.heap.size (.cells #[.int .i64 x, .int .i64 y, .int .i64 z, .string ⟨st.toArray⟩] 23) (.string ⟨#[]⟩) (.int .i64 0) (.int .i64 0) (.int .i64 0) (.string ⟨#[]⟩) k0 k1 k2 k3 k4
  unfold set5D at r0 r1 r2 r3 r4
  exact bodyPost_ret (v := tripleR (Row.zero, 0, er)) (by simp [results, Try.results127, go_sem, tripleR, rowAgg, Row.zero, Val.zero, r0, r1, r2, r3, r4]) rfl ⟨by rw [HR.out], bl_alloc (set5D_below B2.out _ (Nat.le_refl _) _ _ _ _ _) _⟩

set_option maxHeartbeats 800000 in
set_option maxRecDepth 100000 in
theorem taker_3 (l : List UInt8) (hl : l.length ≤ 4294967296) (p : Nat) {c : List UInt8} {f g : Nat} {x y z : Int} {st : List UInt8} (h : idTake l p = (c, f, 0)) (h2 : vaTake l f = (⟨x, y, z, st⟩, g, 0)) (w : World) :
    Calls Try.prog 127 #[.string ⟨l.toArray⟩, .int .i64 p] w fun e w' => e = .returned (tripleR (diTakeRow l p)) ∧ Below w.heap.size w w' := by
  have HR := Lib.hid (taker_ok h h2)
  have HT := Lib.hid (idtake_eq l hl p (Lib.hid h))
  have HU := Lib.hid (vatake_eq l hl f (Lib.hid h2))
  clear h h2
  go_enter Try.func127, Try.ntmps127
  go_wp2_with fail
  refine (HT.out _).mono ?_
  rintro e w1 ⟨rfl, hb1⟩
  have Q1 := Lib.hid (box5 (c := []) (st := []) hb1).1
  have F1 := Lib.hid (free5 hb1)
  have B1 := Lib.hid (box5 (c := []) (st := []) hb1).2
  clear hb1
  go_wp2_with fail
  refine (HU.out _).mono ?_
  rintro e w2 ⟨rfl, hb2⟩
  have B2 := Lib.hid (below2' B1.out hb2)
  have hlt := (Q1.out.later hb2).lt
  have k := (Q1.out.later hb2)
  obtain ⟨k0, k1, k2, k3, k4⟩ := k
  obtain ⟨f0, f1, f2, f3, f4⟩ := F1.out.later hb2 Q1.out.lt
  clear hb2 B1 Q1 F1
  go_wp2_with fail
  obtain ⟨r0, r1, r2, r3, r4⟩ := five_set_alloc w2 w.heap.size (.cells #[.int .i64 x, .int .i64 y, .int .i64 z, .string ⟨st.toArray⟩] 23) (.string ⟨c.toArray⟩) (.int .i64 x) (.int .i64 y) (.int .i64 z) (.string ⟨st.toArray⟩) k0 k1 k2 k3 k4
  unfold set5D at r0 r1 r2 r3 r4
  exact bodyPost_ret (v := tripleR (⟨c, x, y, z, st⟩, g, 0)) (by simp [results, Try.results127, go_sem, tripleR, rowAgg, r0, r1, r2, r3, r4]) rfl ⟨by rw [HR.out], bl_alloc (set5D_below B2.out _ (Nat.le_refl _) _ _ _ _ _) _⟩

theorem taker_any (l : List UInt8) (hl : l.length ≤ 4294967296) (p : Nat) (w : World) :
    Calls Try.prog 127 #[.string ⟨l.toArray⟩, .int .i64 p] w fun e w' => e = .returned (tripleR (diTakeRow l p)) ∧ Below w.heap.size w w' := by
  obtain ⟨c, f, er, h⟩ : ∃ c f er, idTake l p = (c, f, er) := ⟨_, _, _, rfl⟩
  by_cases he : er = 0
  · subst he
    obtain ⟨x, y, z, st, g, es, h2⟩ : ∃ x y z st g es, vaTake l f = (⟨x, y, z, st⟩, g, es) := ⟨_, _, _, _, _, _, rfl⟩
    by_cases hes : es = 0
    · subst hes
      exact taker_3 l hl p h h2 w
    · exact taker_2 l hl p h h2 hes w
  · exact taker_1 l hl p h he w

theorem taker_eq (l : List UInt8) (hl : l.length ≤ 4294967296) (p : Nat) {c st : List UInt8} {x y z : Int} {f er : Nat} (h : Hid (diTakeRow l p = (⟨c, x, y, z, st⟩, f, er))) (w : World) :
    Calls Try.prog 127 #[.string ⟨l.toArray⟩, .int .i64 p] w fun e w' => e = .returned (.tuple #[.agg #[.string ⟨c.toArray⟩, .int .i64 x, .int .i64 y, .int .i64 z, .string ⟨st.toArray⟩], .int .i64 f, .int .i64 er]) ∧ Below w.heap.size w w' := by
  have := taker_any l hl p w
  rwa [h.out] at this

end Go.Proofs.Ytohfhphiofobcaa

end

section

/-
  TABLES OF THE CALL'S OWN: what they hold, and what append makes of them.
-/
namespace Go.Proofs.Ytohfhphiofobcaa
open Go.RowKit

/-- The cells of rows, one row behind the other. -/
def cellsOf (t : List Row) : List Value := (t.map rowVals).flatten

theorem cellsOf_nil : cellsOf [] = [] := rfl
theorem cellsOf_cons (r : Row) (t : List Row) : cellsOf (r :: t) = rowVals r ++ cellsOf t := rfl
theorem cellsOf_append (a b : List Row) : cellsOf (a ++ b) = cellsOf a ++ cellsOf b := by simp [cellsOf]
theorem cellsOf_one (r : Row) : cellsOf [r] = rowVals r := by simp [cellsOf]

theorem rowVals_len (r : Row) : (rowVals r).length = 5 := rfl

theorem cellsOf_len : ∀ t : List Row, (cellsOf t).length = t.length * 5
  | [] => rfl
  | r :: t => by rw [cellsOf_cons, List.length_append, rowVals_len, cellsOf_len t, List.length_cons]; omega

theorem cellsOf_at : ∀ (t : List Row) (i j : Nat), i < t.length → j < 5 → (cellsOf t)[i * 5 + j]? = (rowVals (t.getD i Row.zero))[j]?
  | [], i, j, h, _ => by simp at h
  | r :: t, 0, j, _, hj => by
    rw [cellsOf_cons, Nat.zero_mul, Nat.zero_add, List.getElem?_append_left (by rw [rowVals_len]; exact hj)]
    rfl
  | r :: t, i + 1, j, h, hj => by
    rw [cellsOf_cons, List.getElem?_append_right (by rw [rowVals_len]; omega), rowVals_len, show (i + 1) * 5 + j - 5 = i * 5 + j by omega, cellsOf_at t i j (by simpa using h) hj]
    rfl

theorem cellsOf_single (t : List Row) : ∀ u ∈ cellsOf t, u.oneCell' = true := by
  intro u hu
  obtain ⟨l, hl, hu⟩ := List.mem_flatten.1 hu
  obtain ⟨r, _, rfl⟩ := List.mem_map.1 hl
  simp only [rowVals, List.mem_cons, List.not_mem_nil, or_false] at hu
  rcases hu with rfl | rfl | rfl | rfl | rfl <;> rfl

theorem cells5_of {w : World} {b o : Nat} {r : Row} (h : ∀ j u, (rowVals r)[j]? = some u → w.cell? ⟨b, o + j, none⟩ = some u) : Cells5 w b o r :=
  ⟨h 0 _ rfl, h 1 _ rfl, h 2 _ rfl, h 3 _ rfl, h 4 _ rfl⟩

theorem cells5_get {w : World} {b o : Nat} {r : Row} (h : Cells5 w b o r) : ∀ j u, (rowVals r)[j]? = some u → w.cell? ⟨b, o + j, none⟩ = some u := by
  obtain ⟨h0, h1, h2, h3, h4⟩ := h
  intro j u hu
  match j, hu with
  | 0, hu => rw [← hu]; exact h0
  | 1, hu => rw [← hu]; exact h1
  | 2, hu => rw [← hu]; exact h2
  | 3, hu => rw [← hu]; exact h3
  | 4, hu => rw [← hu]; exact h4
  | n + 5, hu => simp [rowVals] at hu

/-- A table of the call's own. -/
def OwnR (w : World) (base : Nat) (v : Value) (t : List Row) : Prop := w.ownsRow base 82 5 v t.length (cellsOf t)

theorem OwnR.alloc {w : World} {base : Nat} {v : Value} {t : List Row} (h : OwnR w base v t) (o : Obj) : OwnR (w.alloc o) base v t := World.ownsRow.alloc h o

theorem ownR_nil (w : World) (base : Nat) : OwnR w base (.slice none 0 0) [] := World.ownsRow_nil w base _ _

theorem OwnR.later {w w' : World} {base : Nat} {v : Value} {t : List Row} (h : OwnR w base v t) (hb : Below w.heap.size w w') : OwnR w' base v t := by
  refine ⟨h.1, ?_⟩
  rcases h.2 with h' | ⟨g, cap, cur, h1, h2, h3, h4⟩
  · exact .inl h'
  · exact .inr ⟨g, cap, cur, h1, h2, by rw [hb.block g (Array.getElem?_eq_some_iff.1 h3).1]; exact h3, h4⟩

theorem OwnR.tab {w : World} {base : Nat} {v : Value} {t : List Row} (h : OwnR w base v t) : Tab w v t := by
  rcases h with ⟨_, ⟨rfl, h0⟩ | ⟨g, cap, cur, rfl, hb, hg, hn, hc, hsz, htk⟩⟩
  · obtain rfl : t = [] := List.length_eq_zero_iff.1 h0
    exact tab_nil w
  · refine ⟨some ⟨g, 0, none⟩, cap, rfl, hn, hc, (fun e => by cases e), .inr ⟨g, 0, rfl, (Array.getElem?_eq_some_iff.1 hg).1, fun i hi => ?_⟩⟩
    refine cells5_of fun j u hu => ?_
    have hj : j < 5 := by have := (List.getElem?_eq_some_iff.1 hu).1; rwa [rowVals_len] at this
    rw [Nat.zero_add, cell_of_row w g (i * 5 + j) cur _ (0, 0) hg]
    have h1 : cur.toList[i * 5 + j]? = (cellsOf t)[i * 5 + j]? := by
      rw [← htk, List.getElem?_take, if_pos (by omega)]
    rw [← hu, ← cellsOf_at t i j hi hj, ← h1]
    simp

theorem Try.infoSeen : (Try.prog.info? 82).map (fun i => (i.zero, i.size, i.bytes)) = some (some (.agg #[.string ⟨#[]⟩, .int .i64 0, .int .i64 0, .int .i64 0, .string ⟨#[]⟩]), 5, 56) := by kernel_rfl

/-- 'out = append(out, src...)', out nil or a table of the call's own, src whatever. -/
theorem wpList_append_rows {w : World} {ops : Array Oper} {rest : List Oper} {o : Oper} {a : Act} {Q : Exit → Act → World → Prop}
    (hgd : o.guard = none) (s x : Operand) (ho : o.op = .call { callee := .builtin .append, args := #[s, x], argTypes := #[25, 25] })
    (base : Nat) (v : Value) (t : List Row) (hs : a.eval s = v) (hown : OwnR w base v t)
    (ao : Option Addr) (m c : Nat) (ms : List Row) (hx : a.eval x = .slice ao m c) (hm : m = ms.length) (hnone : ao = none → c = 0 ∧ ms = [])
    (hsome : ∀ ad, ao = some ad → ∀ j u, (cellsOf ms)[j]? = some u → w.cell? (ad.add j) = some u)
    (hlen : t.length + ms.length < 4294967296) (hbase : base ≤ w.heap.size)
    (h : ∀ v' w', OwnR w' base v' (t ++ ms) → Below base w w' → wpList Try.prog ops Q rest (a.put o.dst v') w') :
    wpList Try.prog ops Q (o :: rest) a w := by
  obtain ⟨i, hi, hz, hsize, hby⟩ := info_parts Try.infoSeen
  cases ao with
  | none =>
    obtain ⟨rfl, rfl⟩ := hnone rfl
    simp only [List.length_nil] at hm
    subst hm
    exact wpList_append_own_none hgd s x 25 ho base 82 i 5 Try.underlying25 hi v t.length (cellsOf t) hs hown hx (h v w (by simpa using hown) (Below.refl _ _))
  | some ad =>
    subst hm
    refine wpList_append_own _ hgd s x 25 ho base 82 i _ 5 56 Try.underlying25 hi hz hsize hby rfl (by decide) v t.length (cellsOf t) hs hown ad ms.length c (cellsOf ms) hx (cellsOf_len ms) (hsome ad rfl) (cellsOf_single ms)
      (by unfold maxLen; omega) (by omega) hbase ?_
    intro v' w' hown' hgrow _
    refine h v' w' ?_ ((Below.refl base w).grown hgrow hbase (fun k hk => (World.ownsRow.lt hown k hk).1))
    unfold OwnR
    rw [cellsOf_append, List.length_append]
    exact hown'

/-- A new block of one row. -/
theorem new_row {w : World} {r : Row} {e : TypeId} {B : Nat} (hB : B = w.heap.size) : ∀ ad, some (⟨B, 0, none⟩ : Addr) = some ad → ∀ j u, (cellsOf [r])[j]? = some u → (w.alloc (.cells #[.string ⟨r.c.toArray⟩, .int .i64 r.v.sh, .int .i64 r.v.pr, .int .i64 r.v.si, .string ⟨r.v.st.toArray⟩] e)).cell? (ad.add j) = some u := by
  intro ad had j u hu
  subst hB
  obtain rfl := Option.some.inj had
  rw [cellsOf_one] at hu
  rw [Addr.add_lit, Nat.zero_add, World.cell?_alloc_at _ _ _ _ rfl, ← hu]
  simp [rowVals]

end Go.Proofs.Ytohfhphiofobcaa

end

section

/-
  ROWS OF A TABLE OF THE CALL'S OWN: stored into, copied, cleared, grown by zero rows.
-/
namespace Go.Proofs.Ytohfhphiofobcaa
open Go.RowKit

/-- 'ms' laid over 'u' from place 'o' on. -/
def lay {α : Type} (u : List α) (o : Nat) (ms : List α) : List α := u.take o ++ (ms ++ u.drop (o + ms.length))

theorem cellsOf_take (u : List Row) (o : Nat) : (cellsOf u).take (o * 5) = cellsOf (u.take o) := by
  have h := cellsOf_append (u.take o) (u.drop o)
  rw [List.take_append_drop] at h
  rw [h]
  by_cases ho : o ≤ u.length
  · rw [List.take_left' (by rw [cellsOf_len, List.length_take]; omega)]
  · have e1 : u.drop o = [] := List.drop_of_length_le (by omega)
    have e2 : u.take o = u := List.take_of_length_le (by omega)
    rw [e1, e2, cellsOf_nil, List.append_nil, List.take_of_length_le (by rw [cellsOf_len]; omega)]

theorem cellsOf_drop (u : List Row) (o : Nat) : (cellsOf u).drop (o * 5) = cellsOf (u.drop o) := by
  have h := cellsOf_append (u.take o) (u.drop o)
  rw [List.take_append_drop] at h
  by_cases ho : o ≤ u.length
  · rw [h, List.drop_left' (by rw [cellsOf_len, List.length_take]; omega)]
  · have e1 : u.drop o = [] := List.drop_of_length_le (by omega)
    rw [e1, cellsOf_nil, List.drop_of_length_le (by rw [cellsOf_len]; omega)]

theorem OwnR.head {w : World} {base g n cap : Nat} {u : List Row} (h : OwnR w base (.slice (some ⟨g, 0, none⟩) n cap) u) : n = u.length ∧ base ≤ g ∧ g < w.heap.size ∧ n ≤ cap ∧ cap ≤ maxLen ∧ ∃ cur : Array Value, w.heap[g]? = some (.cells cur 82 (0, 0)) ∧ cur.size = cap * 5 := by
  rcases h with ⟨_, ⟨h', _⟩ | ⟨g', cap', cur, h', hb, hg, hnc, hcm, hcs, _⟩⟩
  · simp at h'
  · simp only [Value.slice.injEq, Option.some.injEq, Addr.mk.injEq, and_true] at h'
    obtain ⟨rfl, h2, rfl⟩ := h'
    exact ⟨h2, hb, (Array.getElem?_eq_some_iff.1 hg).1, by omega, hcm, cur, hg, hcs⟩

theorem OwnR.cellAt {w : World} {base g n cap : Nat} {u : List Row} (h : OwnR w base (.slice (some ⟨g, 0, none⟩) n cap) u) (j : Nat) (hj : j < u.length * 5) : w.cell? ⟨g, j, none⟩ = (cellsOf u)[j]? := by
  have hn := h.head.1
  subst hn
  exact World.ownsRow.cellAt h j hj

/-- The cells that a slice of rows reads. -/
def SrcR (w : World) (ad : Addr) (ms : List Row) : Prop := ∀ j u, (cellsOf ms)[j]? = some u → w.cell? (ad.add j) = some u

theorem OwnR.src {w : World} {base g n cap : Nat} {u : List Row} (h : OwnR w base (.slice (some ⟨g, 0, none⟩) n cap) u) (o k : Nat) (hk : o + k ≤ u.length) : SrcR w ⟨g, o * 5, none⟩ ((u.drop o).take k) := by
  intro j x hx
  have hj := (List.getElem?_eq_some_iff.1 hx).1
  rw [cellsOf_len, List.length_take, List.length_drop] at hj
  rw [Addr.add_lit, h.cellAt _ (by omega), ← hx]
  rw [← cellsOf_take, ← cellsOf_drop, List.getElem?_take, if_pos (by omega), List.getElem?_drop]

end Go.Proofs.Ytohfhphiofobcaa

end

section

/-
  THE CONTRACT OF digest.Take.
-/
namespace Go.Proofs.Ytohfhphiofobcaa
open Go.RowKit

/-- What Take leaves. -/
def Took (r : List Row × Nat × Nat) (w : World) (e : Ending) (w' : World) : Prop :=
  ∃ v, e = .returned (.tuple #[v, .int .i64 r.2.1, .int .i64 r.2.2]) ∧ Tab w' v r.1 ∧ Below w.heap.size w w'

theorem ditake_1 {l : List UInt8} {p : Int} {n f er : Nat} (h : vget l p = (n, f, er)) (he : er ≠ 0) : diTake l p = ([], 0, er) := by
  unfold diTake
  rw [h]
  simp only [if_pos he]

theorem ditake_2 {l : List UInt8} {p : Int} {n f : Nat} (h : vget l p = (n, f, 0)) (hn : 32 < n) : diTake l p = ([], 0, 3) := by
  unfold diTake
  rw [h]
  simp only [ne_eq, not_true_eq_false, if_false, if_pos hn]

theorem ditake_3 {l : List UInt8} {p : Int} {n f : Nat} {T : List Row} {g es : Nat} (h : vget l p = (n, f, 0)) (hn : ¬ 32 < n) (h2 : diRows n l f = (T, g, es)) (he : es ≠ 0) : diTake l p = ([], 0, es) := by
  unfold diTake
  rw [h]
  simp only [ne_eq, not_true_eq_false, if_false, if_neg hn]
  rw [h2]
  simp only [if_pos he]

theorem ditake_4 {l : List UInt8} {p : Int} {n f : Nat} {T : List Row} {g : Nat} (h : vget l p = (n, f, 0)) (hn : ¬ 32 < n) (h2 : diRows n l f = (T, g, 0)) (hm : diMay T = false) : diTake l p = ([], 0, 3) := by
  unfold diTake
  rw [h]
  simp only [ne_eq, not_true_eq_false, if_false, if_neg hn]
  rw [h2]
  simp only [not_true_eq_false, if_false]
  rw [if_pos hm]

theorem ditake_5 {l : List UInt8} {p : Int} {n f : Nat} {T : List Row} {g : Nat} (h : vget l p = (n, f, 0)) (hn : ¬ 32 < n) (h2 : diRows n l f = (T, g, 0)) (hm : diMay T = true) : diTake l p = (T, g, 0) := by
  unfold diTake
  rw [h]
  simp only [ne_eq, not_true_eq_false, if_false, if_neg hn]
  rw [h2]
  simp only [not_true_eq_false, if_false]
  rw [if_neg (by rw [hm]; decide)]

theorem ok_short {t : List Row} (h : ∀ r ∈ t, rowOk r = true) : Short t := fun r hr => by
  obtain ⟨h1, h2⟩ := rowOk_parts (h r hr)
  have a := (idIs_parts h1).2.1
  have b := vaMay_parts h2
  omega

end Go.Proofs.Ytohfhphiofobcaa

end

section

/-
  THE CONTRACT OF THE DOCUMENT'S Take (of a table).
-/
namespace Go.Proofs.Ytohfhphiofobcaa
open Go.RowKit

end Go.Proofs.Ytohfhphiofobcaa

end

section

/-
  THE CONTRACTS OF digest.Get AND OF THE DOCUMENT'S ANSWER TO IT.
-/
namespace Go.Proofs.Ytohfhphiofobcaa
open Go.RowKit

/-- Two results: value, whether it is there. -/
def pairG (r : Val × Bool) : Value := .tuple #[valV r.1, .bool r.2]

end Go.Proofs.Ytohfhphiofobcaa

end

section

/-
  THE CONTRACTS OF slices.Clone, slices.IndexFunc, slices.DeleteFunc (of rows, at the one predicate that asks for a Contact) AND OF digest.without.
-/
namespace Go.Proofs.Ytohfhphiofobcaa
open Go.RowKit

/-- Where the first row of a Contact stands. -/
def Found (t : List Row) (key : List UInt8) (n : Int) : Prop :=
  (∃ k : Nat, k < t.length ∧ n = k ∧ (t.getD k Row.zero).c = key ∧ ∀ j, j < k → ¬ (t.getD j Row.zero).c = key) ∨ (n = -1 ∧ ∀ j, j < t.length → ¬ (t.getD j Row.zero).c = key)

/-- What a row of the table holds, at its cells. -/
theorem OwnR.row {w : World} {base g n cap : Nat} {u : List Row} (h : OwnR w base (.slice (some ⟨g, 0, none⟩) n cap) u) {k : Nat} (hk : k < u.length) : Cells5 w g (k * 5) (u.getD k Row.zero) := by
  refine cells5_of fun j x hx => ?_
  have hj : j < 5 := by have := (List.getElem?_eq_some_iff.1 hx).1; rwa [rowVals_len] at this
  rw [h.cellAt _ (by omega), cellsOf_at u k j hk hj, hx]

/-- Where DeleteFunc stands: rows kept up to i, rows looked at up to j. -/
def DelAt (t u : List Row) (key : List UInt8) (i j : Nat) : Prop := u.length = t.length ∧ i < j ∧ j ≤ t.length ∧ u.take i = diRest (t.take j) key ∧ u.drop j = t.drop j

end Go.Proofs.Ytohfhphiofobcaa

end

section

/-
  THE CONTRACTS OF slices.Clone (of rows) AND OF digest.without.
-/
namespace Go.Proofs.Ytohfhphiofobcaa
open Go.RowKit

/-- The cells of a table, at its slice's address. -/
theorem Tab.src {w : World} {ad : Addr} {n cap : Nat} {t : List Row} (h : Tab w (.slice (some ad) n cap) t) : SrcR w ad t := by
  obtain ⟨a', cap', e, _, _, _, h⟩ := h
  simp only [Value.slice.injEq] at e
  intro j u hu
  have hj := (List.getElem?_eq_some_iff.1 hu).1
  rw [cellsOf_len] at hj
  rcases h with h | ⟨b, off, e', _, hc⟩
  · rw [h] at hj; simp at hj
  · have e2 := e.1.trans e'
    injection e2 with e2
    subst e2
    have hd : j = j / 5 * 5 + j % 5 := by omega
    rw [hd, cellsOf_at t (j / 5) (j % 5) (by omega) (by omega)] at hu
    have := cells5_get (hc (j / 5) (by omega)) (j % 5) u hu
    rw [Addr.add_lit, hd, ← Nat.add_assoc]
    exact this

end Go.Proofs.Ytohfhphiofobcaa

end

section

/-
  THE CONTRACT OF slices.Insert (of one row, into a table of the call's own).
-/
namespace Go.Proofs.Ytohfhphiofobcaa
open Go.RowKit

/-- Block B holds one row, and nothing else. -/
def Lone (w : World) (B : Nat) (r : Row) : Prop := w.heap[B]? = some (.cells #[.string ⟨r.c.toArray⟩, .int .i64 r.v.sh, .int .i64 r.v.pr, .int .i64 r.v.si, .string ⟨r.v.st.toArray⟩] 82 (0, 0))

theorem Lone.later {w w' : World} {B : Nat} {r : Row} (h : Lone w B r) (hb : Below w.heap.size w w') : Lone w' B r :=
  (hb.block B (Array.getElem?_eq_some_iff.1 h).1).trans h

theorem Lone.lt {w : World} {B : Nat} {r : Row} (h : Lone w B r) : B < w.heap.size := (Array.getElem?_eq_some_iff.1 h).1

theorem Lone.src {w : World} {B : Nat} {r : Row} (h : Lone w B r) : SrcR w ⟨B, 0, none⟩ [r] := by
  intro j u hu
  rw [cellsOf_one] at hu
  rw [Addr.add_lit, Nat.zero_add, cell_of_row w B j _ _ (0, 0) h, ← hu]
  simp [rowVals]

/-- One row put in. -/
def put1 (t : List Row) (i : Nat) (r : Row) : List Row := t.take i ++ ([r] ++ t.drop i)

end Go.Proofs.Ytohfhphiofobcaa

end

section

/-
  THE CONTRACT OF slices.Insert WHERE THERE IS ROOM; the contract whole.
-/
namespace Go.Proofs.Ytohfhphiofobcaa
open Go.RowKit

/-- Cells of a table of the call's own, whatever they hold. -/
def OwnC5 (w : World) (base g n cap : Nat) (xs : List Value) : Prop := w.ownsRow base 82 5 (.slice (some ⟨g, 0, none⟩) n cap) n xs

theorem OwnC5.head {w : World} {base g n cap : Nat} {xs : List Value} (h : OwnC5 w base g n cap xs) : base ≤ g ∧ xs.length = n * 5 ∧ ∃ cur : Array Value, w.heap[g]? = some (.cells cur 82 (0, 0)) ∧ cur.size = cap * 5 := by
  rcases h with ⟨h0, ⟨h', _⟩ | ⟨g', cap', cur, h', hb, hg, hnc, hcm, hcs, _⟩⟩
  · simp at h'
  · simp only [Value.slice.injEq, Option.some.injEq, Addr.mk.injEq, and_true, true_and] at h'
    obtain ⟨rfl, rfl⟩ := h'
    exact ⟨hb, h0, cur, hg, hcs⟩

theorem OwnC5.drew {w : World} {base g n cap : Nat} {xs : List Value} (h : OwnC5 w base g n cap xs) : OwnC5 w.drew base g n cap xs := World.ownsRow.drew h

theorem OwnC5.rows {w : World} {base g cap n : Nat} {t : List Row} (h : OwnC5 w base g n cap (cellsOf t)) (hn : n = t.length) : OwnR w base (.slice (some ⟨g, 0, none⟩) n cap) t := by
  subst hn
  exact h

end Go.Proofs.Ytohfhphiofobcaa

end

section

/-
  ROWS OF TEXTS IN MEMORY, over any program: what they hold, and what append makes of them.
-/
namespace Go.Proofs.Ytohfhphiofobcaa
open Go.RowKit

/-- A text as a cell's value. -/
def encS (l : List UInt8) : Value := .string ⟨l.toArray⟩

/-- Which list of texts a slice holds. -/
def Texts (w : World) (v : Value) (ls : List (List UInt8)) : Prop :=
  ∃ a cap, v = .slice a ls.length cap ∧ ls.length ≤ cap ∧ cap ≤ maxLen ∧ (a = none → cap = 0) ∧
    (ls = [] ∨ ∃ b off, a = some ⟨b, off, none⟩ ∧ b < w.heap.size ∧ ∀ i, i < ls.length → w.cell? ⟨b, off + i, none⟩ = some (encS (ls.getD i [])))

theorem Texts.later {w w' : World} {v : Value} {ls : List (List UInt8)} (h : Texts w v ls) (hb : Below w.heap.size w w') : Texts w' v ls := by
  obtain ⟨a, cap, h1, h2, h3, h4, h5⟩ := h
  refine ⟨a, cap, h1, h2, h3, h4, ?_⟩
  rcases h5 with h5 | ⟨b, off, e, hlt, hc⟩
  · exact .inl h5
  · exact .inr ⟨b, off, e, Nat.lt_of_lt_of_le hlt hb.size, fun i hi => (hb.cell (p := ⟨b, off + i, none⟩) hlt).trans (hc i hi)⟩

theorem texts_nil (w : World) : Texts w (.slice none 0 0) [] := ⟨none, 0, rfl, by simp, by simp, fun _ => rfl, .inl rfl⟩

/-- A row of the call's own. -/
theorem texts_of_own {w : World} {base e : Nat} {v : Value} {ls : List (List UInt8)} (h : w.ownsRow base e 1 v ls.length (ls.map encS)) : Texts w v ls := by
  rcases h with ⟨_, ⟨rfl, h0⟩ | ⟨g, cap, cur, rfl, hb, hg, hn, hc, hsz, htk⟩⟩
  · obtain rfl : ls = [] := List.length_eq_zero_iff.1 h0
    exact texts_nil w
  · refine ⟨some ⟨g, 0, none⟩, cap, rfl, hn, hc, (fun e => by cases e), ?_⟩
    refine .inr ⟨g, 0, rfl, (Array.getElem?_eq_some_iff.1 hg).1, fun i hi => ?_⟩
    rw [Nat.zero_add, cell_of_row w g i cur e (0, 0) hg]
    have h1 : cur.toList[i]? = (ls.map encS)[i]? := by
      rw [← htk, List.getElem?_take, if_pos (by omega)]
    have h2 : (ls.map encS)[i]? = some (encS (ls.getD i [])) := by
      simp [List.getD, List.getElem?_eq_getElem hi]
    rw [← h2, ← h1]
    simp

/-- A row of texts of the call's own. -/
def OwnT (w : World) (base e : Nat) (v : Value) (ls : List (List UInt8)) : Prop := w.ownsRow base e 1 v ls.length (ls.map encS)

theorem OwnT.alloc {w : World} {base e : Nat} {v : Value} {ls : List (List UInt8)} (h : OwnT w base e v ls) (o : Obj) : OwnT (w.alloc o) base e v ls := World.ownsRow.alloc h o
theorem OwnT.texts {w : World} {base e : Nat} {v : Value} {ls : List (List UInt8)} (h : OwnT w base e v ls) : Texts w v ls := texts_of_own h
end Go.Proofs.Ytohfhphiofobcaa

end

section

/-
  THE CONTRACTS OF THE DOCUMENT'S Few AND Same.
-/
namespace Go.Proofs.Ytohfhphiofobcaa
open Go.RowKit

def fewB (ls : List (List UInt8)) : Bool := decide (ls.length ≤ 30) && ls.all fun t => decide (t.length ≤ 30)

theorem getD_some {ls : List (List UInt8)} {k : Nat} (h : k < ls.length) : ls[k]? = some (ls.getD k []) := by simp [List.getD, List.getElem?_eq_getElem h]

end Go.Proofs.Ytohfhphiofobcaa

end

section

/-
  THE CONTRACTS OF THE DOCUMENT'S put AND Merge.
-/
namespace Go.Proofs.Ytohfhphiofobcaa
open Go.RowKit

/-- What Merge hands to put: nil, or a row that is not empty. -/
def Heaped (w : World) (v : Value) (ls : List (List UInt8)) : Prop := Texts w v ls ∧ (ls = [] → v = .slice none 0 0)

end Go.Proofs.Ytohfhphiofobcaa

end

section

/-
  THE CONTRACT OF THE DOCUMENT'S Merge.
-/
namespace Go.Proofs.Ytohfhphiofobcaa
open Go.RowKit

theorem Heaped.later {w w' : World} {v : Value} {ls : List (List UInt8)} (h : Heaped w v ls) (hb : Below w.heap.size w w') : Heaped w' v ls := ⟨h.1.later hb, h.2⟩

/-- A cell of a row, in a later world. -/
theorem Texts.cell {w wr : World} {a : Option Addr} {n cap : Nat} {ls : List (List UInt8)} (h : Texts w (.slice a n cap) ls) (hb : Below w.heap.size w wr) (k : Nat) (hk : k < ls.length) :
    ∃ b off, a = some ⟨b, off, none⟩ ∧ wr.cell? ⟨b, off + k, none⟩ = some (.string ⟨(ls.getD k []).toArray⟩) := by
  obtain ⟨a', cap', e, _, _, _, h⟩ := h.later hb
  simp only [Value.slice.injEq] at e
  rcases h with h | ⟨b, off, e', _, hc⟩
  · rw [h] at hk; simp at hk
  · exact ⟨b, off, e.1.trans e', hc k hk⟩

end Go.Proofs.Ytohfhphiofobcaa

end

section

/-
  THE CONTRACTS OF slices.Grow (of nil) AND slices.Concat (of two rows of texts), AT THIS PROGRAM.
-/
namespace Go.Proofs.Ytohfhphiofobcaa
open Go.RowKit

end Go.Proofs.Ytohfhphiofobcaa

end

section

/-
  THE CONTRACT OF ident.Merge: the lists as one, sorted, each text once.
-/
namespace Go.Proofs.Ytohfhphiofobcaa
open Go.RowKit Go.Lib Go.Sort

end Go.Proofs.Ytohfhphiofobcaa

end

section

/-
  THE CONTRACTS OF digest.place, digest.contacts AND OF THE DOCUMENT'S contacts.
-/
namespace Go.Proofs.Ytohfhphiofobcaa
open Go.RowKit

/-- A row of texts that may be written. -/
def RowT (w : World) (B : Nat) (u : List (List UInt8)) : Prop := ∀ j, j < u.length → w.cell? ⟨B, j, none⟩ = some (encS (u.getD j [])) ∧ w.frozen? ⟨B, j, none⟩ = false

theorem RowT.set {w : World} {B : Nat} {u : List (List UInt8)} (h : RowT w B u) (j : Nat) (x : List UInt8) (hj : j < u.length) : RowT (w.setCell ⟨B, j, none⟩ (encS x)) B (u.set j x) := by
  intro i hi
  have hi' : i < u.length := by simpa using hi
  refine ⟨?_, (World.frozen?_setCell w _ _ _).trans (h i hi').2⟩
  by_cases hij : i = j
  · subst hij
    rw [World.cell?_setCell_same _ _ _ (h i hj).1]
    simp [List.getD, hj]
  · rw [World.cell?_setCell_other _ _ _ _ (by simp), (h i hi').1]
    simp [List.getD, show ¬ j = i by omega]

theorem RowT.later {w w' : World} {B : Nat} {u : List (List UInt8)} (h : RowT w B u) (hB : B < w.heap.size) (hb : Below w.heap.size w w') : RowT w' B u := fun j hj =>
  ⟨(hb.cell (p := ⟨B, j, none⟩) hB).trans (h j hj).1, (hb.frozen (p := ⟨B, j, none⟩) hB).trans (h j hj).2⟩

theorem RowT.texts {w : World} {B : Nat} {u : List (List UInt8)} (h : RowT w B u) (hB : B < w.heap.size) (hl : u.length ≤ 4294967296) : Texts w (.slice (some ⟨B, 0, none⟩) u.length u.length) u :=
  ⟨_, u.length, rfl, Nat.le_refl _, by unfold maxLen; omega, (fun e => by cases e), .inr ⟨B, 0, rfl, hB, fun i hi => by rw [Nat.zero_add]; exact (h i hi).1⟩⟩

/-- The contacts up to k, and nothing yet behind. -/
def ctsAt (t : List Row) (k : Nat) : List (List UInt8) := (cts t).take k ++ List.replicate (t.length - k) []

end Go.Proofs.Ytohfhphiofobcaa

end

section

/-
  THE CONTRACT OF digest.Set.
-/
namespace Go.Proofs.Ytohfhphiofobcaa
open Go.RowKit

theorem OwnR.drew {w : World} {base : Nat} {v : Value} {t : List Row} (h : OwnR w base v t) : OwnR w.drew base v t := World.ownsRow.drew h

def chgAgg (c : Chg) : Value := .agg #[.string ⟨c.c.toArray⟩, .bool c.on, .int .i64 c.v.sh, .int .i64 c.v.pr, .int .i64 c.v.si, .string ⟨c.v.st.toArray⟩]

end Go.Proofs.Ytohfhphiofobcaa

end

section

/-
  FOR THE FRAMES OF LAYER 5's PROOFS: tables and changes that came in, opened.
-/
namespace Go.Proofs.Ytohfhphiofobcaa
open Go.ChangeShapes Go.WideShapes Go.ChangeAt Go.RowKit Go.Deep

section
variable {H : Type} {enc : TypeId × Value → H} {w : World} {base : Nat} {spare : Nat → Bool} {held : Bool}

theorem trod_int1 {fuel : Nat} {cs : List Value} {x : DataW H × List MemPlace} (h : DataW.trod enc Try.prog w base spare held fuel 3 cs = some x) : ∃ z, cs = [.int .i64 z] := by
  obtain ⟨z, e, _, _⟩ := DataW.trod_int Try.underlying3 h
  exact ⟨z, e⟩

theorem trod_text {fuel : Nat} {cs : List Value} {x : DataW H × List MemPlace} (h : DataW.trod enc Try.prog w base spare held fuel 9 cs = some x) : ∃ l : List UInt8, cs = [.string ⟨l.toArray⟩] ∧ l.length ≤ maxLen := by
  obtain ⟨s, e, _, ws⟩ := DataW.trod_string Try.underlying9 h
  exact ⟨s.data.toList, by rw [e], Nat.le_trans (Nat.le_of_eq (Array.length_toList (xs := s.data))) ws⟩

theorem trod_truth {fuel : Nat} {cs : List Value} {x : DataW H × List MemPlace} (h : DataW.trod enc Try.prog w base spare held fuel 4 cs = some x) : ∃ b, cs = [.bool b] := by
  obtain ⟨b, e, _⟩ := DataW.trod_bool Try.underlying4 h
  exact ⟨b, e⟩

theorem list4 {α : Type} {l : List α} (h : l.length = 4) : ∃ a b c d, l = [a, b, c, d] := by
  match l, h with
  | [a, b, c, d], _ => exact ⟨a, b, c, d, rfl⟩
theorem list5 {α : Type} {l : List α} (h : l.length = 5) : ∃ a b c d e, l = [a, b, c, d, e] := by
  match l, h with
  | [a, b, c, d, e], _ => exact ⟨a, b, c, d, e, rfl⟩
set_option maxRecDepth 100000 in
/-- A value's cells. -/
theorem trod_value {fuel : Nat} {cs : List Value} {x : DataW H × List MemPlace} (h : DataW.trod enc Try.prog w base spare held fuel 23 cs = some x) :
    ∃ v : Val, cs = [.int .i64 v.sh, .int .i64 v.pr, .int .i64 v.si, .string ⟨v.st.toArray⟩] ∧ v.st.length ≤ maxLen := by
  obtain ⟨xs, n, _, _, hl, hx, hf⟩ := DataW.trod_struct Try.underlying23 h
  have c35 : Try.prog.cellsOf 23 = 4 := by kernel_rfl
  have c3 : Try.prog.cellsOf 3 = 1 := by kernel_rfl
  have c9 : Try.prog.cellsOf 9 = 1 := by kernel_rfl
  rw [c35] at hl
  obtain ⟨a, b, c, d, rfl⟩ := list4 hl
  have get : ∀ i, i < 4 → xs[i]? = some (xs.getD i (.nil, [])) := fun i hi => by
    have : i < xs.length := by rw [hx]; exact hi
    simp [List.getD, List.getElem?_eq_getElem this]
  have f0 : DataW.trod enc Try.prog w base spare held n 3 (([a, b, c, d].drop 0).take (Try.prog.cellsOf 3)) = some (xs.getD 0 (.nil, [])) := (hf 0 _ rfl).trans (get 0 (by omega))
  have f1 : DataW.trod enc Try.prog w base spare held n 3 (([a, b, c, d].drop 1).take (Try.prog.cellsOf 3)) = some (xs.getD 1 (.nil, [])) := (hf 1 _ rfl).trans (get 1 (by omega))
  have f2 : DataW.trod enc Try.prog w base spare held n 3 (([a, b, c, d].drop 2).take (Try.prog.cellsOf 3)) = some (xs.getD 2 (.nil, [])) := (hf 2 _ rfl).trans (get 2 (by omega))
  have f3 : DataW.trod enc Try.prog w base spare held n 9 (([a, b, c, d].drop 3).take (Try.prog.cellsOf 9)) = some (xs.getD 3 (.nil, [])) := (hf 3 _ rfl).trans (get 3 (by omega))
  rw [c3] at f0 f1 f2
  rw [c9] at f3
  obtain ⟨z0, e0⟩ := trod_int1 f0
  obtain ⟨z1, e1⟩ := trod_int1 f1
  obtain ⟨z2, e2⟩ := trod_int1 f2
  obtain ⟨l, e3, w3⟩ := trod_text f3
  simp at e0 e1 e2 e3
  subst e0 e1 e2 e3
  exact ⟨⟨z0, z1, z2, l⟩, rfl, w3⟩

set_option maxRecDepth 100000 in
/-- A row's cells. -/
theorem trod_row {fuel : Nat} {cs : List Value} {x : DataW H × List MemPlace} (h : DataW.trod enc Try.prog w base spare held fuel 82 cs = some x) :
    ∃ r : Row, cs = rowVals r ∧ r.c.length ≤ maxLen ∧ r.v.st.length ≤ maxLen := by
  obtain ⟨xs, n, _, _, hl, hx, hf⟩ := DataW.trod_struct Try.underlying82 h
  have c48 : Try.prog.cellsOf 82 = 5 := by kernel_rfl
  have c35 : Try.prog.cellsOf 23 = 4 := by kernel_rfl
  have c9 : Try.prog.cellsOf 9 = 1 := by kernel_rfl
  rw [c48] at hl
  obtain ⟨a, b, c, d, e, rfl⟩ := list5 hl
  have get : ∀ i, i < 2 → xs[i]? = some (xs.getD i (.nil, [])) := fun i hi => by
    have : i < xs.length := by rw [hx]; exact hi
    simp [List.getD, List.getElem?_eq_getElem this]
  have f0 : DataW.trod enc Try.prog w base spare held n 9 (([a, b, c, d, e].drop 0).take (Try.prog.cellsOf 9)) = some (xs.getD 0 (.nil, [])) := (hf 0 _ rfl).trans (get 0 (by omega))
  have f1 : DataW.trod enc Try.prog w base spare held n 23 (([a, b, c, d, e].drop 1).take (Try.prog.cellsOf 23)) = some (xs.getD 1 (.nil, [])) := (hf 1 _ rfl).trans (get 1 (by omega))
  rw [c9] at f0
  rw [c35] at f1
  obtain ⟨l, e0, w0⟩ := trod_text f0
  obtain ⟨v, e1, w1⟩ := trod_value f1
  simp at e0 e1
  obtain ⟨e1, e2, e3, e4⟩ := e1
  subst e0 e1 e2 e3 e4
  exact ⟨⟨l, v⟩, rfl, w0, w1⟩

theorem choose_rows {n : Nat} {Q : Nat → Row → Prop} (h : ∀ i, i < n → ∃ r, Q i r) : ∃ t : List Row, t.length = n ∧ ∀ i, i < n → Q i (t.getD i Row.zero) := by
  induction n with
  | zero => exact ⟨[], rfl, fun i hi => absurd hi (by omega)⟩
  | succ n ih =>
    obtain ⟨t, hl, ht⟩ := ih fun i hi => h i (by omega)
    obtain ⟨r, hr⟩ := h n (by omega)
    refine ⟨t ++ [r], by simp [hl], fun i hi => ?_⟩
    by_cases hin : i < n
    · have := ht i hin
      simp only [List.getD] at this ⊢
      rwa [List.getElem?_append_left (by omega)]
    · obtain rfl : i = n := by omega
      simp only [List.getD]
      rw [List.getElem?_append_right (by omega), hl]
      simpa using hr

set_option maxRecDepth 100000 in
/-- A table that came in. -/
theorem open_tab {r : Reach} {b0 : Nat} {v : Value} {d : DataW H} {p : List MemPlace} (hv : Value.okWide Try.prog w r b0 25 v) (h : DataW.Trod enc Try.prog w base spare held 25 v d p) :
    ∃ t : List Row, Tab w v t ∧ ∀ r ∈ t, r.c.length ≤ maxLen ∧ r.v.st.length ≤ maxLen := by
  obtain ⟨a, len, cap, rfl⟩ := okWide_slice Try.underlying25 hv
  obtain ⟨fuel, hf⟩ := h
  rcases open_slice Try.underlying25 hf with ⟨hcs, _⟩ | ⟨x, l, c, m, n, D, Pl, hcs, _, hl, hm, hmm, _, hi⟩
  · simp [Value.cells] at hcs
    obtain ⟨rfl, rfl, rfl⟩ := hcs
    exact ⟨[], tab_nil w, by simp⟩
  · simp [Value.cells] at hcs
    obtain ⟨rfl, rfl, rfl⟩ := hcs
    have hlm : len ≤ m := by rw [hmm]; split <;> omega
    have c48 : Try.prog.cellsOf 82 = 5 := by kernel_rfl
    rw [c48] at hi
    obtain ⟨t, htl, ht⟩ := choose_rows (n := len) (Q := fun i r => (∀ j u, (rowVals r)[j]? = some u → w.cell? ((x.add (i * 5)).add j) = some u) ∧ r.c.length ≤ maxLen ∧ r.v.st.length ≤ maxLen) (fun i hil => by
      obtain ⟨cs', hc, htr⟩ := hi i (by omega)
      obtain ⟨_, hcl, hat⟩ := World.cells?_some hc
      obtain ⟨r, rfl, w1, w2⟩ := trod_row htr
      refine ⟨r, fun j u hu => ?_, w1, w2⟩
      have hj : j < 5 := by have := (List.getElem?_eq_some_iff.1 hu).1; rwa [rowVals_len] at this
      rw [hat j hj, hu])
    refine ⟨t, ⟨some x, cap, by rw [htl], by omega, by omega, (fun e => by cases e), ?_⟩, fun r hr => ?_⟩
    · by_cases h0 : len = 0
      · exact .inl (List.length_eq_zero_iff.1 (by omega))
      · obtain ⟨b, off, spot⟩ := x
        have hc := (ht 0 (by omega)).1 0 _ rfl
        have hspot : spot = none := by simpa [Addr.add] using World.cell?_spot hc
        subst hspot
        refine .inr ⟨b, off, rfl, ?_, fun i hil => cells5_of fun j u hu => ?_⟩
        · have := World.block_lt_of_cell? w _ hc
          simpa [Addr.add] using this
        · have := (ht i (by omega)).1 j u hu
          rwa [Addr.add_lit, Addr.add_lit] at this
    · obtain ⟨i, hil, rfl⟩ := List.getElem_of_mem hr
      rw [row_get hil]
      exact (ht i (by omega)).2

end

end Go.Proofs.Ytohfhphiofobcaa

end

section

/-
  PLAIN MATHEMATICS OF LAYER 2 (crc): a sum of 32 bits, how it goes by XOR, and that four bytes changed are told. No program in sight.
-/
namespace Go.Proofs.Ytohfhphiofobcaa

/-- One bit. -/
def c1 (x : Nat) : Nat := if x % 2 = 1 then x / 2 ^^^ 3988292384 else x / 2

/-- k bits. -/
def cN : Nat → Nat → Nat
  | 0, x => x
  | k + 1, x => cN k (c1 x)

def cstep (c b : Nat) : Nat := cN 8 (c ^^^ b)

def cfold (c : Nat) (l : List UInt8) : Nat := l.foldl (fun c b => cstep c b.toNat) c

def csum (l : List UInt8) : Nat := cfold 4294967295 l ^^^ 4294967295

def low4 (n : Nat) : List UInt8 := [u8of (n % 256), u8of (n / 256 % 256), u8of (n / 65536 % 256), u8of (n / 16777216 % 256)]

def cseal (l : List UInt8) : List UInt8 := l ++ low4 (csum l)

def copen (t : List UInt8) : List UInt8 × Nat :=
  if t.length < 4 then ([], 2) else if t.drop (t.length - 4) = low4 (csum (t.take (t.length - 4))) then (t.take (t.length - 4), 0) else ([], 4)

theorem xor_cancel (x y : Nat) : x ^^^ y ^^^ y = x := by rw [Nat.xor_assoc, Nat.xor_self, Nat.xor_zero]

theorem xor_zero_eq {x y : Nat} (h : x ^^^ y = 0) : x = y := by
  have := xor_cancel x y
  rw [h, Nat.zero_xor] at this
  exact this.symm

theorem c1_zero : c1 0 = 0 := by simp [c1]

theorem c1_xor (x y : Nat) : c1 (x ^^^ y) = c1 x ^^^ c1 y := by
  unfold c1
  have h := @Nat.xor_mod_two_eq_one x y
  rw [Nat.xor_div_two]
  by_cases hx : x % 2 = 1
  · by_cases hy : y % 2 = 1
    · rw [if_neg (by rw [h]; simp [hx, hy]), if_pos hx, if_pos hy]
      rw [Nat.xor_assoc (x / 2), ← Nat.xor_assoc 3988292384, Nat.xor_comm 3988292384 (y / 2), xor_cancel]
    · rw [if_pos (by rw [h]; simp [hx, hy]), if_pos hx, if_neg hy]
      rw [Nat.xor_assoc, Nat.xor_assoc, Nat.xor_comm (y / 2)]
  · by_cases hy : y % 2 = 1
    · rw [if_pos (by rw [h]; simp [hx, hy]), if_neg hx, if_pos hy, Nat.xor_assoc]
    · rw [if_neg (by rw [h]; simp [hx, hy]), if_neg hx, if_neg hy]

theorem c1_lt {x : Nat} (h : x < 4294967296) : c1 x < 4294967296 := by
  unfold c1
  split
  · exact Nat.xor_lt_two_pow (n := 32) (by omega) (by omega)
  · omega

theorem c1_zero_of {x : Nat} (h : x < 4294967296) (h0 : c1 x = 0) : x = 0 := by
  unfold c1 at h0
  split at h0
  · have := xor_zero_eq h0
    omega
  · omega

theorem c1_double (x : Nat) : c1 (2 * x) = x := by
  unfold c1
  rw [if_neg (by omega)]
  omega

theorem cN_zero : ∀ k, cN k 0 = 0
  | 0 => rfl
  | k + 1 => by rw [cN, c1_zero]; exact cN_zero k

theorem cN_xor : ∀ (k x y : Nat), cN k (x ^^^ y) = cN k x ^^^ cN k y
  | 0, _, _ => rfl
  | k + 1, x, y => by simp only [cN]; rw [c1_xor]; exact cN_xor k _ _

theorem cN_lt : ∀ (k : Nat) {x : Nat}, x < 4294967296 → cN k x < 4294967296
  | 0, _, h => h
  | k + 1, _, h => cN_lt k (c1_lt h)

theorem cN_zero_of : ∀ (k : Nat) {x : Nat}, x < 4294967296 → cN k x = 0 → x = 0
  | 0, _, _, h0 => h0
  | k + 1, _, h, h0 => c1_zero_of h (cN_zero_of k (c1_lt h) h0)

theorem cN_add : ∀ (j k x : Nat), cN (j + k) x = cN k (cN j x)
  | 0, k, x => by rw [Nat.zero_add]; rfl
  | j + 1, k, x => by rw [show j + 1 + k = (j + k) + 1 by omega]; simp only [cN]; exact cN_add j k _

theorem cN_shift : ∀ (k x : Nat), cN k (x * 2 ^ k) = x
  | 0, x => by simp [cN]
  | k + 1, x => by
    simp only [cN]
    rw [Nat.pow_succ, Nat.mul_comm (2 ^ k) 2, ← Nat.mul_assoc, Nat.mul_comm x 2, Nat.mul_assoc, c1_double]
    exact cN_shift k x

theorem cstep_lt {c b : Nat} (hc : c < 4294967296) (hb : b < 4294967296) : cstep c b < 4294967296 := cN_lt 8 (Nat.xor_lt_two_pow (n := 32) hc hb)

theorem cfold_lt : ∀ (l : List UInt8) {c : Nat}, c < 4294967296 → cfold c l < 4294967296
  | [], _, h => h
  | b :: l, _, h => cfold_lt l (cstep_lt h (by have := b.toNat_lt; omega))

theorem cfold_nil (c : Nat) : cfold c [] = c := rfl
theorem cfold_cons (c : Nat) (b : UInt8) (l : List UInt8) : cfold c (b :: l) = cfold (cstep c b.toNat) l := rfl
theorem cfold_append (c : Nat) (a b : List UInt8) : cfold c (a ++ b) = cfold (cfold c a) b := by unfold cfold; exact List.foldl_append

theorem csum_lt (l : List UInt8) : csum l < 4294967296 := Nat.xor_lt_two_pow (n := 32) (cfold_lt l (by decide)) (by decide)

/-- The register goes by XOR. -/
theorem cfold_xor_reg : ∀ (l : List UInt8) (c d : Nat), cfold (c ^^^ d) l = cfold c l ^^^ cN (8 * l.length) d
  | [], c, d => by simp [cfold, cN]
  | b :: l, c, d => by
    rw [cfold_cons, cfold_cons]
    have e : cstep (c ^^^ d) b.toNat = cstep c b.toNat ^^^ cN 8 d := by
      unfold cstep
      rw [← cN_xor, Nat.xor_assoc, Nat.xor_comm d, ← Nat.xor_assoc]
    rw [e, cfold_xor_reg l, List.length_cons, show 8 * (l.length + 1) = 8 + 8 * l.length by omega, cN_add]

/-- One byte that is changed. -/
theorem cfold_set : ∀ (l : List UInt8) (c j : Nat) (m : UInt8) (h : j < l.length), cfold c (l.set j (l[j] ^^^ m)) = cfold c l ^^^ cN (8 * (l.length - j)) m.toNat
  | [], _, _, _, h => by simp at h
  | b :: l, c, 0, m, _ => by
    simp only [List.set_cons_zero, List.getElem_cons_zero, List.length_cons, Nat.sub_zero]
    rw [cfold_cons, cfold_cons, UInt8.toNat_xor]
    have e : cstep c (b.toNat ^^^ m.toNat) = cstep c b.toNat ^^^ cN 8 m.toNat := by
      unfold cstep
      rw [← Nat.xor_assoc, cN_xor]
    rw [e, cfold_xor_reg, show 8 * (l.length + 1) = 8 + 8 * l.length by omega, cN_add]
  | b :: l, c, j + 1, m, h => by
    simp only [List.length_cons] at h
    simp only [List.set_cons_succ, List.getElem_cons_succ, List.length_cons]
    rw [cfold_cons, cfold_cons, cfold_set l _ j m (by omega), show l.length + 1 - (j + 1) = l.length - j by omega]

theorem split8 (v : Nat) : v = v % 256 ^^^ v / 256 * 256 := by
  have h1 : v % 256 < 2 ^ 8 := by omega
  have h2 := Nat.two_pow_add_eq_or_of_lt h1 (v / 256)
  apply Nat.eq_of_testBit_eq
  intro i
  rw [Nat.testBit_xor, show (256 : Nat) = 2 ^ 8 from rfl, Nat.testBit_mod_two_pow, Nat.testBit_mul_two_pow, Nat.testBit_div_two_pow]
  by_cases h : i < 8
  · simp [h, show ¬ 8 ≤ i by omega]
  · simp [h, show 8 ≤ i by omega]

/-- Eight bits of a register into which a word is put. -/
theorem cN8_word (c v : Nat) : cN 8 (c ^^^ v) = cstep c (v % 256) ^^^ v / 256 := by
  conv => lhs; rw [split8 v, ← Nat.xor_assoc, cN_xor]
  rw [show (256 : Nat) = 2 ^ 8 from rfl, cN_shift]
  rfl

theorem low4_fold (c v : Nat) (hv : v < 4294967296) : cfold c (low4 v) = cN 32 (c ^^^ v) := by
  rw [show (32 : Nat) = 8 + (8 + (8 + 8)) from rfl, cN_add, cN8_word, cN_add, cN8_word, cN_add, cN8_word, cN8_word]
  simp only [low4, cfold_cons, cfold_nil]
  rw [u8of_toNat (by omega), u8of_toNat (by omega), u8of_toNat (by omega), u8of_toNat (by omega)]
  rw [show v / 256 / 256 = v / 65536 by omega, show v / 65536 / 256 = v / 16777216 by omega, show v / 16777216 / 256 = 0 by omega, Nat.xor_zero]

/-- What a sealed text's register comes to. -/
def cK : Nat := cN 32 4294967295

theorem cseal_fold (s : List UInt8) : cfold 4294967295 (cseal s) = cK := by
  unfold cseal cK
  rw [cfold_append, low4_fold _ _ (csum_lt s)]
  congr 1
  unfold csum
  rw [← Nat.xor_assoc, Nat.xor_self, Nat.zero_xor]

theorem copen_seal (s : List UInt8) : copen (cseal s) = (s, 0) := by
  have hl : (cseal s).length = s.length + 4 := by simp [cseal, low4]
  unfold copen
  rw [if_neg (by omega), hl, Nat.add_sub_cancel]
  have e1 : (cseal s).take s.length = s := by simp [cseal]
  have e2 : (cseal s).drop s.length = low4 (csum s) := by simp [cseal]
  rw [e1, e2, if_pos rfl]

theorem copen_ok {t s : List UInt8} (h : copen t = (s, 0)) : cseal s = t := by
  unfold copen at h
  split at h
  · simp at h
  · split at h
    · rename_i h4 hd
      simp only [Prod.mk.injEq, and_true] at h
      subst h
      unfold cseal
      rw [← hd, List.take_append_drop]
    · simp at h

theorem copen_spoilt {t : List UInt8} (h : 4 ≤ t.length) (hk : cfold 4294967295 t ≠ cK) : copen t = ([], 4) := by
  unfold copen
  rw [if_neg (by omega)]
  split
  · rename_i hd
    exfalso
    apply hk
    conv => lhs; rw [← List.take_append_drop (t.length - 4) t, hd]
    exact cseal_fold _
  · rfl

end Go.Proofs.Ytohfhphiofobcaa

end
