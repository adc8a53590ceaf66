/-
  THE CONTRACT OF digest.takeRow.
-/
import Derived.Test.YtocjeehoghfnmaaDigSum
namespace Go.Proofs.Ytocjeehoghfnmaa
open Go.RowKit

def rowAgg (r : Row) : Value := .agg #[.string ⟨r.c.toArray⟩, .int .i64 r.v.sh, .int .i64 r.v.pr, .int .i64 r.v.si, .string ⟨r.v.st.toArray⟩]

/-- Three results: row, place, error. -/
def tripleR (r : Row × Nat × Nat) : Value := .tuple #[rowAgg r.1, .int .i64 r.2.1, .int .i64 r.2.2]

def set5 (w : World) (B : Nat) (a b c d e : Value) : World :=
  ((((w.setCell ⟨B, 0, none⟩ a).setCell ⟨B, 1, none⟩ b).setCell ⟨B, 2, none⟩ c).setCell ⟨B, 3, none⟩ d).setCell ⟨B, 4, none⟩ e

theorem five_set (w : World) (B : Nat) (a b c d e : Value) {a' b' c' d' e' : Value} (h0 : w.cell? ⟨B, 0, none⟩ = some a') (h1 : w.cell? ⟨B, 1, none⟩ = some b') (h2 : w.cell? ⟨B, 2, none⟩ = some c') (h3 : w.cell? ⟨B, 3, none⟩ = some d') (h4 : w.cell? ⟨B, 4, none⟩ = some e') :
    (set5 w B a b c d e).cell? ⟨B, 0, none⟩ = some a ∧ (set5 w B a b c d e).cell? ⟨B, 1, none⟩ = some b ∧ (set5 w B a b c d e).cell? ⟨B, 2, none⟩ = some c ∧ (set5 w B a b c d e).cell? ⟨B, 3, none⟩ = some d ∧ (set5 w B a b c d e).cell? ⟨B, 4, none⟩ = some e := by
  unfold set5
  have o1 : ((w.setCell ⟨B, 0, none⟩ a)).cell? ⟨B, 1, none⟩ = some b' := by rw [World.cell?_setCell_other _ _ _ _ (by simp)]; exact h1
  have o2 : ((w.setCell ⟨B, 0, none⟩ a).setCell ⟨B, 1, none⟩ b).cell? ⟨B, 2, none⟩ = some c' := by rw [World.cell?_setCell_other _ _ _ _ (by simp), World.cell?_setCell_other _ _ _ _ (by simp)]; exact h2
  have o3 : (((w.setCell ⟨B, 0, none⟩ a).setCell ⟨B, 1, none⟩ b).setCell ⟨B, 2, none⟩ c).cell? ⟨B, 3, none⟩ = some d' := by rw [World.cell?_setCell_other _ _ _ _ (by simp), World.cell?_setCell_other _ _ _ _ (by simp), World.cell?_setCell_other _ _ _ _ (by simp)]; exact h3
  have o4 : ((((w.setCell ⟨B, 0, none⟩ a).setCell ⟨B, 1, none⟩ b).setCell ⟨B, 2, none⟩ c).setCell ⟨B, 3, none⟩ d).cell? ⟨B, 4, none⟩ = some e' := by
    rw [World.cell?_setCell_other _ _ _ _ (by simp), World.cell?_setCell_other _ _ _ _ (by simp), World.cell?_setCell_other _ _ _ _ (by simp), World.cell?_setCell_other _ _ _ _ (by simp)]; exact h4
  refine ⟨?_, ?_, ?_, ?_, ?_⟩
  · rw [World.cell?_setCell_other _ _ _ _ (by simp), World.cell?_setCell_other _ _ _ _ (by simp), World.cell?_setCell_other _ _ _ _ (by simp), World.cell?_setCell_other _ _ _ _ (by simp)]
    exact World.cell?_setCell_same _ _ _ h0
  · rw [World.cell?_setCell_other _ _ _ _ (by simp), World.cell?_setCell_other _ _ _ _ (by simp), World.cell?_setCell_other _ _ _ _ (by simp)]
    exact World.cell?_setCell_same _ _ _ o1
  · rw [World.cell?_setCell_other _ _ _ _ (by simp), World.cell?_setCell_other _ _ _ _ (by simp)]
    exact World.cell?_setCell_same _ _ _ o2
  · rw [World.cell?_setCell_other _ _ _ _ (by simp)]
    exact World.cell?_setCell_same _ _ _ o3
  · exact World.cell?_setCell_same _ _ _ o4

theorem set5_below {w w1 : World} (h : Below w.heap.size w w1) (B : Nat) (hB : w.heap.size ≤ B) (a b c d e : Value) : Below w.heap.size w (set5 w1 B a b c d e) :=
  ((((h.setCell hB _).setCell hB _).setCell hB _).setCell hB _).setCell hB _

/-- None of a block's five cells is frozen. -/
def Free5 (w : World) (b : Nat) : Prop :=
  w.frozen? ⟨b, 0, none⟩ = false ∧ w.frozen? ⟨b, 1, none⟩ = false ∧ w.frozen? ⟨b, 2, none⟩ = false ∧ w.frozen? ⟨b, 3, none⟩ = false ∧ w.frozen? ⟨b, 4, none⟩ = false

theorem Free5.later {w w' : World} {b : Nat} (h : Free5 w b) (hb : Below w.heap.size w w') (hlt : b < w.heap.size) : Free5 w' b := by
  obtain ⟨h0, h1, h2, h3, h4⟩ := h
  have k : ∀ o, w'.frozen? ⟨b, o, none⟩ = w.frozen? ⟨b, o, none⟩ := fun o => hb.frozen (p := ⟨b, o, none⟩) hlt
  exact ⟨(k _).trans h0, (k _).trans h1, (k _).trans h2, (k _).trans h3, (k _).trans h4⟩

theorem free5 {wr w1 : World} {a b c d e : Value} {ty : TypeId} (hb : Below (wr.alloc (.cells #[a, b, c, d, e] ty)).heap.size (wr.alloc (.cells #[a, b, c, d, e] ty)) w1) : Free5 w1 wr.heap.size := by
  have k : ∀ o, w1.frozen? ⟨wr.heap.size, o, none⟩ = false := fun o => by
    rw [hb.frozen (p := ⟨wr.heap.size, o, none⟩) (by show wr.heap.size < _; simp)]
    simp
  exact ⟨k 0, k 1, k 2, k 3, k 4⟩

theorem five_set_alloc (w : World) (B : Nat) (o : Obj) (a b c d e : Value) {a' b' c' d' e' : Value} (h0 : w.cell? ⟨B, 0, none⟩ = some a') (h1 : w.cell? ⟨B, 1, none⟩ = some b') (h2 : w.cell? ⟨B, 2, none⟩ = some c') (h3 : w.cell? ⟨B, 3, none⟩ = some d') (h4 : w.cell? ⟨B, 4, none⟩ = some e') :
    ((set5 w B a b c d e).alloc o).cell? ⟨B, 0, none⟩ = some a ∧ ((set5 w B a b c d e).alloc o).cell? ⟨B, 1, none⟩ = some b ∧ ((set5 w B a b c d e).alloc o).cell? ⟨B, 2, none⟩ = some c ∧ ((set5 w B a b c d e).alloc o).cell? ⟨B, 3, none⟩ = some d ∧ ((set5 w B a b c d e).alloc o).cell? ⟨B, 4, none⟩ = some e := by
  obtain ⟨r0, r1, r2, r3, r4⟩ := five_set w B a b c d e h0 h1 h2 h3 h4
  have hb : Below (set5 w B a b c d e).heap.size (set5 w B a b c d e) ((set5 w B a b c d e).alloc o) := (Below.refl _ _).alloc (Nat.le_refl _) _
  exact ⟨cell_later r0 hb, cell_later r1 hb, cell_later r2 hb, cell_later r3 hb, cell_later r4 hb⟩

theorem taker_id {l : List UInt8} {p : Nat} {c : List UInt8} {f er : Nat} (h : idTake l p = (c, f, er)) (he : er ≠ 0) : diTakeRow l p = (Row.zero, 0, er) := by
  unfold diTakeRow
  rw [h]
  simp only [if_pos he]

theorem taker_va {l : List UInt8} {p : Nat} {c : List UInt8} {f g er : Nat} {v : Val} (h : idTake l p = (c, f, 0)) (h2 : vaTake l f = (v, g, er)) (he : er ≠ 0) : diTakeRow l p = (Row.zero, 0, er) := by
  unfold diTakeRow
  rw [h]
  simp only [ne_eq, not_true_eq_false, if_false]
  rw [h2]
  simp only [if_pos he]

theorem taker_ok {l : List UInt8} {p : Nat} {c : List UInt8} {f g : Nat} {v : Val} (h : idTake l p = (c, f, 0)) (h2 : vaTake l f = (v, g, 0)) : diTakeRow l p = (⟨c, v⟩, g, 0) := by
  unfold diTakeRow
  rw [h]
  simp only [ne_eq, not_true_eq_false, if_false]
  rw [h2]
  simp only [not_true_eq_false, if_false]

set_option maxHeartbeats 800000 in
set_option maxRecDepth 100000 in
theorem taker_1 (l : List UInt8) (hl : l.length ≤ 4294967296) (p : Nat) {c : List UInt8} {f er : Nat} (h : idTake l p = (c, f, er)) (he : er ≠ 0) (w : World) :
    Calls Try.prog 60 #[.string ⟨l.toArray⟩, .int .i64 p] w fun e w' => e = .returned (tripleR (diTakeRow l p)) ∧ Below w.heap.size w w' := by
  have HR := Lib.hid (taker_id h he)
  have HT := Lib.hid (idtake_eq l hl p (Lib.hid h))
  have t1 : ((er : Int) != 0) = true := by simp; omega
  clear h he
  go_enter Try.func60, Try.ntmps60
  go_wp2_with fail
  refine (HT.out _).mono ?_
  rintro e w1 ⟨rfl, hb1⟩
  obtain ⟨q0, q1, q2, q3, q4⟩ := (box5 (c := []) (st := []) hb1).1
  obtain ⟨f0, f1, f2, f3, f4⟩ := free5 hb1
  have B1 := Lib.hid (box5 (c := []) (st := []) hb1).2
  clear hb1
  go_wp2_with fail
  obtain ⟨r0, r1, r2, r3, r4⟩ := five_set w1 w.heap.size (.string ⟨#[]⟩) (.int .i64 0) (.int .i64 0) (.int .i64 0) (.string ⟨#[]⟩) q0 q1 q2 q3 q4
  unfold set5 at r0 r1 r2 r3 r4
  exact bodyPost_ret (v := tripleR (Row.zero, 0, er)) (by simp [results, Try.results60, go_sem, tripleR, rowAgg, Row.zero, Val.zero, r0, r1, r2, r3, r4]) rfl ⟨by rw [HR.out], set5_below B1.out _ (Nat.le_refl _) _ _ _ _ _⟩

set_option maxHeartbeats 800000 in
set_option maxRecDepth 100000 in
theorem taker_2 (l : List UInt8) (hl : l.length ≤ 4294967296) (p : Nat) {c : List UInt8} {f g er : Nat} {x y z : Int} {st : List UInt8} (h : idTake l p = (c, f, 0)) (h2 : vaTake l f = (⟨x, y, z, st⟩, g, er)) (he : er ≠ 0) (w : World) :
    Calls Try.prog 60 #[.string ⟨l.toArray⟩, .int .i64 p] w fun e w' => e = .returned (tripleR (diTakeRow l p)) ∧ Below w.heap.size w w' := by
  have HR := Lib.hid (taker_va h h2 he)
  have HT := Lib.hid (idtake_eq l hl p (Lib.hid h))
  have HU := Lib.hid (vatake_eq l hl f (Lib.hid h2))
  have t1 : ((er : Int) != 0) = true := by simp; omega
  clear h h2 he
  go_enter Try.func60, Try.ntmps60
  go_wp2_with fail
  refine (HT.out _).mono ?_
  rintro e w1 ⟨rfl, hb1⟩
  have Q1 := Lib.hid (box5 (c := []) (st := []) hb1).1
  have F1 := Lib.hid (free5 hb1)
  have B1 := Lib.hid (box5 (c := []) (st := []) hb1).2
  clear hb1
  go_wp2_with fail
  refine (HU.out _).mono ?_
  rintro e w2 ⟨rfl, hb2⟩
  have B2 := Lib.hid (below2' B1.out hb2)
  have hlt := (Q1.out.later hb2).lt
  have k := (Q1.out.later hb2)
  obtain ⟨k0, k1, k2, k3, k4⟩ := k
  obtain ⟨f0, f1, f2, f3, f4⟩ := F1.out.later hb2 Q1.out.lt
  clear hb2 B1 Q1 F1
  go_wp2_with fail
  obtain ⟨r0, r1, r2, r3, r4⟩ := five_set_alloc w2 w.heap.size (.cells #[.int .i64 x, .int .i64 y, .int .i64 z, .string ⟨st.toArray⟩] 35) (.string ⟨#[]⟩) (.int .i64 0) (.int .i64 0) (.int .i64 0) (.string ⟨#[]⟩) k0 k1 k2 k3 k4
  unfold set5 at r0 r1 r2 r3 r4
  exact bodyPost_ret (v := tripleR (Row.zero, 0, er)) (by simp [results, Try.results60, go_sem, tripleR, rowAgg, Row.zero, Val.zero, r0, r1, r2, r3, r4]) rfl ⟨by rw [HR.out], bl_alloc (set5_below B2.out _ (Nat.le_refl _) _ _ _ _ _) _⟩

set_option maxHeartbeats 800000 in
set_option maxRecDepth 100000 in
theorem taker_3 (l : List UInt8) (hl : l.length ≤ 4294967296) (p : Nat) {c : List UInt8} {f g : Nat} {x y z : Int} {st : List UInt8} (h : idTake l p = (c, f, 0)) (h2 : vaTake l f = (⟨x, y, z, st⟩, g, 0)) (w : World) :
    Calls Try.prog 60 #[.string ⟨l.toArray⟩, .int .i64 p] w fun e w' => e = .returned (tripleR (diTakeRow l p)) ∧ Below w.heap.size w w' := by
  have HR := Lib.hid (taker_ok h h2)
  have HT := Lib.hid (idtake_eq l hl p (Lib.hid h))
  have HU := Lib.hid (vatake_eq l hl f (Lib.hid h2))
  clear h h2
  go_enter Try.func60, Try.ntmps60
  go_wp2_with fail
  refine (HT.out _).mono ?_
  rintro e w1 ⟨rfl, hb1⟩
  have Q1 := Lib.hid (box5 (c := []) (st := []) hb1).1
  have F1 := Lib.hid (free5 hb1)
  have B1 := Lib.hid (box5 (c := []) (st := []) hb1).2
  clear hb1
  go_wp2_with fail
  refine (HU.out _).mono ?_
  rintro e w2 ⟨rfl, hb2⟩
  have B2 := Lib.hid (below2' B1.out hb2)
  have hlt := (Q1.out.later hb2).lt
  have k := (Q1.out.later hb2)
  obtain ⟨k0, k1, k2, k3, k4⟩ := k
  obtain ⟨f0, f1, f2, f3, f4⟩ := F1.out.later hb2 Q1.out.lt
  clear hb2 B1 Q1 F1
  go_wp2_with fail
  obtain ⟨r0, r1, r2, r3, r4⟩ := five_set_alloc w2 w.heap.size (.cells #[.int .i64 x, .int .i64 y, .int .i64 z, .string ⟨st.toArray⟩] 35) (.string ⟨c.toArray⟩) (.int .i64 x) (.int .i64 y) (.int .i64 z) (.string ⟨st.toArray⟩) k0 k1 k2 k3 k4
  unfold set5 at r0 r1 r2 r3 r4
  exact bodyPost_ret (v := tripleR (⟨c, x, y, z, st⟩, g, 0)) (by simp [results, Try.results60, go_sem, tripleR, rowAgg, r0, r1, r2, r3, r4]) rfl ⟨by rw [HR.out], bl_alloc (set5_below B2.out _ (Nat.le_refl _) _ _ _ _ _) _⟩

theorem taker_any (l : List UInt8) (hl : l.length ≤ 4294967296) (p : Nat) (w : World) :
    Calls Try.prog 60 #[.string ⟨l.toArray⟩, .int .i64 p] w fun e w' => e = .returned (tripleR (diTakeRow l p)) ∧ Below w.heap.size w w' := by
  obtain ⟨c, f, er, h⟩ : ∃ c f er, idTake l p = (c, f, er) := ⟨_, _, _, rfl⟩
  by_cases he : er = 0
  · subst he
    obtain ⟨x, y, z, st, g, es, h2⟩ : ∃ x y z st g es, vaTake l f = (⟨x, y, z, st⟩, g, es) := ⟨_, _, _, _, _, _, rfl⟩
    by_cases hes : es = 0
    · subst hes
      exact taker_3 l hl p h h2 w
    · exact taker_2 l hl p h h2 hes w
  · exact taker_1 l hl p h he w

theorem taker_eq (l : List UInt8) (hl : l.length ≤ 4294967296) (p : Nat) {c st : List UInt8} {x y z : Int} {f er : Nat} (h : Hid (diTakeRow l p = (⟨c, x, y, z, st⟩, f, er))) (w : World) :
    Calls Try.prog 60 #[.string ⟨l.toArray⟩, .int .i64 p] w fun e w' => e = .returned (.tuple #[.agg #[.string ⟨c.toArray⟩, .int .i64 x, .int .i64 y, .int .i64 z, .string ⟨st.toArray⟩], .int .i64 f, .int .i64 er]) ∧ Below w.heap.size w w' := by
  have := taker_any l hl p w
  rwa [h.out] at this

end Go.Proofs.Ytocjeehoghfnmaa
