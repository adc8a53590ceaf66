/-
  MANY CELLS STORED ANEW, one behind the other: what each holds then.
-/
import Derived.Test.YtnmdjkecjlpkkaaKit
import Derived.Deep.RegionHeld
namespace Go.Proofs.Ytnmdjkecjlpkkaa
open Go.RowKit

def setMany (w : World) : List (Addr × Value) → World
  | [] => w
  | x :: l => setMany (w.setCell x.1 x.2) l

theorem setMany_other (p : Addr) : ∀ (l : List (Addr × Value)) (w : World), (∀ x ∈ l, x.1 ≠ p) → (setMany w l).cell? p = w.cell? p
  | [], _, _ => rfl
  | x :: l, w, h => by
    show (setMany (w.setCell x.1 x.2) l).cell? p = _
    rw [setMany_other p l _ (fun y hy => h y (List.mem_cons_of_mem _ hy)), World.cell?_setCell_other _ _ _ _ (h x (by simp))]

theorem setMany_get : ∀ (l : List (Addr × Value)) (w : World), l.Pairwise (fun x y => x.1 ≠ y.1) → (∀ x ∈ l, (w.cell? x.1).isSome = true) → ∀ x ∈ l, (setMany w l).cell? x.1 = some x.2
  | [], _, _, _, _, h => by cases h
  | y :: l, w, hp, hs, x, hx => by
    obtain ⟨h1, h2⟩ := List.pairwise_cons.1 hp
    show (setMany (w.setCell y.1 y.2) l).cell? x.1 = _
    rcases List.mem_cons.1 hx with rfl | hx
    · rw [setMany_other _ l _ (fun z hz => (h1 z hz).symm)]
      exact World.cell?_setCell_same' _ _ _ (hs x (by simp))
    · refine setMany_get l _ h2 (fun z hz => ?_) x hx
      rw [World.cell?_setCell_other _ _ _ _ (h1 z hz)]
      exact hs z (List.mem_cons_of_mem _ hz)

theorem setMany_below {w : World} : ∀ (l : List (Addr × Value)) {w1 : World}, Below w.heap.size w w1 → (∀ x ∈ l, w.heap.size ≤ x.1.block) → Below w.heap.size w (setMany w1 l)
  | [], _, h, _ => h
  | x :: l, _, h, hl => setMany_below l (h.setCell (hl x (by simp)) _) (fun y hy => hl y (List.mem_cons_of_mem _ hy))

/-- Two items stored anew, in two blocks. -/
def set10 (w : World) (B C : Nat) (a1 a2 a3 a4 a5 b1 b2 b3 b4 b5 : Value) : World :=
  setMany w [(⟨B, 0, none⟩, a1), (⟨B, 1, none⟩, a2), (⟨B, 2, none⟩, a3), (⟨B, 3, none⟩, a4), (⟨B, 4, none⟩, a5), (⟨C, 0, none⟩, b1), (⟨C, 1, none⟩, b2), (⟨C, 2, none⟩, b3), (⟨C, 3, none⟩, b4), (⟨C, 4, none⟩, b5)]

theorem set10_get (w : World) (B C : Nat) (hBC : B ≠ C) (a1 a2 a3 a4 a5 b1 b2 b3 b4 b5 u1 u2 u3 u4 u5 v1 v2 v3 v4 v5 : Value)
    (h1 : w.cell? ⟨B, 0, none⟩ = some u1) (h2 : w.cell? ⟨B, 1, none⟩ = some u2) (h3 : w.cell? ⟨B, 2, none⟩ = some u3) (h4 : w.cell? ⟨B, 3, none⟩ = some u4) (h5 : w.cell? ⟨B, 4, none⟩ = some u5)
    (g1 : w.cell? ⟨C, 0, none⟩ = some v1) (g2 : w.cell? ⟨C, 1, none⟩ = some v2) (g3 : w.cell? ⟨C, 2, none⟩ = some v3) (g4 : w.cell? ⟨C, 3, none⟩ = some v4) (g5 : w.cell? ⟨C, 4, none⟩ = some v5) :
    let x := set10 w B C a1 a2 a3 a4 a5 b1 b2 b3 b4 b5
    x.cell? ⟨B, 0, none⟩ = some a1 ∧ x.cell? ⟨B, 1, none⟩ = some a2 ∧ x.cell? ⟨B, 2, none⟩ = some a3 ∧ x.cell? ⟨B, 3, none⟩ = some a4 ∧ x.cell? ⟨B, 4, none⟩ = some a5 ∧
    x.cell? ⟨C, 0, none⟩ = some b1 ∧ x.cell? ⟨C, 1, none⟩ = some b2 ∧ x.cell? ⟨C, 2, none⟩ = some b3 ∧ x.cell? ⟨C, 3, none⟩ = some b4 ∧ x.cell? ⟨C, 4, none⟩ = some b5 := by
  have hm := setMany_get [(⟨B, 0, none⟩, a1), (⟨B, 1, none⟩, a2), (⟨B, 2, none⟩, a3), (⟨B, 3, none⟩, a4), (⟨B, 4, none⟩, a5), (⟨C, 0, none⟩, b1), (⟨C, 1, none⟩, b2), (⟨C, 2, none⟩, b3), (⟨C, 3, none⟩, b4), (⟨C, 4, none⟩, b5)] w
    (by simp [hBC]) (by simp [h1, h2, h3, h4, h5, g1, g2, g3, g4, g5])
  exact ⟨hm (_, _) (by simp), hm (_, _) (by simp), hm (_, _) (by simp), hm (_, _) (by simp), hm (_, _) (by simp), hm (_, _) (by simp), hm (_, _) (by simp), hm (_, _) (by simp), hm (_, _) (by simp), hm (_, _) (by simp)⟩

theorem set10_below {w w1 : World} (h : Below w.heap.size w w1) (B C : Nat) (hB : w.heap.size ≤ B) (hC : w.heap.size ≤ C) (a1 a2 a3 a4 a5 b1 b2 b3 b4 b5 : Value) : Below w.heap.size w (set10 w1 B C a1 a2 a3 a4 a5 b1 b2 b3 b4 b5) :=
  setMany_below _ h (by simp [hB, hC])

end Go.Proofs.Ytnmdjkecjlpkkaa
