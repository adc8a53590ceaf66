/-
  TEXTS OF THE PROOF, one behind the other: SubSet, SubAct0, SubDo1, SubDo2.
-/
import Derived.Test.YtphfinlfabklmaaGreatA01
import Derived.Deep.RegionHeld
import Derived.Test.YtphfinlfabklmaaGreatA06

section

/-
  MANY CELLS STORED ANEW, one behind the other: what each holds then.
-/
namespace Go.Proofs.YtphfinlfabklmaaGreat
open Go.RowKit

def setMany (w : World) : List (Addr × Value) → World
  | [] => w
  | x :: l => setMany (w.setCell x.1 x.2) l

theorem setMany_other (p : Addr) : ∀ (l : List (Addr × Value)) (w : World), (∀ x ∈ l, x.1 ≠ p) → (setMany w l).cell? p = w.cell? p
  | [], _, _ => rfl
  | x :: l, w, h => by
    show (setMany (w.setCell x.1 x.2) l).cell? p = _
    rw [setMany_other p l _ (fun y hy => h y (List.mem_cons_of_mem _ hy)), World.cell?_setCell_other _ _ _ _ (h x (by simp))]

theorem setMany_get : ∀ (l : List (Addr × Value)) (w : World), l.Pairwise (fun x y => x.1 ≠ y.1) → (∀ x ∈ l, (w.cell? x.1).isSome = true) → ∀ x ∈ l, (setMany w l).cell? x.1 = some x.2
  | [], _, _, _, _, h => by cases h
  | y :: l, w, hp, hs, x, hx => by
    obtain ⟨h1, h2⟩ := List.pairwise_cons.1 hp
    show (setMany (w.setCell y.1 y.2) l).cell? x.1 = _
    rcases List.mem_cons.1 hx with rfl | hx
    · rw [setMany_other _ l _ (fun z hz => (h1 z hz).symm)]
      exact World.cell?_setCell_same' _ _ _ (hs x (by simp))
    · refine setMany_get l _ h2 (fun z hz => ?_) x hx
      rw [World.cell?_setCell_other _ _ _ _ (h1 z hz)]
      exact hs z (List.mem_cons_of_mem _ hz)

theorem setMany_below {w : World} : ∀ (l : List (Addr × Value)) {w1 : World}, Below w.heap.size w w1 → (∀ x ∈ l, w.heap.size ≤ x.1.block) → Below w.heap.size w (setMany w1 l)
  | [], _, h, _ => h
  | x :: l, _, h, hl => setMany_below l (h.setCell (hl x (by simp)) _) (fun y hy => hl y (List.mem_cons_of_mem _ hy))

/-- Two items stored anew, in two blocks. -/
def set10 (w : World) (B C : Nat) (a1 a2 a3 a4 a5 b1 b2 b3 b4 b5 : Value) : World :=
  setMany w [(⟨B, 0, none⟩, a1), (⟨B, 1, none⟩, a2), (⟨B, 2, none⟩, a3), (⟨B, 3, none⟩, a4), (⟨B, 4, none⟩, a5), (⟨C, 0, none⟩, b1), (⟨C, 1, none⟩, b2), (⟨C, 2, none⟩, b3), (⟨C, 3, none⟩, b4), (⟨C, 4, none⟩, b5)]

end Go.Proofs.YtphfinlfabklmaaGreat

end

section

/-
  THE CONTRACT OF subs.Act: errors ahead of what is done.
-/
namespace Go.Proofs.YtphfinlfabklmaaGreat
open Go.RowKit

theorem below2S {w a b : World} (h1 : Below w.heap.size w a) (h2 : Below a.heap.size a b) : Below w.heap.size w b := h1.trans (h2.mono h1.size)

end Go.Proofs.YtphfinlfabklmaaGreat

end

section

/-
  THE CONTRACT OF subs.Act at kind 1, of items that may be.
-/
namespace Go.Proofs.YtphfinlfabklmaaGreat
open Go.RowKit

end Go.Proofs.YtphfinlfabklmaaGreat

end

section

/-
  THE CONTRACT OF subs.Act at kind 2, of items that may be.
-/
namespace Go.Proofs.YtphfinlfabklmaaGreat
open Go.RowKit

end Go.Proofs.YtphfinlfabklmaaGreat

end
