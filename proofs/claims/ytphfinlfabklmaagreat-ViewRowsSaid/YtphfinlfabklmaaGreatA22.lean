/-
  TEXTS OF THE PROOF, one behind the other: SesPutC.
-/
import Derived.Test.YtphfinlfabklmaaGreatA21
import Derived.Test.YtphfinlfabklmaaGreatA20
import Derived.Test.YtphfinlfabklmaaGreatA12

/-
  LAYER 9, THE CODE: Put.
-/
namespace Go.Proofs.YtphfinlfabklmaaGreat
open Go.RowKit

/-- Six cells of a block. -/
def SixS (X : World) (b : Nat) (u st : List UInt8) (i a c d : Int) : Prop :=
  X.cell? ⟨b, 0, none⟩ = some (.string ⟨u.toArray⟩) ∧ X.cell? ⟨b, 1, none⟩ = some (.int .i64 i) ∧ X.cell? ⟨b, 2, none⟩ = some (.int .i64 a) ∧ X.cell? ⟨b, 3, none⟩ = some (.int .i64 c) ∧ X.cell? ⟨b, 4, none⟩ = some (.int .i64 d) ∧ X.cell? ⟨b, 5, none⟩ = some (.string ⟨st.toArray⟩)

theorem sixS_of {X : World} {b : Nat} {u st : List UInt8} {i a c d : Int} (h : CellsAt X b 0 (sesVals ⟨u, i, ⟨a, c, d, st⟩⟩)) : SixS X b u st i a c d := by
  obtain ⟨h0, h1, h2, h3, h4, h5⟩ := cells6 h
  simp only [Nat.zero_add] at h0 h1 h2 h3 h4 h5
  exact ⟨h0, h1, h2, h3, h4, h5⟩

/-- A session stored, cell by cell. -/
theorem ses_store {w : World} {base g n cap : Nat} {l : List Ses} (h : OwnSes w base (.slice (some ⟨g, 0, none⟩) n cap) l) {i : Nat} (hi : i < l.length) (u st : List UInt8) (id a b c : Int) :
    OwnSes ((((((w.setCell ⟨g, i * 6, none⟩ (.string ⟨u.toArray⟩)).setCell ⟨g, i * 6 + 1, none⟩ (.int .i64 id)).setCell ⟨g, i * 6 + 2, none⟩ (.int .i64 a)).setCell ⟨g, i * 6 + 3, none⟩ (.int .i64 b)).setCell ⟨g, i * 6 + 4, none⟩ (.int .i64 c)).setCell ⟨g, i * 6 + 5, none⟩ (.string ⟨st.toArray⟩)) base (.slice (some ⟨g, 0, none⟩) n cap) (l.set i ⟨u, id, ⟨a, b, c, st⟩⟩) :=
  ownS_set sesOK h hi ⟨u, id, ⟨a, b, c, st⟩⟩

theorem below_store6 {w0 w : World} {base g : Nat} (h : Below base w0 w) (hg : base ≤ g) (a0 a1 a2 a3 a4 a5 : Nat) (v0 v1 v2 v3 v4 v5 : Value) :
    Below base w0 ((((((w.setCell ⟨g, a0, none⟩ v0).setCell ⟨g, a1, none⟩ v1).setCell ⟨g, a2, none⟩ v2).setCell ⟨g, a3, none⟩ v3).setCell ⟨g, a4, none⟩ v4).setCell ⟨g, a5, none⟩ v5) :=
  (((((h.setCell hg _).setCell hg _).setCell hg _).setCell hg _).setCell hg _).setCell hg _

end Go.Proofs.YtphfinlfabklmaaGreat
