/-
  TEXTS OF THE PROOF, one behind the other: SesFind, SesIns, SesSame.
-/
import Derived.Test.YtphfinlfabklmaaGreatA19
import Derived.Test.YtphfinlfabklmaaGreatA12
import Derived.Lib.Hide
import Derived.Maps.OwnSet
import Derived.Deep.RegionHeld
import Derived.Deep.AppendLies
import Derived.WalkSpells
import Derived.StillTailTactics
import Derived.Test.YtphfinlfabklmaaGreatA01
import Derived.Deep.QuietTactic
import Derived.BigQuiet

section

/-
  LAYER 9, THE CODE: find, and place.
-/
namespace Go.Proofs.YtphfinlfabklmaaGreat
open Go.RowKit

/-- What find tells. -/
def seFind (l : List Ses) (x : Ses) : Nat × Bool := match findO seIs l x with | some i => (i, true) | none => (0, false)

theorem place_on {l : List Ses} {x : Ses} {k : Nat} (hr : RiseO seLt l) (hn : ∀ j, j < k → seLt (l.getD j Ses.zero) x = true) (hk : k < l.length) (hs : seLt (l.getD k Ses.zero) x = false) : placeO seLt l x = k := by
  rcases Nat.lt_trichotomy (placeO seLt l x) k with h | h | h
  · have h1 := hn _ h
    rw [sgetD (by omega)] at h1
    have h2 := placeO_behind seOrd hr (x := x) (k := placeO seLt l x) (by omega) (Nat.le_refl _)
    rw [h1] at h2; cases h2
  · exact h
  · have h1 := placeO_ahead h
    rw [← sgetD hk, hs] at h1; cases h1

theorem place_end {l : List Ses} {x : Ses} (hr : RiseO seLt l) (hn : ∀ j, j < l.length → seLt (l.getD j Ses.zero) x = true) : placeO seLt l x = l.length := by
  have hle := placeO_le (lt := seLt) l x
  rcases Nat.lt_or_ge (placeO seLt l x) l.length with h | h
  · have h1 := hn _ h
    rw [sgetD h] at h1
    have h2 := placeO_behind seOrd hr (x := x) h (Nat.le_refl _)
    rw [h1] at h2; cases h2
  · omega

end Go.Proofs.YtphfinlfabklmaaGreat

end

section

/-
  slices.Clone, slices.Insert AND slices.Delete of one element, at elements of 6 cells.
-/
namespace Go.Proofs.YtphfinlfabklmaaGreat
open Go.RowKit

end Go.Proofs.YtphfinlfabklmaaGreat

end

section

/-
  LAYER 9: the document's Same; its place.
-/
namespace Go.Proofs.YtphfinlfabklmaaGreat
open Go.RowKit

/-- Two lists of sessions are the same. -/
def sessSame (a b : List Ses) : Bool := decide (a.length = b.length) && (List.range a.length).all fun i => sesSame (a.getD i Ses.zero) (b.getD i Ses.zero)

end Go.Proofs.YtphfinlfabklmaaGreat

end
