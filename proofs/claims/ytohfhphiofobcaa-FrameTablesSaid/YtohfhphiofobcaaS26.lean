/-
  TEXTS OF THE PROOF, one behind the other: QuePure, QueRow, OpenS, QueFrame.
-/
import Derived.Test.YtohfhphiofobcaaS01
import Derived.Test.YtohfhphiofobcaaS08
import Derived.Test.YtohfhphiofobcaaS07
import Derived.Test.YtohfhphiofobcaaS15
import Derived.Lib.Hide
import Derived.BigRegion
import Derived.Maps.OwnSet
import Derived.ProofKit
import Derived.OpenShut
import Derived.Lib.SmallJoins
import Derived.Deep.Slices
import Derived.Deep.Fields
import Derived.ChangeSame

section

/-
  LAYER 17, PLAIN: changes that wait, of each contact the last one alone.
-/
namespace Go.Proofs.Ytohfhphiofobcaa

structure Que where
  l : List Chg
  la : Bool

def Chg.nought : Chg := ⟨[], false, Val.zero⟩

/-- P17.1. -/
def quOne (c : Chg) : Bool := idIs c.c && (if c.on = true then vaMay c.v else vSame c.v Val.zero)
/-- The first place of a contact; how many there are, if there is none. -/
def quAt (l : List Chg) (x : List UInt8) : Nat := l.findIdx fun c => c.c == x
def quHas (l : List Chg) (x : List UInt8) : Bool := decide (quAt l x < l.length)
def quNo2 (l : List Chg) : Prop := (l.map (·.c)).Nodup
instance (l : List Chg) : Decidable (quNo2 l) := by unfold quNo2; infer_instance
def quMay (q : Que) (room : Int) : Bool := decide ((q.l.length : Int) ≤ room) && !(q.la && decide (0 < q.l.length)) && q.l.all quOne && decide (quNo2 q.l)
def quEmpty (q : Que) : Bool := decide (q.l.length = 0) && !q.la
def quFind (q : Que) (x : List UInt8) : Chg × Bool := if quHas q.l x = true then (q.l.getD (quAt q.l x) Chg.nought, true) else (Chg.nought, false)
/-- P17.2. -/
def quPush (q : Que) (c : Chg) (room : Int) : Que :=
  if q.la = true then q else if quHas q.l c.c = true then ⟨q.l.set (quAt q.l c.c) c, false⟩ else if (q.l.length : Int) < room then ⟨q.l ++ [c], false⟩ else ⟨[], true⟩
/-- P17.3. -/
def quPop (q : Que) : Chg × Que × Bool := match q.l with
  | [] => (Chg.nought, q, false)
  | c :: l => (c, ⟨l, q.la⟩, true)

/-! ### each text once -/
/-! ### what is pushed -/
end Go.Proofs.Ytohfhphiofobcaa

end

section

/-
  LAYER 17: queues in memory; places.
-/
namespace Go.Proofs.Ytohfhphiofobcaa
open Go.RowKit

/-- A slice of the call's own. -/
abbrev OwnQ (w : World) (base : Nat) (v : Value) (l : List Chg) : Prop := OwnS chgVals 6 64 w base v l
def ShortC (l : List Chg) : Prop := ∀ c ∈ l, c.c.length ≤ 4294967296 ∧ c.v.st.length ≤ 4294967296
theorem ShortC.get {l : List Chg} (h : ShortC l) {k : Nat} (hk : k < l.length) : (l.getD k Chg.zero).c.length ≤ 4294967296 ∧ (l.getD k Chg.zero).v.st.length ≤ 4294967296 := by
  rw [List.getD_eq_getElem?_getD, List.getElem?_eq_getElem hk]
  exact h _ (List.getElem_mem hk)

end Go.Proofs.Ytohfhphiofobcaa

end

section

/-
  FOR THE FRAMES: a slice of structs that came in, opened; over any program.
-/
namespace Go.Proofs.Ytohfhphiofobcaa
open Go.ChangeShapes Go.WideShapes Go.ChangeAt Go.RowKit Go.Deep

end Go.Proofs.Ytohfhphiofobcaa

end

section

/-
  LAYER 17: queues and changes that come in.
-/
namespace Go.Proofs.Ytohfhphiofobcaa
open Go.ChangeShapes Go.WideShapes Go.ChangeAt Go.RowKit Go.Deep

section
variable {H : Type} {enc : TypeId × Value → H} {w : World} {base : Nat} {spare : Nat → Bool} {held : Bool}

def cFit (c : Chg) : Prop := c.c.length ≤ maxLen ∧ c.v.st.length ≤ maxLen

def chg2Agg (a b : Chg) : Value := .agg #[.string ⟨a.c.toArray⟩, .bool a.on, .int .i64 a.v.sh, .int .i64 a.v.pr, .int .i64 a.v.si, .string ⟨a.v.st.toArray⟩, .string ⟨b.c.toArray⟩, .bool b.on, .int .i64 b.v.sh, .int .i64 b.v.pr, .int .i64 b.v.si, .string ⟨b.v.st.toArray⟩]

end

end Go.Proofs.Ytohfhphiofobcaa

end
