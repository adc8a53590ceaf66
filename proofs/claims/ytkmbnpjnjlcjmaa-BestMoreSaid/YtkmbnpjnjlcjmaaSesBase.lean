/-
  SESSIONS, PLAIN: what one is; when two are the same.
-/
import Derived.Test.YtkmbnpjnjlcjmaaValPure
namespace Go.Proofs.Ytkmbnpjnjlcjmaa

structure Ses where
  u : List UInt8
  id : Int
  v : Val

def Ses.zero : Ses := ⟨[], 0, Val.zero⟩

def valSame (a b : Val) : Bool := decide (a.sh = b.sh) && (decide (a.pr = b.pr) && (decide (a.si = b.si) && decide (a.st = b.st)))
def sesSame (a b : Ses) : Bool := decide (a.u = b.u) && (decide (a.id = b.id) && valSame a.v b.v)

theorem valSame_iff {a b : Val} : valSame a b = true ↔ a = b := by
  obtain ⟨a1, a2, a3, a4⟩ := a
  obtain ⟨b1, b2, b3, b4⟩ := b
  simp [valSame]

theorem sesSame_iff {a b : Ses} : sesSame a b = true ↔ a = b := by
  obtain ⟨a1, a2, a3⟩ := a
  obtain ⟨b1, b2, b3⟩ := b
  simp [sesSame, valSame_iff]

theorem sesSame_self (a : Ses) : sesSame a a = true := sesSame_iff.2 rfl

end Go.Proofs.Ytkmbnpjnjlcjmaa
