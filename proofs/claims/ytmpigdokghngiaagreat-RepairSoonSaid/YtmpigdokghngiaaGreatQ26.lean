/-
 TEXTS OF THE PROOF, one behind the other: LnkRKeep.
-/
import Derived.Test.YtmpigdokghngiaaGreatQ23
import Derived.Test.YtmpigdokghngiaaGreatQ16

namespace Go.Proofs.YtmpigdokghngiaaGreat
open Go.RowKit

def KQR (w _W:World) (v:Value) (l:List Chg):Prop:=∀ X,Below w.heap.size w X→Chgs X v l

theorem KQR.chgs {w W:World} {v:Value} {l:List Chg} (h:KQR w W v l) (hb:Below w.heap.size w W):Chgs W v l:=h W hb
theorem KQR.later {w W X:World} {v:Value} {l:List Chg} (h:KQR w W v l) (_:Below W.heap.size W X):KQR w X v l:=h
theorem KQR.past {w W X:World} {v:Value} {l:List Chg} (h:KQR w W v l) {B:Nat} {cs:Array Value} {T:TypeId} (_:W.heap[B]?=some (.cells cs T (0,0))) (_:105 ≠ T) (_:∀ k,¬ k=B→X.heap[k]?=W.heap[k]?):KQR w X v l:=h
theorem KQR.app {w W X:World} {v u:Value} {l:List Chg} {t:List FrS} (h:KQR w W v l) (_:OwnS frVals 10 56 W w.heap.size u t) (_:AppFar W X u):KQR w X v l:=h

def KTR (w _W:World) (p:FrS):Prop:=∀ X,Below w.heap.size w X→Tab X p.tv p.f.t

def KG (w W:World) (v:Value) (ps:List FrS):Prop:=OwnS frVals 10 56 W w.heap.size v ps∧∀ p ∈ ps,KTR w W p

theorem KG.frms {w W:World} {v:Value} {ps:List FrS} (h:KG w W v ps) (hb:Below w.heap.size w W):Frms W v ps:=⟨OwnS.rd frSOK h.1,fun p hp => h.2 p hp W hb⟩
theorem KG.later {w W X:World} {v:Value} {ps:List FrS} (h:KG w W v ps) (hb:Below W.heap.size W X):KG w X v ps:=⟨OwnS.later h.1 hb,h.2⟩
theorem KG.past {w W X:World} {v:Value} {ps:List FrS} (h:KG w W v ps) {B:Nat} {cs:Array Value} {T:TypeId} (hb:W.heap[B]?=some (.cells cs T (0,0))) (hne:56 ≠ T) (hfar:∀ k,¬ k=B→X.heap[k]?=W.heap[k]?):KG w X v ps :=
 ⟨row_past h.1 hb hne hfar,h.2⟩
theorem KG.more {w W X:World} {v u:Value} {ps:List FrS} {p:FrS} (h:KG w W v ps) (hp:KTR w W p) (hown:OwnS frVals 10 56 X w.heap.size u (ps ++ [p])) (_:AppFar W X v):KG w X u (ps ++ [p]) :=
 ⟨hown,fun q hq => by
  rcases List.mem_append.1 hq with hq | hq
  ·exact h.2 q hq
  ·rw [List.mem_singleton] at hq; subst hq; exact hp⟩

def EmittedR (w:World) (M:Lnk) (fs:List Frm) (e:Ending) (w':World):Prop :=
 ∃ u fv ps,e=.returned (.tuple #[.agg #[.int .i64 M.seq,u,.bool M.q.la,.int .i64 M.b.tok,.int .i64 M.b.at',.bool M.sn,.int .i64 M.dg],fv])∧Chgs w' u M.q.l∧KG w w' fv ps∧ps.map FrS.f=fs∧Below w.heap.size w w'
end Go.Proofs.YtmpigdokghngiaaGreat
