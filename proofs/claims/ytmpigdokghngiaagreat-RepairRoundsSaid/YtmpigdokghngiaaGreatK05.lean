/-
 TEXTS OF THE PROOF, one behind the other: Held, Blk, Rg, FnMap, CliMap, CrcPure, FraPure, FraRead, FraSize, FraP, CliPure.
-/
import Derived.Test.YtmpigdokghngiaaGreatK04
import Derived.Deep.RegionHeld
import Derived.BigRegion
import Derived.Lib.Hide
import Derived.MapKept
import Derived.Test.YtmpigdokghngiaaGreatRows
import Derived.Test.YtmpigdokghngiaaGreatK01
import Derived.Maps.OwnSet

set_option maxHeartbeats 12800000
set_option maxRecDepth 100000

namespace Go.Proofs.YtmpigdokghngiaaGreat
section
open Go.RowKit

def heldB (X:World) (bs:List (Nat × List Value)):Prop:=∀ p ∈ bs,CellsAt X p.1 0 p.2

theorem heldB_nil (X:World):heldB X []:=fun p h => by cases h
theorem heldB_cons {X:World} {b:Nat} {vs:List Value} {bs:List (Nat × List Value)} (h:CellsAt X b 0 vs) (ht:heldB X bs):heldB X ((b,vs) :: bs):=fun p hp => by
 rcases List.mem_cons.1 hp with rfl | hp
 ·exact h
 ·exact ht p hp
theorem heldB_up {W X:World} {bs:List (Nat × List Value)} (hb:Below W.heap.size W X) (h:heldB W bs):heldB X bs:=fun p hp => (h p hp).later hb
theorem heldB_get {X:World} {bs:List (Nat × List Value)} (h:heldB X bs) {b:Nat} {vs:List Value} {i:Nat} {v:Value} (hm:(b,vs) ∈ bs) (hi:vs[i]?=some v):X.cell? ⟨b,i,none⟩=some v:=by
 have:=h _ hm i v hi
 rwa [Nat.zero_add] at this

def heldD (X:World) (bs:List (Nat × List Value)) (b off:Nat) (v:Value):Prop:=heldB X bs∧X.cell? ⟨b,off,none⟩=some v

theorem cellsAt_block {X:World} {b:Nat} {cs:Array Value} {T:TypeId} (h:X.heap[b]?=some (.cells cs T (0,0))):CellsAt X b 0 cs.toList:=by
 intro j u hu
 have hj:cs[j]?=some u:=by rw [← hu]; simp
 rw [Nat.zero_add]
 unfold World.cell?
 rw [h]
 simpa using hj
end
section
open Go.RowKit

theorem upQ {w w':World} {b:Nat} {o:Obj} (h:w.heap[b]?=some o) (hb:Below w.heap.size w w'):w'.heap[b]?=some o :=
 (hb.block b (Array.getElem?_eq_some_iff.1 h).1).trans h

theorem newQ (w:World) (o:Obj):(w.alloc o).heap[w.heap.size]?=some o:=(MapKept.heap_alloc w o).1

theorem setCell_size (w:World) (p:Addr) (v:Value):(w.setCell p v).heap.size=w.heap.size:=by
 simp [World.setCell]

def stN1 (w:World) (B:Nat) (y0:Value):World:=w.setCell ⟨B,0,none⟩ y0

theorem blk2 {w:World} {B:Nat} {x0 x1:Value} {T:TypeId} (h:w.heap[B]?=some (.cells #[x0,x1] T (0,0))):(w.cell? ⟨B,0,none⟩=some x0∧w.cell? ⟨B,1,none⟩=some x1)∧(w.frozen? ⟨B,0,none⟩=false∧w.frozen? ⟨B,1,none⟩=false) :=
 ⟨⟨cell_of_row w B 0 _ _ (0,0) h,cell_of_row w B 1 _ _ (0,0) h⟩,⟨frozen_of_row w B 0 _ _ h,frozen_of_row w B 1 _ _ h⟩⟩

def stN2 (w:World) (B:Nat) (y0 y1:Value):World:=(w.setCell ⟨B,0,none⟩ y0).setCell ⟨B,1,none⟩ y1

theorem blk3 {w:World} {B:Nat} {x0 x1 x2:Value} {T:TypeId} (h:w.heap[B]?=some (.cells #[x0,x1,x2] T (0,0))):(w.cell? ⟨B,0,none⟩=some x0∧w.cell? ⟨B,1,none⟩=some x1∧w.cell? ⟨B,2,none⟩=some x2)∧(w.frozen? ⟨B,0,none⟩=false∧w.frozen? ⟨B,1,none⟩=false∧w.frozen? ⟨B,2,none⟩=false) :=
 ⟨⟨cell_of_row w B 0 _ _ (0,0) h,cell_of_row w B 1 _ _ (0,0) h,cell_of_row w B 2 _ _ (0,0) h⟩,⟨frozen_of_row w B 0 _ _ h,frozen_of_row w B 1 _ _ h,frozen_of_row w B 2 _ _ h⟩⟩

def stN3 (w:World) (B:Nat) (y0 y1 y2:Value):World:=((w.setCell ⟨B,0,none⟩ y0).setCell ⟨B,1,none⟩ y1).setCell ⟨B,2,none⟩ y2

theorem stN3_heap {w:World} {B:Nat} {x0 x1 x2:Value} {T:TypeId} (h:w.heap[B]?=some (.cells #[x0,x1,x2] T (0,0))) (y0 y1 y2:Value):(stN3 w B y0 y1 y2).heap[B]?=some (.cells #[y0,y1,y2] T (0,0)):=by
 have h0:(w.setCell ⟨B,0,none⟩ y0).heap[B]?=some (.cells #[y0,x1,x2] T (0,0)):=heap_setCell_same w B 0 _ _ y0 h
 have h1:((w.setCell ⟨B,0,none⟩ y0).setCell ⟨B,1,none⟩ y1).heap[B]?=some (.cells #[y0,y1,x2] T (0,0)):=heap_setCell_same _ B 1 _ _ y1 h0
 have h2:(((w.setCell ⟨B,0,none⟩ y0).setCell ⟨B,1,none⟩ y1).setCell ⟨B,2,none⟩ y2).heap[B]?=some (.cells #[y0,y1,y2] T (0,0)):=heap_setCell_same _ B 2 _ _ y2 h1
 exact h2

theorem stN3_far (w:World) (B:Nat) (y0 y1 y2:Value) {k:Nat} (hk:¬ k=B):(stN3 w B y0 y1 y2).heap[k]?=w.heap[k]?:=by
 unfold stN3
 rw [Below.heap_setCell _ _ _ k hk,Below.heap_setCell _ _ _ k hk,Below.heap_setCell _ _ _ k hk]

theorem stN3_below {w0 w:World} {n B:Nat} (h:Below n w0 w) (hB:n≤B) (y0 y1 y2:Value):Below n w0 (stN3 w B y0 y1 y2):=by
 unfold stN3
 exact ((h.setCell hB _).setCell hB _).setCell hB _

theorem stN3_size (w:World) (B:Nat) (y0 y1 y2:Value):(stN3 w B y0 y1 y2).heap.size=w.heap.size:=by
 unfold stN3
 simp only [setCell_size]

theorem blk4 {w:World} {B:Nat} {x0 x1 x2 x3:Value} {T:TypeId} (h:w.heap[B]?=some (.cells #[x0,x1,x2,x3] T (0,0))):(w.cell? ⟨B,0,none⟩=some x0∧w.cell? ⟨B,1,none⟩=some x1∧w.cell? ⟨B,2,none⟩=some x2∧w.cell? ⟨B,3,none⟩=some x3)∧(w.frozen? ⟨B,0,none⟩=false∧w.frozen? ⟨B,1,none⟩=false∧w.frozen? ⟨B,2,none⟩=false∧w.frozen? ⟨B,3,none⟩=false) :=
 ⟨⟨cell_of_row w B 0 _ _ (0,0) h,cell_of_row w B 1 _ _ (0,0) h,cell_of_row w B 2 _ _ (0,0) h,cell_of_row w B 3 _ _ (0,0) h⟩,⟨frozen_of_row w B 0 _ _ h,frozen_of_row w B 1 _ _ h,frozen_of_row w B 2 _ _ h,frozen_of_row w B 3 _ _ h⟩⟩

def stN4 (w:World) (B:Nat) (y0 y1 y2 y3:Value):World:=(((w.setCell ⟨B,0,none⟩ y0).setCell ⟨B,1,none⟩ y1).setCell ⟨B,2,none⟩ y2).setCell ⟨B,3,none⟩ y3

def stN5 (w:World) (B:Nat) (y0 y1 y2 y3 y4:Value):World:=((((w.setCell ⟨B,0,none⟩ y0).setCell ⟨B,1,none⟩ y1).setCell ⟨B,2,none⟩ y2).setCell ⟨B,3,none⟩ y3).setCell ⟨B,4,none⟩ y4

theorem blk6 {w:World} {B:Nat} {x0 x1 x2 x3 x4 x5:Value} {T:TypeId} (h:w.heap[B]?=some (.cells #[x0,x1,x2,x3,x4,x5] T (0,0))):(w.cell? ⟨B,0,none⟩=some x0∧w.cell? ⟨B,1,none⟩=some x1∧w.cell? ⟨B,2,none⟩=some x2∧w.cell? ⟨B,3,none⟩=some x3∧w.cell? ⟨B,4,none⟩=some x4∧w.cell? ⟨B,5,none⟩=some x5)∧(w.frozen? ⟨B,0,none⟩=false∧w.frozen? ⟨B,1,none⟩=false∧w.frozen? ⟨B,2,none⟩=false∧w.frozen? ⟨B,3,none⟩=false∧w.frozen? ⟨B,4,none⟩=false∧w.frozen? ⟨B,5,none⟩=false) :=
 ⟨⟨cell_of_row w B 0 _ _ (0,0) h,cell_of_row w B 1 _ _ (0,0) h,cell_of_row w B 2 _ _ (0,0) h,cell_of_row w B 3 _ _ (0,0) h,cell_of_row w B 4 _ _ (0,0) h,cell_of_row w B 5 _ _ (0,0) h⟩,⟨frozen_of_row w B 0 _ _ h,frozen_of_row w B 1 _ _ h,frozen_of_row w B 2 _ _ h,frozen_of_row w B 3 _ _ h,frozen_of_row w B 4 _ _ h,frozen_of_row w B 5 _ _ h⟩⟩

def stN6 (w:World) (B:Nat) (y0 y1 y2 y3 y4 y5:Value):World:=(((((w.setCell ⟨B,0,none⟩ y0).setCell ⟨B,1,none⟩ y1).setCell ⟨B,2,none⟩ y2).setCell ⟨B,3,none⟩ y3).setCell ⟨B,4,none⟩ y4).setCell ⟨B,5,none⟩ y5

theorem blk7 {w:World} {B:Nat} {x0 x1 x2 x3 x4 x5 x6:Value} {T:TypeId} (h:w.heap[B]?=some (.cells #[x0,x1,x2,x3,x4,x5,x6] T (0,0))):(w.cell? ⟨B,0,none⟩=some x0∧w.cell? ⟨B,1,none⟩=some x1∧w.cell? ⟨B,2,none⟩=some x2∧w.cell? ⟨B,3,none⟩=some x3∧w.cell? ⟨B,4,none⟩=some x4∧w.cell? ⟨B,5,none⟩=some x5∧w.cell? ⟨B,6,none⟩=some x6)∧(w.frozen? ⟨B,0,none⟩=false∧w.frozen? ⟨B,1,none⟩=false∧w.frozen? ⟨B,2,none⟩=false∧w.frozen? ⟨B,3,none⟩=false∧w.frozen? ⟨B,4,none⟩=false∧w.frozen? ⟨B,5,none⟩=false∧w.frozen? ⟨B,6,none⟩=false) :=
 ⟨⟨cell_of_row w B 0 _ _ (0,0) h,cell_of_row w B 1 _ _ (0,0) h,cell_of_row w B 2 _ _ (0,0) h,cell_of_row w B 3 _ _ (0,0) h,cell_of_row w B 4 _ _ (0,0) h,cell_of_row w B 5 _ _ (0,0) h,cell_of_row w B 6 _ _ (0,0) h⟩,⟨frozen_of_row w B 0 _ _ h,frozen_of_row w B 1 _ _ h,frozen_of_row w B 2 _ _ h,frozen_of_row w B 3 _ _ h,frozen_of_row w B 4 _ _ h,frozen_of_row w B 5 _ _ h,frozen_of_row w B 6 _ _ h⟩⟩

def stN7 (w:World) (B:Nat) (y0 y1 y2 y3 y4 y5 y6:Value):World:=((((((w.setCell ⟨B,0,none⟩ y0).setCell ⟨B,1,none⟩ y1).setCell ⟨B,2,none⟩ y2).setCell ⟨B,3,none⟩ y3).setCell ⟨B,4,none⟩ y4).setCell ⟨B,5,none⟩ y5).setCell ⟨B,6,none⟩ y6

theorem stN7_heap {w:World} {B:Nat} {x0 x1 x2 x3 x4 x5 x6:Value} {T:TypeId} (h:w.heap[B]?=some (.cells #[x0,x1,x2,x3,x4,x5,x6] T (0,0))) (y0 y1 y2 y3 y4 y5 y6:Value):(stN7 w B y0 y1 y2 y3 y4 y5 y6).heap[B]?=some (.cells #[y0,y1,y2,y3,y4,y5,y6] T (0,0)):=by
 have h0:(w.setCell ⟨B,0,none⟩ y0).heap[B]?=some (.cells #[y0,x1,x2,x3,x4,x5,x6] T (0,0)):=heap_setCell_same w B 0 _ _ y0 h
 have h1:((w.setCell ⟨B,0,none⟩ y0).setCell ⟨B,1,none⟩ y1).heap[B]?=some (.cells #[y0,y1,x2,x3,x4,x5,x6] T (0,0)):=heap_setCell_same _ B 1 _ _ y1 h0
 have h2:(((w.setCell ⟨B,0,none⟩ y0).setCell ⟨B,1,none⟩ y1).setCell ⟨B,2,none⟩ y2).heap[B]?=some (.cells #[y0,y1,y2,x3,x4,x5,x6] T (0,0)):=heap_setCell_same _ B 2 _ _ y2 h1
 have h3:((((w.setCell ⟨B,0,none⟩ y0).setCell ⟨B,1,none⟩ y1).setCell ⟨B,2,none⟩ y2).setCell ⟨B,3,none⟩ y3).heap[B]?=some (.cells #[y0,y1,y2,y3,x4,x5,x6] T (0,0)):=heap_setCell_same _ B 3 _ _ y3 h2
 have h4:(((((w.setCell ⟨B,0,none⟩ y0).setCell ⟨B,1,none⟩ y1).setCell ⟨B,2,none⟩ y2).setCell ⟨B,3,none⟩ y3).setCell ⟨B,4,none⟩ y4).heap[B]?=some (.cells #[y0,y1,y2,y3,y4,x5,x6] T (0,0)):=heap_setCell_same _ B 4 _ _ y4 h3
 have h5:((((((w.setCell ⟨B,0,none⟩ y0).setCell ⟨B,1,none⟩ y1).setCell ⟨B,2,none⟩ y2).setCell ⟨B,3,none⟩ y3).setCell ⟨B,4,none⟩ y4).setCell ⟨B,5,none⟩ y5).heap[B]?=some (.cells #[y0,y1,y2,y3,y4,y5,x6] T (0,0)):=heap_setCell_same _ B 5 _ _ y5 h4
 have h6:(((((((w.setCell ⟨B,0,none⟩ y0).setCell ⟨B,1,none⟩ y1).setCell ⟨B,2,none⟩ y2).setCell ⟨B,3,none⟩ y3).setCell ⟨B,4,none⟩ y4).setCell ⟨B,5,none⟩ y5).setCell ⟨B,6,none⟩ y6).heap[B]?=some (.cells #[y0,y1,y2,y3,y4,y5,y6] T (0,0)):=heap_setCell_same _ B 6 _ _ y6 h5
 exact h6

theorem stN7_far (w:World) (B:Nat) (y0 y1 y2 y3 y4 y5 y6:Value) {k:Nat} (hk:¬ k=B):(stN7 w B y0 y1 y2 y3 y4 y5 y6).heap[k]?=w.heap[k]?:=by
 unfold stN7
 rw [Below.heap_setCell _ _ _ k hk,Below.heap_setCell _ _ _ k hk,Below.heap_setCell _ _ _ k hk,Below.heap_setCell _ _ _ k hk,Below.heap_setCell _ _ _ k hk,Below.heap_setCell _ _ _ k hk,Below.heap_setCell _ _ _ k hk]

theorem stN7_below {w0 w:World} {n B:Nat} (h:Below n w0 w) (hB:n≤B) (y0 y1 y2 y3 y4 y5 y6:Value):Below n w0 (stN7 w B y0 y1 y2 y3 y4 y5 y6):=by
 unfold stN7
 exact ((((((h.setCell hB _).setCell hB _).setCell hB _).setCell hB _).setCell hB _).setCell hB _).setCell hB _

def stN8 (w:World) (B:Nat) (y0 y1 y2 y3 y4 y5 y6 y7:Value):World:=(((((((w.setCell ⟨B,0,none⟩ y0).setCell ⟨B,1,none⟩ y1).setCell ⟨B,2,none⟩ y2).setCell ⟨B,3,none⟩ y3).setCell ⟨B,4,none⟩ y4).setCell ⟨B,5,none⟩ y5).setCell ⟨B,6,none⟩ y6).setCell ⟨B,7,none⟩ y7

theorem blk10 {w:World} {B:Nat} {x0 x1 x2 x3 x4 x5 x6 x7 x8 x9:Value} {T:TypeId} (h:w.heap[B]?=some (.cells #[x0,x1,x2,x3,x4,x5,x6,x7,x8,x9] T (0,0))):(w.cell? ⟨B,0,none⟩=some x0∧w.cell? ⟨B,1,none⟩=some x1∧w.cell? ⟨B,2,none⟩=some x2∧w.cell? ⟨B,3,none⟩=some x3∧w.cell? ⟨B,4,none⟩=some x4∧w.cell? ⟨B,5,none⟩=some x5∧w.cell? ⟨B,6,none⟩=some x6∧w.cell? ⟨B,7,none⟩=some x7∧w.cell? ⟨B,8,none⟩=some x8∧w.cell? ⟨B,9,none⟩=some x9)∧(w.frozen? ⟨B,0,none⟩=false∧w.frozen? ⟨B,1,none⟩=false∧w.frozen? ⟨B,2,none⟩=false∧w.frozen? ⟨B,3,none⟩=false∧w.frozen? ⟨B,4,none⟩=false∧w.frozen? ⟨B,5,none⟩=false∧w.frozen? ⟨B,6,none⟩=false∧w.frozen? ⟨B,7,none⟩=false∧w.frozen? ⟨B,8,none⟩=false∧w.frozen? ⟨B,9,none⟩=false) :=
 ⟨⟨cell_of_row w B 0 _ _ (0,0) h,cell_of_row w B 1 _ _ (0,0) h,cell_of_row w B 2 _ _ (0,0) h,cell_of_row w B 3 _ _ (0,0) h,cell_of_row w B 4 _ _ (0,0) h,cell_of_row w B 5 _ _ (0,0) h,cell_of_row w B 6 _ _ (0,0) h,cell_of_row w B 7 _ _ (0,0) h,cell_of_row w B 8 _ _ (0,0) h,cell_of_row w B 9 _ _ (0,0) h⟩,⟨frozen_of_row w B 0 _ _ h,frozen_of_row w B 1 _ _ h,frozen_of_row w B 2 _ _ h,frozen_of_row w B 3 _ _ h,frozen_of_row w B 4 _ _ h,frozen_of_row w B 5 _ _ h,frozen_of_row w B 6 _ _ h,frozen_of_row w B 7 _ _ h,frozen_of_row w B 8 _ _ h,frozen_of_row w B 9 _ _ h⟩⟩

def stN10 (w:World) (B:Nat) (y0 y1 y2 y3 y4 y5 y6 y7 y8 y9:Value):World:=(((((((((w.setCell ⟨B,0,none⟩ y0).setCell ⟨B,1,none⟩ y1).setCell ⟨B,2,none⟩ y2).setCell ⟨B,3,none⟩ y3).setCell ⟨B,4,none⟩ y4).setCell ⟨B,5,none⟩ y5).setCell ⟨B,6,none⟩ y6).setCell ⟨B,7,none⟩ y7).setCell ⟨B,8,none⟩ y8).setCell ⟨B,9,none⟩ y9

theorem stN10_heap {w:World} {B:Nat} {x0 x1 x2 x3 x4 x5 x6 x7 x8 x9:Value} {T:TypeId} (h:w.heap[B]?=some (.cells #[x0,x1,x2,x3,x4,x5,x6,x7,x8,x9] T (0,0))) (y0 y1 y2 y3 y4 y5 y6 y7 y8 y9:Value):(stN10 w B y0 y1 y2 y3 y4 y5 y6 y7 y8 y9).heap[B]?=some (.cells #[y0,y1,y2,y3,y4,y5,y6,y7,y8,y9] T (0,0)):=by
 have h0:(w.setCell ⟨B,0,none⟩ y0).heap[B]?=some (.cells #[y0,x1,x2,x3,x4,x5,x6,x7,x8,x9] T (0,0)):=heap_setCell_same w B 0 _ _ y0 h
 have h1:((w.setCell ⟨B,0,none⟩ y0).setCell ⟨B,1,none⟩ y1).heap[B]?=some (.cells #[y0,y1,x2,x3,x4,x5,x6,x7,x8,x9] T (0,0)):=heap_setCell_same _ B 1 _ _ y1 h0
 have h2:(((w.setCell ⟨B,0,none⟩ y0).setCell ⟨B,1,none⟩ y1).setCell ⟨B,2,none⟩ y2).heap[B]?=some (.cells #[y0,y1,y2,x3,x4,x5,x6,x7,x8,x9] T (0,0)):=heap_setCell_same _ B 2 _ _ y2 h1
 have h3:((((w.setCell ⟨B,0,none⟩ y0).setCell ⟨B,1,none⟩ y1).setCell ⟨B,2,none⟩ y2).setCell ⟨B,3,none⟩ y3).heap[B]?=some (.cells #[y0,y1,y2,y3,x4,x5,x6,x7,x8,x9] T (0,0)):=heap_setCell_same _ B 3 _ _ y3 h2
 have h4:(((((w.setCell ⟨B,0,none⟩ y0).setCell ⟨B,1,none⟩ y1).setCell ⟨B,2,none⟩ y2).setCell ⟨B,3,none⟩ y3).setCell ⟨B,4,none⟩ y4).heap[B]?=some (.cells #[y0,y1,y2,y3,y4,x5,x6,x7,x8,x9] T (0,0)):=heap_setCell_same _ B 4 _ _ y4 h3
 have h5:((((((w.setCell ⟨B,0,none⟩ y0).setCell ⟨B,1,none⟩ y1).setCell ⟨B,2,none⟩ y2).setCell ⟨B,3,none⟩ y3).setCell ⟨B,4,none⟩ y4).setCell ⟨B,5,none⟩ y5).heap[B]?=some (.cells #[y0,y1,y2,y3,y4,y5,x6,x7,x8,x9] T (0,0)):=heap_setCell_same _ B 5 _ _ y5 h4
 have h6:(((((((w.setCell ⟨B,0,none⟩ y0).setCell ⟨B,1,none⟩ y1).setCell ⟨B,2,none⟩ y2).setCell ⟨B,3,none⟩ y3).setCell ⟨B,4,none⟩ y4).setCell ⟨B,5,none⟩ y5).setCell ⟨B,6,none⟩ y6).heap[B]?=some (.cells #[y0,y1,y2,y3,y4,y5,y6,x7,x8,x9] T (0,0)):=heap_setCell_same _ B 6 _ _ y6 h5
 have h7:((((((((w.setCell ⟨B,0,none⟩ y0).setCell ⟨B,1,none⟩ y1).setCell ⟨B,2,none⟩ y2).setCell ⟨B,3,none⟩ y3).setCell ⟨B,4,none⟩ y4).setCell ⟨B,5,none⟩ y5).setCell ⟨B,6,none⟩ y6).setCell ⟨B,7,none⟩ y7).heap[B]?=some (.cells #[y0,y1,y2,y3,y4,y5,y6,y7,x8,x9] T (0,0)):=heap_setCell_same _ B 7 _ _ y7 h6
 have h8:(((((((((w.setCell ⟨B,0,none⟩ y0).setCell ⟨B,1,none⟩ y1).setCell ⟨B,2,none⟩ y2).setCell ⟨B,3,none⟩ y3).setCell ⟨B,4,none⟩ y4).setCell ⟨B,5,none⟩ y5).setCell ⟨B,6,none⟩ y6).setCell ⟨B,7,none⟩ y7).setCell ⟨B,8,none⟩ y8).heap[B]?=some (.cells #[y0,y1,y2,y3,y4,y5,y6,y7,y8,x9] T (0,0)):=heap_setCell_same _ B 8 _ _ y8 h7
 have h9:((((((((((w.setCell ⟨B,0,none⟩ y0).setCell ⟨B,1,none⟩ y1).setCell ⟨B,2,none⟩ y2).setCell ⟨B,3,none⟩ y3).setCell ⟨B,4,none⟩ y4).setCell ⟨B,5,none⟩ y5).setCell ⟨B,6,none⟩ y6).setCell ⟨B,7,none⟩ y7).setCell ⟨B,8,none⟩ y8).setCell ⟨B,9,none⟩ y9).heap[B]?=some (.cells #[y0,y1,y2,y3,y4,y5,y6,y7,y8,y9] T (0,0)):=heap_setCell_same _ B 9 _ _ y9 h8
 exact h9

theorem stN10_far (w:World) (B:Nat) (y0 y1 y2 y3 y4 y5 y6 y7 y8 y9:Value) {k:Nat} (hk:¬ k=B):(stN10 w B y0 y1 y2 y3 y4 y5 y6 y7 y8 y9).heap[k]?=w.heap[k]?:=by
 unfold stN10
 rw [Below.heap_setCell _ _ _ k hk,Below.heap_setCell _ _ _ k hk,Below.heap_setCell _ _ _ k hk,Below.heap_setCell _ _ _ k hk,Below.heap_setCell _ _ _ k hk,Below.heap_setCell _ _ _ k hk,Below.heap_setCell _ _ _ k hk,Below.heap_setCell _ _ _ k hk,Below.heap_setCell _ _ _ k hk,Below.heap_setCell _ _ _ k hk]

theorem stN10_below {w0 w:World} {n B:Nat} (h:Below n w0 w) (hB:n≤B) (y0 y1 y2 y3 y4 y5 y6 y7 y8 y9:Value):Below n w0 (stN10 w B y0 y1 y2 y3 y4 y5 y6 y7 y8 y9):=by
 unfold stN10
 exact (((((((((h.setCell hB _).setCell hB _).setCell hB _).setCell hB _).setCell hB _).setCell hB _).setCell hB _).setCell hB _).setCell hB _).setCell hB _

def stN13 (w:World) (B:Nat) (y0 y1 y2 y3 y4 y5 y6 y7 y8 y9 y10 y11 y12:Value):World:=((((((((((((w.setCell ⟨B,0,none⟩ y0).setCell ⟨B,1,none⟩ y1).setCell ⟨B,2,none⟩ y2).setCell ⟨B,3,none⟩ y3).setCell ⟨B,4,none⟩ y4).setCell ⟨B,5,none⟩ y5).setCell ⟨B,6,none⟩ y6).setCell ⟨B,7,none⟩ y7).setCell ⟨B,8,none⟩ y8).setCell ⟨B,9,none⟩ y9).setCell ⟨B,10,none⟩ y10).setCell ⟨B,11,none⟩ y11).setCell ⟨B,12,none⟩ y12
end
section
open Go.RowKit

section
variable {P:Program} {ops:Array Oper} {Q:Exit→Act→World→Prop} {md:Region.Mode} {S:World→Prop}

theorem tkZ (i:Nat) {oi:Oper} {v:Value} {fuel:Nat} {listed:Array Bool} {a a':Act} {w:World} (h:wpAnyH P md ops Q S fuel (listed.setIfInBounds i true) a' w)
  (hi:ops[i]?=some oi:=by (simp only [List.getElem?_toArray,List.getElem?_cons_succ,List.getElem?_cons_zero]; exact rfl))
  (hs:Region.noSelect ops=true:=by as_aux_lemma => kernel_rfl) (hf:Region.free md ops listed i=true:=by as_aux_lemma => kernel_rfl) (hr:(Region.ready md ops listed).contains i=true:=by as_aux_lemma => kernel_rfl)
  (hy:Region.wanted oi (yielded ops a.tmps)=true:=by rfl)
  (hv:∀ w',S w'→(execOp a.eval oi).run P w'=.ok (.value v) w':=by (intro w' hSw; (try dsimp only at hSw); go_simp; (try with_reducible rfl)))
  (ha:a.put oi.dst v=a':=by ((try simp only [Act.put,List.setIfInBounds_toArray,List.set_cons_zero,List.set_cons_succ]); exact rfl))
  (hQ:∀ c a w,Q (.panic c) (a.put oi.dst v) w→Q (.panic c) a w:=by exact fun _ _ _ h => h) (hS:S w:=by assumption):wpAnyH P md ops Q S (fuel+1) listed a w:=by
 subst ha
 exact wpAnyH_take hi hs hf hr hQ (Or.inl ⟨hy,hv⟩) hS h

end

theorem heldB_at {bs:List (Nat × List Value)} {b:Nat} {vs:List Value} (hm:(b,vs) ∈ bs) (i:Nat) (v:Value) (hi:vs[i]?=some v) (X:World) (h:heldB X bs):X.cell? ⟨b,i,none⟩=some v:=heldB_get h hm hi

theorem ckZ {w:World} {b:Nat} {l:List Value} {T:TypeId} (h:w.heap[b]?=some (.cells l.toArray T (0,0))) (i:Nat) (v:Value) (hi:l[i]?=some v):w.cell? ⟨b,i,none⟩=some v:=by
 rw [cell_of_row w b i _ _ _ h]
 simpa using hi

theorem stK {w:World} {k:Nat} {o:Obj} (h:w.heap[k]?=some o) {a:Addr} {u:Value} (hn:¬ k=a.block):(w.setCell a u).heap[k]?=some o:=(Below.heap_setCell _ _ _ k hn).trans h
theorem stS {w:World} {B:Nat} {old:List Value} {T:TypeId} (h:w.heap[B]?=some (.cells old.toArray T (0,0))) (i:Nat) (v:Value) (new:List Value) (hn:old.set i v=new):(w.setCell ⟨B,i,none⟩ v).heap[B]?=some (.cells new.toArray T (0,0)):=by
 have:=heap_setCell_same w B i _ _ v h
 rw [this,← hn]
 simp

theorem ent1 (w:World) (o0:Obj):Hid ((w.alloc o0).heap[w.heap.size]?=some o0)∧Hid (Below w.heap.size w (w.alloc o0)):=⟨newQ w o0,bl_newZ w o0⟩
theorem ent2 (w:World) (o0 o1:Obj):Hid (((w.alloc o0).alloc o1).heap[w.heap.size]?=some o0)∧Hid (((w.alloc o0).alloc o1).heap[w.heap.size+1]?=some o1)∧Hid (Below w.heap.size w ((w.alloc o0).alloc o1)):=by
 have h:=newQ (w.alloc o0) o1
 rw [World.size_alloc] at h
 exact⟨upQ (newQ w o0) (bl_newZ _ o1),h,below2Z (bl_newZ w o0) (bl_newZ _ o1)⟩
theorem ent3 (w:World) (o0 o1 o2:Obj):Hid ((((w.alloc o0).alloc o1).alloc o2).heap[w.heap.size]?=some o0)∧Hid ((((w.alloc o0).alloc o1).alloc o2).heap[w.heap.size+1]?=some o1)∧Hid ((((w.alloc o0).alloc o1).alloc o2).heap[w.heap.size+1+1]?=some o2)∧Hid (Below w.heap.size w (((w.alloc o0).alloc o1).alloc o2)):=by
 obtain⟨h0,h1,h2⟩:=ent2 w o0 o1
 have h:=newQ ((w.alloc o0).alloc o1) o2
 rw [World.size_alloc,World.size_alloc] at h
 exact⟨upQ h0 (bl_newZ _ o2),upQ h1 (bl_newZ _ o2),h,below2Z h2 (bl_newZ _ o2)⟩
theorem ent4 (w:World) (o0 o1 o2 o3:Obj):Hid (((((w.alloc o0).alloc o1).alloc o2).alloc o3).heap[w.heap.size]?=some o0)∧Hid (((((w.alloc o0).alloc o1).alloc o2).alloc o3).heap[w.heap.size+1]?=some o1)∧Hid (((((w.alloc o0).alloc o1).alloc o2).alloc o3).heap[w.heap.size+1+1]?=some o2)∧Hid (((((w.alloc o0).alloc o1).alloc o2).alloc o3).heap[w.heap.size+1+1+1]?=some o3)∧Hid (Below w.heap.size w ((((w.alloc o0).alloc o1).alloc o2).alloc o3)):=by
 obtain⟨h0,h1,h2,h3⟩:=ent3 w o0 o1 o2
 have h:=newQ (((w.alloc o0).alloc o1).alloc o2) o3
 rw [World.size_alloc,World.size_alloc,World.size_alloc] at h
 exact⟨upQ h0 (bl_newZ _ o3),upQ h1 (bl_newZ _ o3),upQ h2 (bl_newZ _ o3),h,below2Z h3 (bl_newZ _ o3)⟩
end
section
open Go.RowKit Go.ChangeMaps Go.MapKept

def fnVal:Option (Int × Nat)→Value
 | some x => .func (.func x.2) #[] #[]
 | none => .nilFunc

def fnData:Option (Int × Nat)→DataW Unit
 | some x => .lit (.int .i64 x.2)
 | none => .lit (.bool false)

def fnElem:Value→Option (DataW Unit × List MemPlace)
 | .func (.func f) ⟨[]⟩ ⟨[]⟩ => some (.lit (.int .i64 f),[])
 | .nilFunc => some (.lit (.bool false),[])
 | _ => none

theorem fnElem_inv {v:Value} {z:DataW Unit × List MemPlace} (h:fnElem v=some z) (o:Option (Int × Nat)) (hz:z.1=fnData o):v=fnVal o:=by
 unfold fnElem at h
 split at h
 ·rename_i f
  obtain rfl:=(Option.some.inj h).symm
  cases o with
  | none => simp [fnData] at hz
  | some x =>
   obtain⟨k,g⟩:=x
   simp [fnData] at hz
   obtain rfl:=Int.ofNat.inj hz
   rfl
 ·obtain rfl:=(Option.some.inj h).symm
  cases o with
  | none => rfl
  | some x => simp [fnData] at hz
 ·cases h

def FnMap (w:World) (B:Nat) (l:List (Int × Nat)):Prop :=
 ∃ D:DataW Unit,w.ownsMap Tryz.prog 3 fnElem B l.length D ∧
  ∀ k:Int,Maps.has D (.int .i64 k)=l.any (fun x => x.1 == k)∧D.atKey (.int .i64 k) (.lit (.bool false))=fnData (l.find? fun x => x.1 == k)

theorem fnMap_made (w:World):FnMap (w.alloc (.map #[] 0)) w.heap.size [] :=
 ⟨.map [],World.ownsMap_made w _ _ _,fun _ => ⟨rfl,rfl⟩⟩

theorem FnMap.lt {w:World} {B:Nat} {l:List (Int × Nat)} (h:FnMap w B l):B < w.heap.size:=by
 obtain⟨_,h,_⟩:=h
 exact h.lt

theorem FnMap.later {w w':World} {B:Nat} {l:List (Int × Nat)} (h:FnMap w B l) (hb:Below w.heap.size w w'):FnMap w' B l:=by
 have hlt:=h.lt
 obtain⟨D,⟨es,clock,h2,h3,h4,h5⟩,h6⟩:=h
 exact⟨D,⟨es,clock,(hb.block B hlt).trans h2,h3,h4,h5⟩,h6⟩
end
section
open Go.RowKit Go.ChangeMaps Go.MapKept

theorem zeroFnC (w:World):(zeroValue 83).run Tryz.prog w=.ok .nilFunc w:=by kernel_rfl

theorem FnMap.lookC {w:World} {B:Nat} {l:List (Int × Nat)} (h:FnMap w B l) (k:Int) (hk:(Lit.int .i64 k).wf=true) :
  (Instr.lookup 130 (.map (some B)) (.int .i64 k) true).run Tryz.prog w=.ok (.tuple #[fnVal (l.find? fun x => x.1 == k),.bool (l.any fun x => x.1 == k)]) w:=by
 obtain⟨D,h2,h3⟩:=h
 obtain⟨v,ps,hrun,hv⟩:=h2.look_ok (Maps.int_keyed Tryz.underlying3) Tryz.underlying130 (zeroFnC w) (show fnElem .nilFunc=some (.lit (.bool false),[]) from rfl) (Maps.keyOf_int_mk Tryz.underlying3 hk)
 rw [(h3 k).2] at hv
 rw [fnElem_inv hv _ rfl,(h3 k).1] at hrun
 exact hrun

theorem wpList_fnC {w:World} {ops:Array Oper} {rest:List Oper} {o:Oper} {a:Act} {Q:Exit→Act→World→Prop}
  (hg:o.guard=none) (m x v:Operand) (hop:o.op=Op.insert 130 m x v) (B:Nat) (l:List (Int × Nat)) (hm:a.eval m=.map (some B)) (hown:FnMap w B l) (hl:l.length≤100)
  (k:Int) (hk:(Lit.int .i64 k).wf=true) (f:Nat) (hx:a.eval x=.int .i64 k) (hv:a.eval v=.func (.func f) #[] #[])
  (hK:∀ w',FnMap w' B ((k,f) :: l)→w.grownBy w' (some B)→wpList Tryz.prog ops Q rest (a.put o.dst undef) w') :
  wpList Tryz.prog ops Q (o :: rest) a w:=by
 obtain⟨D,h2,h3⟩:=hown
 refine wpList_plain hg fun K' hK' => ?_
 obtain⟨w',hrun,h6,h7⟩:=h2.update (Maps.int_keyed Tryz.underlying3) Tryz.underlying130 (by unfold maxLen; omega) (Maps.keyOf_int_mk Tryz.underlying3 hk) (show fnElem (.func (.func f) #[] #[])=some (.lit (.int .i64 f),[]) from rfl)
 unfold Oper.wp
 simp [execOp,hop,hm,hx,hv,hrun,Result.andThen]
 refine hK' _ _ ?_
 have hT:=h2.tidy (Maps.int_keyed Tryz.underlying3)
 refine hK w' ⟨_,h6,fun y => ?_⟩ h7
 by_cases e:y=k
 ·subst e
  rw [Maps.has_put_same hT.isMap (show WideAt.IsKeyLit (.int .i64 y) from True.intro),Maps.atKey_put_same hT.isMap (show WideAt.IsKeyLit (.int .i64 y) from True.intro)]
  simp [fnData]
 ·have hne:(Lit.int .i64 y) ≠ .int .i64 k:=fun h => e (by injection h)
  rw [Maps.has_put_other hne,Maps.atKey_put_other hne,(h3 y).1,(h3 y).2]
  have e':(k == y)=false:=by simpa using fun h => e h.symm
  simp [e']

def kindFnsC:List (Int × Nat):=[(3,127),(2,126),(1,125)]

theorem kindsC_any (w:World):Calls Tryz.prog 97 #[] w fun e w' => e=.returned (.map (some w.heap.size))∧FnMap w' w.heap.size kindFnsC∧Below w.heap.size w w':=by
 have hmm:=fun w => run_makeMap (P:=Tryz.prog) 130 w
 have H0:=hZq (fnMap_made w)
 have B0:Hid (Below w.heap.size w (w.alloc (.map #[] 0))):=hZq ((Below.refl _ _).alloc (Nat.le_refl _) _)
 go_enter Tryz.func97,Tryz.ntmps97
 go_wp2_with (first
  | (refine wpList_fnC rfl _ _ _ rfl w.heap.size [] rfl H0.out (by decide) 1 (by decide) 125 rfl rfl ?_; intro w1 h g; (have H1:=hZq h); (have B1:Hid (Below w.heap.size w w1):=hZq (B0.out.grown g B0.out.size (by intro k hk; injection hk with hk; omega))); clear h g H0)
  | (refine wpList_fnC rfl _ _ _ rfl w.heap.size [(1,125)] rfl H1.out (by decide) 2 (by decide) 126 rfl rfl ?_; intro w2 h g; (have H2:=hZq h); (have B2:Hid (Below w.heap.size w w2):=hZq (B1.out.grown g B1.out.size (by intro k hk; injection hk with hk; omega))); clear h g H1)
  | (refine wpList_fnC rfl _ _ _ rfl w.heap.size [(2,126),(1,125)] rfl H2.out (by decide) 3 (by decide) 127 rfl rfl ?_; intro w3 h g; (have H3:=hZq h); (have B3:Hid (Below w.heap.size w w3):=hZq (B2.out.grown g B2.out.size (by intro k hk; injection hk with hk; omega))); clear h g H2))
 go_ret
 exact⟨rfl,H3.out,B3.out⟩
end
section

def c1 (x:Nat):Nat:=if x % 2=1 then x / 2 ^^^ 3988292384 else x / 2

def cN:Nat→Nat→Nat
 | 0,x => x
 | k+1,x => cN k (c1 x)

def cstep (c b:Nat):Nat:=cN 8 (c ^^^ b)

def cfold (c:Nat) (l:List UInt8):Nat:=l.foldl (fun c b => cstep c b.toNat) c

def csum (l:List UInt8):Nat:=cfold 4294967295 l ^^^ 4294967295

def low4 (n:Nat):List UInt8:=[u8of (n % 256),u8of (n / 256 % 256),u8of (n / 65536 % 256),u8of (n / 16777216 % 256)]

def cseal (l:List UInt8):List UInt8:=l ++ low4 (csum l)

def copen (t:List UInt8):List UInt8 × Nat :=
 if t.length < 4 then ([],2) else if t.drop (t.length - 4)=low4 (csum (t.take (t.length - 4))) then (t.take (t.length - 4),0) else ([],4)

theorem c1_lt {x:Nat} (h:x < 4294967296):c1 x < 4294967296:=by
 unfold c1
 split
 ·exact Nat.xor_lt_two_pow (n:=32) (by omega) (by omega)
 ·omega

theorem cN_lt:∀ (k:Nat) {x:Nat},x < 4294967296→cN k x < 4294967296
 | 0,_,h => h
 | k+1,_,h => cN_lt k (c1_lt h)

theorem cstep_lt {c b:Nat} (hc:c < 4294967296) (hb:b < 4294967296):cstep c b < 4294967296:=cN_lt 8 (Nat.xor_lt_two_pow (n:=32) hc hb)

theorem cfold_lt:∀ (l:List UInt8) {c:Nat},c < 4294967296→cfold c l < 4294967296
 | [],_,h => h
 | b :: l,_,h => cfold_lt l (cstep_lt h (by have:=b.toNat_lt; omega))

theorem cfold_append (c:Nat) (a b:List UInt8):cfold c (a ++ b)=cfold (cfold c a) b:=by unfold cfold; exact List.foldl_append

theorem csum_lt (l:List UInt8):csum l < 4294967296:=Nat.xor_lt_two_pow (n:=32) (cfold_lt l (by decide)) (by decide)

def cK:Nat:=cN 32 4294967295

theorem copen_seal (s:List UInt8):copen (cseal s)=(s,0):=by
 have hl:(cseal s).length=s.length+4:=by simp [cseal,low4]
 unfold copen
 rw [if_neg (by omega),hl,Nat.add_sub_cancel]
 have e1:(cseal s).take s.length=s:=by simp [cseal]
 have e2:(cseal s).drop s.length=low4 (csum s):=by simp [cseal]
 rw [e1,e2,if_pos rfl]

theorem copen_ok {t s:List UInt8} (h:copen t=(s,0)):cseal s=t:=by
 unfold copen at h
 split at h
 ·simp at h
 ·split at h
  ·rename_i h4 hd
   simp only [Prod.mk.injEq,and_true] at h
   subst h
   unfold cseal
   rw [← hd,List.take_append_drop]
  ·simp at h
end
section

structure Frm where
 k:Int
 s:Int
 on:Bool
 c:List UInt8
 v:Val
 sum:Nat
 t:List Row

def Frm.zero:Frm:=⟨0,0,false,[],Val.zero,0,[]⟩

def frRest (f:Frm):Bool :=
 if f.k=1 then decide (f.sum=0) && (decide (f.t.length=0) && (idIs f.c && (if f.on=true then vaMay f.v else vSame f.v Val.zero)))
 else if f.k=2 then (!f.on && (f.c == [] && vSame f.v Val.zero)) && decide (f.t.length=0)
 else if f.k=3 then (!f.on && (f.c == [] && vSame f.v Val.zero)) && (decide (f.sum=0) && diMay f.t)
 else (!f.on && (f.c == [] && vSame f.v Val.zero)) && (decide (f.sum=0) && decide (f.t.length=0))

def frMay (f:Frm):Bool:=(decide (1≤f.k) && decide (f.k≤4)) && ((decide (0≤f.s) && decide (f.s≤1099511627776)) && frRest f)

def be8 (n:Nat):List UInt8:=[u8of (n / 72057594037927936 % 256),u8of (n / 281474976710656 % 256),u8of (n / 1099511627776 % 256),u8of (n / 4294967296 % 256),u8of (n / 16777216 % 256),u8of (n / 65536 % 256),u8of (n / 256 % 256),u8of (n % 256)]

def frBody (f:Frm):List UInt8 :=
 if f.k=1 then (if f.on=true then 1 :: ((idPut f.c).1 ++ vaBytes f.v) else 0 :: (idPut f.c).1)
 else if f.k=2 then be8 f.sum
 else if f.k=3 then (diPut f.t).1
 else []

def frPlain (f:Frm):List UInt8:=u8of f.k.toNat :: (vput f.s.toNat ++ frBody f)

def frEnc (f:Frm):List UInt8 × Nat:=if frMay f=true then (cseal (frPlain f),0) else ([],1)

def sum8 (l:List UInt8):Nat:=l.foldl (fun a b => a * 256+b.toNat) 0

def frTakeBody (k : Nat) (s : Nat) (b : List UInt8) : Option Frm :=
  if k = 1 then
    (if b.length = 0 then none
     else if (idTake b 1).2.2 ≠ 0 then none
     else if b.getD 0 0 = 0 then some ⟨1, s, false, (idTake b 1).1, Val.zero, 0, []⟩
     else if (vaTake b (idTake b 1).2.1).2.2 ≠ 0 then none
     else some ⟨1, s, true, (idTake b 1).1, (vaTake b (idTake b 1).2.1).1, 0, []⟩)
  else if k = 2 then (if b.length < 8 then none else some ⟨2, s, false, [], Val.zero, sum8 (b.take 8), []⟩)
  else if k = 3 then (if (diTake b 0).2.2 ≠ 0 then none else some ⟨3, s, false, [], Val.zero, 0, (diTake b 0).1⟩)
  else some ⟨k, s, false, [], Val.zero, 0, []⟩

def frTake (l:List UInt8):Option Frm :=
 match l with
 | [] => none
 | x :: r => if x.toNat < 1∨4 < x.toNat then none else if (vget (x :: r) 1).2.2 ≠ 0 then none else frTakeBody x.toNat (vget (x :: r) 1).1 ((x :: r).drop (vget (x :: r) 1).2.1)

theorem sum8_be8 (n:Nat) (h:n < 18446744073709551616):sum8 (be8 n)=n:=by
 unfold sum8 be8
 simp only [List.foldl_cons,List.foldl_nil]
 rw [u8of_toNat (by omega),u8of_toNat (by omega),u8of_toNat (by omega),u8of_toNat (by omega),u8of_toNat (by omega),u8of_toNat (by omega),u8of_toNat (by omega),u8of_toNat (by omega)]
 omega

structure FrOk (f:Frm):Prop where
 k1:1≤f.k
 k4:f.k≤4
 s0:0≤f.s
 s1:f.s≤1099511627776
 rest:frRest f=true

theorem frMay_iff {f:Frm}:frMay f=true ↔ FrOk f:=by
 unfold frMay
 simp only [Bool.and_eq_true,decide_eq_true_eq]
 exact⟨fun ⟨⟨a,b⟩,⟨c,d⟩,e⟩ => ⟨a,b,c,d,e⟩,fun ⟨a,b,c,d,e⟩ => ⟨⟨a,b⟩,⟨c,d⟩,e⟩⟩

theorem frTakeBody_body {f:Frm} (h:FrOk f) (hs:f.sum < 18446744073709551616):frTakeBody f.k.toNat f.s.toNat (frBody f)=some f:=by
 obtain⟨k,s,on,c,v,sum,t⟩:=f
 obtain⟨h1,h2,h3,h4,h5⟩:=h
 simp only at h1 h2 h3 h4 hs
 obtain⟨s,rfl⟩:=Int.eq_ofNat_of_zero_le h3
 have hk:k=1∨k=2∨k=3∨k=4:=by omega
 unfold frRest at h5
 simp only at h5
 rcases hk with rfl | rfl | rfl | rfl
 ·simp only [if_true,Bool.and_eq_true,decide_eq_true_eq,List.length_eq_zero_iff] at h5
  obtain⟨rfl,rfl,hc,hv⟩:=h5
  have hp:(idPut c).1=vput c.length ++ c:=by unfold idPut; rw [if_pos hc]
  cases on with
  | false =>
   simp only [Bool.false_eq_true,if_false] at hv
   obtain rfl:=vSame_iff.1 hv
   have e:=idTake_at hc [0] []
   simp only [List.append_nil,List.length_singleton,List.cons_append,List.nil_append] at e
   have e':idTake (0 :: (vput c.length ++ c)) 1=(c,1+(vput c.length ++ c).length,0):=e
   unfold frTakeBody frBody
   simp [hp,e']
  | true =>
   simp only [if_true] at hv
   have e:=idTake_at hc [1] (vaBytes v)
   simp only [List.length_singleton,List.cons_append,List.nil_append] at e
   have e':idTake (1 :: ((vput c.length ++ c) ++ vaBytes v)) 1=(c,1+(vput c.length ++ c).length,0):=e
   have g:=vaTake_put hv (1 :: (vput c.length ++ c)) []
   rw [List.append_nil,List.cons_append] at g
   have g':vaTake (1 :: ((vput c.length ++ c) ++ vaBytes v)) ((1+(vput c.length ++ c).length:Nat):Int)=(v,(1 :: (vput c.length ++ c)).length+(vaBytes v).length,0):=by
    rw [← g]
    congr 1
    simp only [List.length_cons]
    omega
   unfold frTakeBody frBody
   simp only [if_true,hp,e',g']
   simp
 ·simp only [show ¬ (2:Int)=1 by omega,if_false,if_true,Bool.and_eq_true,decide_eq_true_eq,List.length_eq_zero_iff,Bool.not_eq_true',beq_iff_eq] at h5
  obtain⟨⟨rfl,rfl,hv⟩,rfl⟩:=h5
  obtain rfl:=vSame_iff.1 hv
  unfold frTakeBody frBody
  simp [be8]
  exact sum8_be8 sum hs
 ·simp only [show ¬ (3:Int)=1 by omega,show ¬ (3:Int)=2 by omega,if_false,if_true,Bool.and_eq_true,decide_eq_true_eq,Bool.not_eq_true',beq_iff_eq] at h5
  obtain⟨⟨rfl,rfl,hv⟩,rfl,ht⟩:=h5
  obtain rfl:=vSame_iff.1 hv
  have e:=diTake_put ht [] []
  simp only [List.nil_append,List.append_nil,List.length_nil] at e
  have e':diTake (diBytes t) 0=(t,0+(diBytes t).length,0):=e
  have hp:(diPut t).1=diBytes t:=by unfold diPut; rw [if_pos ht]
  unfold frTakeBody frBody
  simp [hp,e']
 ·simp only [show ¬ (4:Int)=1 by omega,show ¬ (4:Int)=2 by omega,show ¬ (4:Int)=3 by omega,if_false,Bool.and_eq_true,decide_eq_true_eq,List.length_eq_zero_iff,Bool.not_eq_true',beq_iff_eq] at h5
  obtain⟨⟨rfl,rfl,hv⟩,rfl,rfl⟩:=h5
  obtain rfl:=vSame_iff.1 hv
  unfold frTakeBody frBody
  simp

theorem frTake_plain {f:Frm} (h:frMay f=true) (hs:f.sum < 18446744073709551616):frTake (frPlain f)=some f:=by
 have ho:=frMay_iff.1 h
 have hk1:=ho.k1
 have hk4:=ho.k4
 have hs1:=ho.s1
 have hb:=frTakeBody_body ho hs
 have hx:(u8of f.k.toNat).toNat=f.k.toNat:=u8of_toNat (by omega)
 have hg:=vget_vput f.s.toNat (by omega) [u8of f.k.toNat] (frBody f)
 simp only [List.length_singleton,List.cons_append,List.nil_append] at hg
 have hg':vget (u8of f.k.toNat :: (vput f.s.toNat ++ frBody f)) 1=(f.s.toNat,1+(vput f.s.toNat).length,0):=hg
 unfold frPlain frTake
 simp only [hg',hx]
 rw [if_neg (by omega),if_neg (by simp)]
 have hd:(u8of f.k.toNat :: (vput f.s.toNat ++ frBody f)).drop (1+(vput f.s.toNat).length)=frBody f:=by
  rw [Nat.add_comm,List.drop_succ_cons,List.drop_left' rfl]
 rw [hd,hb]
end
section

def frReadAt (l : List UInt8) (k n a : Nat) : Frm :=
  if k = 1 then
    (if l.length ≤ a then Frm.zero
     else if (idTake l (a + 1)).2.2 ≠ 0 then Frm.zero
     else if l.getD a 0 = 1 then
       (if (vaTake l (idTake l (a + 1)).2.1).2.2 ≠ 0 then Frm.zero else ⟨1, n, true, (idTake l (a + 1)).1, (vaTake l (idTake l (a + 1)).2.1).1, 0, []⟩)
     else ⟨1, n, false, (idTake l (a + 1)).1, Val.zero, 0, []⟩)
  else if k = 2 then ⟨2, n, false, [], Val.zero, sum8 ((l.drop a).take 8), []⟩
  else if k = 3 then (if (diTake l a).2.2 ≠ 0 then Frm.zero else ⟨3, n, false, [], Val.zero, 0, (diTake l a).1⟩)
  else ⟨k, n, false, [], Val.zero, 0, []⟩

def frRead (l:List UInt8):Frm :=
 match l with
 | [] => Frm.zero
 | x :: r => if (vget (x :: r) 1).2.2 ≠ 0∨1099511627776 < (vget (x :: r) 1).1 then Frm.zero else frReadAt (x :: r) x.toNat (vget (x :: r) 1).1 (vget (x :: r) 1).2.1

theorem frReadAt_body {f:Frm} (h:FrOk f) (hs:f.sum < 18446744073709551616) (a:List UInt8):frReadAt (a ++ frBody f) f.k.toNat f.s.toNat a.length=f:=by
 obtain⟨k,s,on,c,v,sum,t⟩:=f
 obtain⟨h1,h2,h3,h4,h5⟩:=h
 simp only at h1 h2 h3 h4 hs
 obtain⟨s,rfl⟩:=Int.eq_ofNat_of_zero_le h3
 have hk:k=1∨k=2∨k=3∨k=4:=by omega
 unfold frRest at h5
 simp only at h5
 rcases hk with rfl | rfl | rfl | rfl
 ·simp only [if_true,Bool.and_eq_true,decide_eq_true_eq,List.length_eq_zero_iff] at h5
  obtain⟨rfl,rfl,hc,hv⟩:=h5
  have hp:(idPut c).1=vput c.length ++ c:=by unfold idPut; rw [if_pos hc]
  cases on with
  | false =>
   simp only [Bool.false_eq_true,if_false] at hv
   obtain rfl:=vSame_iff.1 hv
   have e:=idTake_at hc (a ++ [0]) []
   have e':idTake (a ++ 0 :: (vput c.length ++ c)) ((a.length:Int)+1)=(c,(a ++ [0]).length+(vput c.length ++ c).length,0):=by
    rw [← e]
    congr 1
    ·simp
    ·simp
   unfold frReadAt frBody
   simp [hp,e']
   omega
  | true =>
   simp only [if_true] at hv
   have e:=idTake_at hc (a ++ [1]) (vaBytes v)
   have e':idTake (a ++ 1 :: (vput c.length ++ (c ++ vaBytes v))) ((a.length:Int)+1)=(c,(a ++ [1]).length+(vput c.length ++ c).length,0):=by
    rw [← e]
    congr 1
    ·simp
    ·simp
   have g:=vaTake_put hv (a ++ 1 :: (vput c.length ++ c)) []
   have g':vaTake (a ++ 1 :: (vput c.length ++ (c ++ vaBytes v))) (((a ++ [1]).length+(vput c.length ++ c).length:Nat):Int)=(v,(a ++ 1 :: (vput c.length ++ c)).length+(vaBytes v).length,0):=by
    rw [← g]
    congr 1
    ·simp
    ·simp only [List.length_append,List.length_cons,List.length_nil]
     omega
   unfold frReadAt frBody
   simp only [if_true,hp,List.append_assoc,e',g']
   simp
   omega
 ·simp only [show ¬ (2:Int)=1 by omega,if_false,if_true,Bool.and_eq_true,decide_eq_true_eq,List.length_eq_zero_iff,Bool.not_eq_true',beq_iff_eq] at h5
  obtain⟨⟨rfl,rfl,hv⟩,rfl⟩:=h5
  obtain rfl:=vSame_iff.1 hv
  unfold frReadAt frBody
  simp [be8]
  exact sum8_be8 sum hs
 ·simp only [show ¬ (3:Int)=1 by omega,show ¬ (3:Int)=2 by omega,if_false,if_true,Bool.and_eq_true,decide_eq_true_eq,Bool.not_eq_true',beq_iff_eq] at h5
  obtain⟨⟨rfl,rfl,hv⟩,rfl,ht⟩:=h5
  obtain rfl:=vSame_iff.1 hv
  have e:=diTake_put ht a []
  rw [List.append_nil] at e
  have hp:(diPut t).1=diBytes t:=by unfold diPut; rw [if_pos ht]
  unfold frReadAt frBody
  simp [hp,e]
 ·simp only [show ¬ (4:Int)=1 by omega,show ¬ (4:Int)=2 by omega,show ¬ (4:Int)=3 by omega,if_false,Bool.and_eq_true,decide_eq_true_eq,List.length_eq_zero_iff,Bool.not_eq_true',beq_iff_eq] at h5
  obtain⟨⟨rfl,rfl,hv⟩,rfl,rfl⟩:=h5
  obtain rfl:=vSame_iff.1 hv
  unfold frReadAt frBody
  simp

theorem frRead_plain {f:Frm} (h:frMay f=true) (hs:f.sum < 18446744073709551616):frRead (frPlain f)=f:=by
 have ho:=frMay_iff.1 h
 have hk1:=ho.k1
 have hk4:=ho.k4
 have hs1:=ho.s1
 have hb:=frReadAt_body ho hs (u8of f.k.toNat :: vput f.s.toNat)
 have hx:(u8of f.k.toNat).toNat=f.k.toNat:=u8of_toNat (by omega)
 have hg:=vget_vput f.s.toNat (by omega) [u8of f.k.toNat] (frBody f)
 simp only [List.length_singleton,List.cons_append,List.nil_append] at hg
 have hg':vget (u8of f.k.toNat :: (vput f.s.toNat ++ frBody f)) 1=(f.s.toNat,1+(vput f.s.toNat).length,0):=hg
 unfold frPlain frRead
 simp only [hg',hx]
 rw [if_neg (by omega)]
 simp only [List.length_cons,List.cons_append] at hb
 rw [Nat.add_comm 1]
 exact hb

def frDec (s:List UInt8):Frm × Nat :=
 if (copen s).2 ≠ 0 then (Frm.zero,(copen s).2)
 else match frTake (copen s).1 with
  | some f => if frMay f=true∧frPlain f=(copen s).1 then (f,0) else (Frm.zero,3)
  | none => (Frm.zero,3)

def frDoc (s:List UInt8):Frm × Nat :=
 if (copen s).2 ≠ 0 then (Frm.zero,(copen s).2)
 else if frMay (frRead (copen s).1)=true∧cseal (frPlain (frRead (copen s).1))=s then (frRead (copen s).1,0) else (Frm.zero,3)

theorem frDec_plain {s:List UInt8} {f:Frm} (hf:frMay f=true) (hs:f.sum < 18446744073709551616) (h:cseal (frPlain f)=s):frDec s=(f,0)∧frDoc s=(f,0):=by
 subst h
 unfold frDec frDoc
 rw [copen_seal]
 simp only [frTake_plain hf hs,frRead_plain hf hs,hf]
 simp
end
section

theorem idPut_lenS (c:List UInt8):(idPut c).1.length≤26:=by
 unfold idPut
 by_cases h:idIs c=true
 ·rw [if_pos h]
  have:=(idIs_parts h).2.1
  have:=vput_len_le c.length
  simp only [List.length_append]
  omega
 ·rw [if_neg h]
  simp

theorem frBody_len {f:Frm} (h:FrOk f):(frBody f).length≤1985:=by
 have hr:=h.rest
 unfold frRest at hr
 unfold frBody
 by_cases h1:f.k=1
 ·rw [if_pos h1] at hr ⊢
  simp only [Bool.and_eq_true] at hr
  have hi:=idPut_lenS f.c
  cases ho:f.on with
  | false => simp; omega
  | true =>
   rw [ho] at hr
   simp only [if_true] at hr
   have:=vaBytes_len hr.2.2.2
   have:=(vaMay_parts hr.2.2.2).2.2.2.2.2.2
   have:=vput_len_le f.v.si.toNat
   simp
   omega
 ·rw [if_neg h1]
  by_cases h2:f.k=2
  ·rw [if_pos h2]; simp [be8]
  ·rw [if_neg h2]
   by_cases h3:f.k=3
   ·rw [if_pos h3]; exact diPut_len f.t
   ·rw [if_neg h3]; simp

theorem frPlain_len {f:Frm} (h:frMay f=true):2≤(frPlain f).length∧(frPlain f).length≤1996:=by
 have hb:=frBody_len (frMay_iff.1 h)
 have h1:=vput_len_le f.s.toNat
 have h2:=vput_len_pos f.s.toNat
 unfold frPlain
 simp only [List.length_cons,List.length_append]
 omega
end
section

theorem enc_mayP {f:Frm} (h:frMay f=true):frEnc f=(cseal (frPlain f),0):=by unfold frEnc; rw [if_pos h]
theorem seal_lenP (l:List UInt8):(cseal l).length=l.length+4:=by simp [cseal,low4]
end
section

structure Cli where
 t:List Row
 n:Int
 o:Bool

def clMay (c:Cli):Bool:=(decide (0≤c.n) && decide (c.n≤1099511627777)) && diMay c.t

def clDo (c:Cli) (f:Frm):Cli :=
 if f.k=3 then ⟨f.t,f.s+1,false⟩
 else if (c.o || decide (c.n < f.s))=true then ⟨c.t,f.s+1,true⟩
 else if f.k=2 then ⟨c.t,f.s+1,!decide (diSum c.t=f.sum)⟩
 else if diMay (diSet c.t ⟨f.c,f.on,f.v⟩)=true then ⟨diSet c.t ⟨f.c,f.on,f.v⟩,f.s+1,false⟩
 else ⟨c.t,f.s+1,true⟩

def clTakes (c:Cli) (f:Frm):Bool:=(frMay f && !decide (f.k=4)) && (clMay c && decide (c.n≤f.s))

def clFeed (c:Cli) (f:Frm):Cli:=if clTakes c f=true then clDo c f else c

def clSame (a b:Cli):Bool:=decide (a.n=b.n) && ((a.o == b.o) && tSame a.t b.t)

def clReq (c:Cli):Frm:=⟨4,if c.n≤1099511627776 then c.n else 1099511627776,false,[],Val.zero,0,[]⟩

def clAsk (c:Cli):List UInt8 × Bool:=if (c.o && clMay c)=true then (cseal (frPlain (clReq c)),true) else ([],false)

def clRead (c:Cli) (s:List UInt8):Cli × Nat:=if (frDec s).2=0 then (clFeed c (frDec s).1,0) else (c,(frDec s).2)

theorem clMay_parts {c:Cli} (h:clMay c=true):0≤c.n∧c.n≤1099511627777∧diMay c.t=true:=by
 unfold clMay at h
 simp only [Bool.and_eq_true,decide_eq_true_eq] at h
 exact⟨h.1.1,h.1.2,h.2⟩

theorem clMay_of {c:Cli} (h0:0≤c.n) (h1:c.n≤1099511627777) (h2:diMay c.t=true):clMay c=true:=by
 unfold clMay
 simp [h0,h1,h2]

theorem clReq_may {c:Cli} (h:clMay c=true):frMay (clReq c)=true:=by
 obtain⟨h0,h1,_⟩:=clMay_parts h
 refine frMay_iff.2 ⟨(by show (1:Int)≤4; decide),(by show (4:Int)≤4; decide),?_,?_,?_⟩
 ·show 0≤(if c.n≤1099511627776 then c.n else 1099511627776)
  split <;> omega
 ·show (if c.n≤1099511627776 then c.n else 1099511627776)≤1099511627776
  split <;> omega
 ·unfold frRest clReq
  simp [vSame_self]

theorem clTakes_parts {c:Cli} {f:Frm} (h:clTakes c f=true):frMay f=true∧¬ f.k=4∧clMay c=true∧c.n≤f.s:=by
 unfold clTakes at h
 simp only [Bool.and_eq_true,decide_eq_true_eq,Bool.not_eq_true',decide_eq_false_iff_not] at h
 exact⟨h.1.1,h.1.2,h.2.1,h.2.2⟩

theorem clTakes_of {c:Cli} {f:Frm} (h1:frMay f=true) (h2:¬ f.k=4) (h3:clMay c=true) (h4:c.n≤f.s):clTakes c f=true:=by
 unfold clTakes
 simp [h1,h2,h3,h4]

theorem clDo_n (c:Cli) (f:Frm):(clDo c f).n=f.s+1:=by
 unfold clDo
 split
 ·rfl
 ·split
  ·rfl
  ·split
   ·rfl
   ·split <;> rfl

theorem frTable_may {f:Frm} (h:frMay f=true) (hk:f.k=3):diMay f.t=true:=by
 have:=(frMay_iff.1 h).rest
 unfold frRest at this
 rw [if_neg (by omega),if_neg (by omega),if_pos hk] at this
 simp only [Bool.and_eq_true] at this
 exact this.2.2

theorem clDo_may {c:Cli} {f:Frm} (hf:frMay f=true) (hc:clMay c=true):clMay (clDo c f)=true:=by
 have ho:=frMay_iff.1 hf
 obtain⟨_,_,ht⟩:=clMay_parts hc
 have hn:=clDo_n c f
 refine clMay_of (by have:=ho.s0; omega) (by have:=ho.s1; omega) ?_
 unfold clDo
 split
 ·rename_i h; exact frTable_may hf h
 ·split
  ·exact ht
  ·split
   ·exact ht
   ·split
    ·assumption
    ·exact ht

theorem clFeed_may {c:Cli} (f:Frm) (hc:clMay c=true):clMay (clFeed c f)=true:=by
 unfold clFeed
 split
 ·rename_i h; exact clDo_may (clTakes_parts h).1 hc
 ·exact hc

def clPast (n:Int) (f:Frm):Prop:=frMay f=true→¬ f.k=4→f.s < n

def Cli.new:Cli:=⟨[],0,false⟩

def GapsAt (c:Cli) (out:Bool) (next:Int) (t:List Row):Prop:=clMay c=true∧c.o=out∧c.n=next∧diMay t=true∧(out=false→c.t=t)
end
end Go.Proofs.YtmpigdokghngiaaGreat
