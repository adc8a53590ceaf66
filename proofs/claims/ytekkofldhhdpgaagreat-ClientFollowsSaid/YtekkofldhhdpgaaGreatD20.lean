/-
 TEXTS OF THE PROOF, one behind the other: FraTk, Blk, Held.
-/
import Derived.Test.YtekkofldhhdpgaaGreatD19
import Derived.Test.YtekkofldhhdpgaaGreatD02
import Derived.Test.YtekkofldhhdpgaaGreatD10
import Derived.MapKept
import Derived.Deep.RegionHeld
import Derived.BigRegion
import Derived.Lib.Hide

set_option maxHeartbeats 12800000
set_option maxRecDepth 100000

section

namespace Go.Proofs.YtekkofldhhdpgaaGreat
open Go.RowKit

def tkBody (k:Nat) (b:List UInt8):Option Frm :=
 if k=1 then tkDelta b else if k=2 then tkDigest b else if k=3 then tkSnapshot b else tkResync b

def tkAll (l:List UInt8):Option Frm × Int × Int :=
 match l with
 | [] => (none,0,0)
 | x :: r => if x.toNat < 1∨4 < x.toNat then (none,0,0) else if (vget (x :: r) 1).2.2 ≠ 0 then (none,0,0) else (tkBody x.toNat ((x :: r).drop (vget (x :: r) 1).2.1),x.toNat,IntKind.i64.wrap ((vget (x :: r) 1).1:Int))

def TookA (r:Option Frm × Int × Int) (w:World) (e:Ending) (w':World):Prop :=
 ∃ v,e=.returned (.tuple #[frAgg ⟨r.2.1,r.2.2,(r.1.getD Frm.zero).on,(r.1.getD Frm.zero).c,(r.1.getD Frm.zero).v,(r.1.getD Frm.zero).sum,(r.1.getD Frm.zero).t⟩ v,.bool r.1.isSome])∧OwnR w' w.heap.size v (r.1.getD Frm.zero).t∧Below w.heap.size w w'

theorem take_nil (w:World):Calls Tryz.prog 93 #[.string ⟨([]:List UInt8).toArray⟩] w (TookA (tkAll []) w):=by
 go_enter Tryz.func93,Tryz.ntmps93
 go_wp2_with fail
 refine bodyPost_ret (v:=.tuple #[frAgg Frm.zero (.slice none 0 0),.bool false]) (by simp [results,Tryz.results93,go_sem,frAgg,Frm.zero,Val.zero]) rfl ⟨_,rfl,ownR_nil _ _,?_⟩
 exact (Below.refl _ _).alloc (Nat.le_refl _) _

theorem take_kind (x:UInt8) (b:List UInt8) (hk:x.toNat < 1∨4 < x.toNat) (w:World):Calls Tryz.prog 93 #[.string ⟨(x :: b).toArray⟩] w (TookA (tkAll (x :: b)) w):=by
 have HQ:Hid (tkAll (x :: b)=(none,0,0)):=by show _=_; unfold tkAll; simp only; rw [if_pos hk]
 have hx0:0 < (⟨(x :: b).toArray⟩ : ByteArray).size:=by rw [size_bytes]; simp
 have hi:=fun w => isKind_any (((⟨(x :: b).toArray⟩ : ByteArray)[0]'hx0).toNat:Int) w
 rw [show (decide ((1:Int)≤(((⟨(x :: b).toArray⟩ : ByteArray)[0]'hx0).toNat:Int)) && decide ((((⟨(x :: b).toArray⟩ : ByteArray)[0]'hx0).toNat:Int)≤4))=false by
  show (decide ((1:Int)≤(x.toNat:Int)) && decide ((x.toNat:Int)≤4))=false
  simp; omega] at hi
 have HI:=hZq hi
 have h256:((⟨(x :: b).toArray⟩ : ByteArray)[0]'hx0).toNat < 256:=UInt8.toNat_lt _
 clear hi hk
 go_enter Tryz.func93,Tryz.ntmps93
 go_wp2_with fail
 refine (HI.out _).mono ?_
 rintro e w1 ⟨rfl,rfl⟩
 go_wp2_with fail
 refine bodyPost_ret (v:=.tuple #[frAgg Frm.zero (.slice none 0 0),.bool false]) (by simp [results,Tryz.results93,go_sem,frAgg,Frm.zero,Val.zero]) rfl ⟨_,by rw [HQ.out]; rfl,by rw [HQ.out]; exact ownR_nil _ _,?_⟩
 exact (Below.refl _ _).alloc (Nat.le_refl _) _

theorem take_get (x:UInt8) (b:List UInt8) (hb:(x :: b).length≤4294967296) (hk:¬ (x.toNat < 1∨4 < x.toNat)) {n f er:Nat} (hg:vget (x :: b) 1=(n,f,er)) (he:er ≠ 0) (w:World):Calls Tryz.prog 93 #[.string ⟨(x :: b).toArray⟩] w (TookA (tkAll (x :: b)) w):=by
 have HQ:Hid (tkAll (x :: b)=(none,0,0)):=by show _=_; unfold tkAll; simp only; rw [if_neg hk,hg]; simp [he]
 have hx0:0 < (⟨(x :: b).toArray⟩ : ByteArray).size:=by rw [size_bytes]; simp
 have hi:=fun w => isKind_any (((⟨(x :: b).toArray⟩ : ByteArray)[0]'hx0).toNat:Int) w
 rw [show (decide ((1:Int)≤(((⟨(x :: b).toArray⟩ : ByteArray)[0]'hx0).toNat:Int)) && decide ((((⟨(x :: b).toArray⟩ : ByteArray)[0]'hx0).toNat:Int)≤4))=true by
  show (decide ((1:Int)≤(x.toNat:Int)) && decide ((x.toNat:Int)≤4))=true
  simp; omega] at hi
 have HI:=hZq hi
 have h256:((⟨(x :: b).toArray⟩ : ByteArray)[0]'hx0).toNat < 256:=UInt8.toNat_lt _
 have HG:=hZq fun w => get_eq (x :: b) hb 1 w (hZq hg)
 have t1:((er:Int) != 0)=true:=by rw [bne_iff_ne]; omega
 clear hi hk hg he
 go_enter Tryz.func93,Tryz.ntmps93
 go_wp2_with fail
 refine (HI.out _).mono ?_
 rintro e w1 ⟨rfl,rfl⟩
 go_wp2_with fail
 refine (HG.out _).mono ?_
 rintro e w1 ⟨rfl,rfl⟩
 go_wp2_with fail
 refine bodyPost_ret (v:=.tuple #[frAgg Frm.zero (.slice none 0 0),.bool false]) (by simp [results,Tryz.results93,go_sem,frAgg,Frm.zero,Val.zero]) rfl ⟨_,by rw [HQ.out]; rfl,by rw [HQ.out]; exact ownR_nil _ _,?_⟩
 exact (Below.refl _ _).alloc (Nat.le_refl _) _

end Go.Proofs.YtekkofldhhdpgaaGreat

end

section

namespace Go.Proofs.YtekkofldhhdpgaaGreat
open Go.RowKit

theorem upQ {w w':World} {b:Nat} {o:Obj} (h:w.heap[b]?=some o) (hb:Below w.heap.size w w'):w'.heap[b]?=some o :=
 (hb.block b (Array.getElem?_eq_some_iff.1 h).1).trans h

theorem newQ (w:World) (o:Obj):(w.alloc o).heap[w.heap.size]?=some o:=(MapKept.heap_alloc w o).1

theorem setCell_size (w:World) (p:Addr) (v:Value):(w.setCell p v).heap.size=w.heap.size:=by
 simp [World.setCell]

def stN1 (w:World) (B:Nat) (y0:Value):World:=w.setCell ⟨B,0,none⟩ y0

theorem blk2 {w:World} {B:Nat} {x0 x1:Value} {T:TypeId} (h:w.heap[B]?=some (.cells #[x0,x1] T (0,0))):(w.cell? ⟨B,0,none⟩=some x0∧w.cell? ⟨B,1,none⟩=some x1)∧(w.frozen? ⟨B,0,none⟩=false∧w.frozen? ⟨B,1,none⟩=false) :=
 ⟨⟨cell_of_row w B 0 _ _ (0,0) h,cell_of_row w B 1 _ _ (0,0) h⟩,⟨frozen_of_row w B 0 _ _ h,frozen_of_row w B 1 _ _ h⟩⟩

def stN2 (w:World) (B:Nat) (y0 y1:Value):World:=(w.setCell ⟨B,0,none⟩ y0).setCell ⟨B,1,none⟩ y1

theorem blk3 {w:World} {B:Nat} {x0 x1 x2:Value} {T:TypeId} (h:w.heap[B]?=some (.cells #[x0,x1,x2] T (0,0))):(w.cell? ⟨B,0,none⟩=some x0∧w.cell? ⟨B,1,none⟩=some x1∧w.cell? ⟨B,2,none⟩=some x2)∧(w.frozen? ⟨B,0,none⟩=false∧w.frozen? ⟨B,1,none⟩=false∧w.frozen? ⟨B,2,none⟩=false) :=
 ⟨⟨cell_of_row w B 0 _ _ (0,0) h,cell_of_row w B 1 _ _ (0,0) h,cell_of_row w B 2 _ _ (0,0) h⟩,⟨frozen_of_row w B 0 _ _ h,frozen_of_row w B 1 _ _ h,frozen_of_row w B 2 _ _ h⟩⟩

def stN3 (w:World) (B:Nat) (y0 y1 y2:Value):World:=((w.setCell ⟨B,0,none⟩ y0).setCell ⟨B,1,none⟩ y1).setCell ⟨B,2,none⟩ y2

theorem stN3_heap {w:World} {B:Nat} {x0 x1 x2:Value} {T:TypeId} (h:w.heap[B]?=some (.cells #[x0,x1,x2] T (0,0))) (y0 y1 y2:Value):(stN3 w B y0 y1 y2).heap[B]?=some (.cells #[y0,y1,y2] T (0,0)):=by
 have h0:(w.setCell ⟨B,0,none⟩ y0).heap[B]?=some (.cells #[y0,x1,x2] T (0,0)):=heap_setCell_same w B 0 _ _ y0 h
 have h1:((w.setCell ⟨B,0,none⟩ y0).setCell ⟨B,1,none⟩ y1).heap[B]?=some (.cells #[y0,y1,x2] T (0,0)):=heap_setCell_same _ B 1 _ _ y1 h0
 have h2:(((w.setCell ⟨B,0,none⟩ y0).setCell ⟨B,1,none⟩ y1).setCell ⟨B,2,none⟩ y2).heap[B]?=some (.cells #[y0,y1,y2] T (0,0)):=heap_setCell_same _ B 2 _ _ y2 h1
 exact h2

theorem stN3_far (w:World) (B:Nat) (y0 y1 y2:Value) {k:Nat} (hk:¬ k=B):(stN3 w B y0 y1 y2).heap[k]?=w.heap[k]?:=by
 unfold stN3
 rw [Below.heap_setCell _ _ _ k hk,Below.heap_setCell _ _ _ k hk,Below.heap_setCell _ _ _ k hk]

theorem stN3_below {w0 w:World} {n B:Nat} (h:Below n w0 w) (hB:n≤B) (y0 y1 y2:Value):Below n w0 (stN3 w B y0 y1 y2):=by
 unfold stN3
 exact ((h.setCell hB _).setCell hB _).setCell hB _

theorem stN3_size (w:World) (B:Nat) (y0 y1 y2:Value):(stN3 w B y0 y1 y2).heap.size=w.heap.size:=by
 unfold stN3
 simp only [setCell_size]

theorem blk4 {w:World} {B:Nat} {x0 x1 x2 x3:Value} {T:TypeId} (h:w.heap[B]?=some (.cells #[x0,x1,x2,x3] T (0,0))):(w.cell? ⟨B,0,none⟩=some x0∧w.cell? ⟨B,1,none⟩=some x1∧w.cell? ⟨B,2,none⟩=some x2∧w.cell? ⟨B,3,none⟩=some x3)∧(w.frozen? ⟨B,0,none⟩=false∧w.frozen? ⟨B,1,none⟩=false∧w.frozen? ⟨B,2,none⟩=false∧w.frozen? ⟨B,3,none⟩=false) :=
 ⟨⟨cell_of_row w B 0 _ _ (0,0) h,cell_of_row w B 1 _ _ (0,0) h,cell_of_row w B 2 _ _ (0,0) h,cell_of_row w B 3 _ _ (0,0) h⟩,⟨frozen_of_row w B 0 _ _ h,frozen_of_row w B 1 _ _ h,frozen_of_row w B 2 _ _ h,frozen_of_row w B 3 _ _ h⟩⟩

def stN4 (w:World) (B:Nat) (y0 y1 y2 y3:Value):World:=(((w.setCell ⟨B,0,none⟩ y0).setCell ⟨B,1,none⟩ y1).setCell ⟨B,2,none⟩ y2).setCell ⟨B,3,none⟩ y3

def stN5 (w:World) (B:Nat) (y0 y1 y2 y3 y4:Value):World:=((((w.setCell ⟨B,0,none⟩ y0).setCell ⟨B,1,none⟩ y1).setCell ⟨B,2,none⟩ y2).setCell ⟨B,3,none⟩ y3).setCell ⟨B,4,none⟩ y4

theorem blk6 {w:World} {B:Nat} {x0 x1 x2 x3 x4 x5:Value} {T:TypeId} (h:w.heap[B]?=some (.cells #[x0,x1,x2,x3,x4,x5] T (0,0))):(w.cell? ⟨B,0,none⟩=some x0∧w.cell? ⟨B,1,none⟩=some x1∧w.cell? ⟨B,2,none⟩=some x2∧w.cell? ⟨B,3,none⟩=some x3∧w.cell? ⟨B,4,none⟩=some x4∧w.cell? ⟨B,5,none⟩=some x5)∧(w.frozen? ⟨B,0,none⟩=false∧w.frozen? ⟨B,1,none⟩=false∧w.frozen? ⟨B,2,none⟩=false∧w.frozen? ⟨B,3,none⟩=false∧w.frozen? ⟨B,4,none⟩=false∧w.frozen? ⟨B,5,none⟩=false) :=
 ⟨⟨cell_of_row w B 0 _ _ (0,0) h,cell_of_row w B 1 _ _ (0,0) h,cell_of_row w B 2 _ _ (0,0) h,cell_of_row w B 3 _ _ (0,0) h,cell_of_row w B 4 _ _ (0,0) h,cell_of_row w B 5 _ _ (0,0) h⟩,⟨frozen_of_row w B 0 _ _ h,frozen_of_row w B 1 _ _ h,frozen_of_row w B 2 _ _ h,frozen_of_row w B 3 _ _ h,frozen_of_row w B 4 _ _ h,frozen_of_row w B 5 _ _ h⟩⟩

def stN6 (w:World) (B:Nat) (y0 y1 y2 y3 y4 y5:Value):World:=(((((w.setCell ⟨B,0,none⟩ y0).setCell ⟨B,1,none⟩ y1).setCell ⟨B,2,none⟩ y2).setCell ⟨B,3,none⟩ y3).setCell ⟨B,4,none⟩ y4).setCell ⟨B,5,none⟩ y5

theorem blk7 {w:World} {B:Nat} {x0 x1 x2 x3 x4 x5 x6:Value} {T:TypeId} (h:w.heap[B]?=some (.cells #[x0,x1,x2,x3,x4,x5,x6] T (0,0))):(w.cell? ⟨B,0,none⟩=some x0∧w.cell? ⟨B,1,none⟩=some x1∧w.cell? ⟨B,2,none⟩=some x2∧w.cell? ⟨B,3,none⟩=some x3∧w.cell? ⟨B,4,none⟩=some x4∧w.cell? ⟨B,5,none⟩=some x5∧w.cell? ⟨B,6,none⟩=some x6)∧(w.frozen? ⟨B,0,none⟩=false∧w.frozen? ⟨B,1,none⟩=false∧w.frozen? ⟨B,2,none⟩=false∧w.frozen? ⟨B,3,none⟩=false∧w.frozen? ⟨B,4,none⟩=false∧w.frozen? ⟨B,5,none⟩=false∧w.frozen? ⟨B,6,none⟩=false) :=
 ⟨⟨cell_of_row w B 0 _ _ (0,0) h,cell_of_row w B 1 _ _ (0,0) h,cell_of_row w B 2 _ _ (0,0) h,cell_of_row w B 3 _ _ (0,0) h,cell_of_row w B 4 _ _ (0,0) h,cell_of_row w B 5 _ _ (0,0) h,cell_of_row w B 6 _ _ (0,0) h⟩,⟨frozen_of_row w B 0 _ _ h,frozen_of_row w B 1 _ _ h,frozen_of_row w B 2 _ _ h,frozen_of_row w B 3 _ _ h,frozen_of_row w B 4 _ _ h,frozen_of_row w B 5 _ _ h,frozen_of_row w B 6 _ _ h⟩⟩

def stN7 (w:World) (B:Nat) (y0 y1 y2 y3 y4 y5 y6:Value):World:=((((((w.setCell ⟨B,0,none⟩ y0).setCell ⟨B,1,none⟩ y1).setCell ⟨B,2,none⟩ y2).setCell ⟨B,3,none⟩ y3).setCell ⟨B,4,none⟩ y4).setCell ⟨B,5,none⟩ y5).setCell ⟨B,6,none⟩ y6

theorem stN7_heap {w:World} {B:Nat} {x0 x1 x2 x3 x4 x5 x6:Value} {T:TypeId} (h:w.heap[B]?=some (.cells #[x0,x1,x2,x3,x4,x5,x6] T (0,0))) (y0 y1 y2 y3 y4 y5 y6:Value):(stN7 w B y0 y1 y2 y3 y4 y5 y6).heap[B]?=some (.cells #[y0,y1,y2,y3,y4,y5,y6] T (0,0)):=by
 have h0:(w.setCell ⟨B,0,none⟩ y0).heap[B]?=some (.cells #[y0,x1,x2,x3,x4,x5,x6] T (0,0)):=heap_setCell_same w B 0 _ _ y0 h
 have h1:((w.setCell ⟨B,0,none⟩ y0).setCell ⟨B,1,none⟩ y1).heap[B]?=some (.cells #[y0,y1,x2,x3,x4,x5,x6] T (0,0)):=heap_setCell_same _ B 1 _ _ y1 h0
 have h2:(((w.setCell ⟨B,0,none⟩ y0).setCell ⟨B,1,none⟩ y1).setCell ⟨B,2,none⟩ y2).heap[B]?=some (.cells #[y0,y1,y2,x3,x4,x5,x6] T (0,0)):=heap_setCell_same _ B 2 _ _ y2 h1
 have h3:((((w.setCell ⟨B,0,none⟩ y0).setCell ⟨B,1,none⟩ y1).setCell ⟨B,2,none⟩ y2).setCell ⟨B,3,none⟩ y3).heap[B]?=some (.cells #[y0,y1,y2,y3,x4,x5,x6] T (0,0)):=heap_setCell_same _ B 3 _ _ y3 h2
 have h4:(((((w.setCell ⟨B,0,none⟩ y0).setCell ⟨B,1,none⟩ y1).setCell ⟨B,2,none⟩ y2).setCell ⟨B,3,none⟩ y3).setCell ⟨B,4,none⟩ y4).heap[B]?=some (.cells #[y0,y1,y2,y3,y4,x5,x6] T (0,0)):=heap_setCell_same _ B 4 _ _ y4 h3
 have h5:((((((w.setCell ⟨B,0,none⟩ y0).setCell ⟨B,1,none⟩ y1).setCell ⟨B,2,none⟩ y2).setCell ⟨B,3,none⟩ y3).setCell ⟨B,4,none⟩ y4).setCell ⟨B,5,none⟩ y5).heap[B]?=some (.cells #[y0,y1,y2,y3,y4,y5,x6] T (0,0)):=heap_setCell_same _ B 5 _ _ y5 h4
 have h6:(((((((w.setCell ⟨B,0,none⟩ y0).setCell ⟨B,1,none⟩ y1).setCell ⟨B,2,none⟩ y2).setCell ⟨B,3,none⟩ y3).setCell ⟨B,4,none⟩ y4).setCell ⟨B,5,none⟩ y5).setCell ⟨B,6,none⟩ y6).heap[B]?=some (.cells #[y0,y1,y2,y3,y4,y5,y6] T (0,0)):=heap_setCell_same _ B 6 _ _ y6 h5
 exact h6

theorem stN7_far (w:World) (B:Nat) (y0 y1 y2 y3 y4 y5 y6:Value) {k:Nat} (hk:¬ k=B):(stN7 w B y0 y1 y2 y3 y4 y5 y6).heap[k]?=w.heap[k]?:=by
 unfold stN7
 rw [Below.heap_setCell _ _ _ k hk,Below.heap_setCell _ _ _ k hk,Below.heap_setCell _ _ _ k hk,Below.heap_setCell _ _ _ k hk,Below.heap_setCell _ _ _ k hk,Below.heap_setCell _ _ _ k hk,Below.heap_setCell _ _ _ k hk]

theorem stN7_below {w0 w:World} {n B:Nat} (h:Below n w0 w) (hB:n≤B) (y0 y1 y2 y3 y4 y5 y6:Value):Below n w0 (stN7 w B y0 y1 y2 y3 y4 y5 y6):=by
 unfold stN7
 exact ((((((h.setCell hB _).setCell hB _).setCell hB _).setCell hB _).setCell hB _).setCell hB _).setCell hB _

theorem stN7_size (w:World) (B:Nat) (y0 y1 y2 y3 y4 y5 y6:Value):(stN7 w B y0 y1 y2 y3 y4 y5 y6).heap.size=w.heap.size:=by
 unfold stN7
 simp only [setCell_size]

def stN8 (w:World) (B:Nat) (y0 y1 y2 y3 y4 y5 y6 y7:Value):World:=(((((((w.setCell ⟨B,0,none⟩ y0).setCell ⟨B,1,none⟩ y1).setCell ⟨B,2,none⟩ y2).setCell ⟨B,3,none⟩ y3).setCell ⟨B,4,none⟩ y4).setCell ⟨B,5,none⟩ y5).setCell ⟨B,6,none⟩ y6).setCell ⟨B,7,none⟩ y7

theorem blk10 {w:World} {B:Nat} {x0 x1 x2 x3 x4 x5 x6 x7 x8 x9:Value} {T:TypeId} (h:w.heap[B]?=some (.cells #[x0,x1,x2,x3,x4,x5,x6,x7,x8,x9] T (0,0))):(w.cell? ⟨B,0,none⟩=some x0∧w.cell? ⟨B,1,none⟩=some x1∧w.cell? ⟨B,2,none⟩=some x2∧w.cell? ⟨B,3,none⟩=some x3∧w.cell? ⟨B,4,none⟩=some x4∧w.cell? ⟨B,5,none⟩=some x5∧w.cell? ⟨B,6,none⟩=some x6∧w.cell? ⟨B,7,none⟩=some x7∧w.cell? ⟨B,8,none⟩=some x8∧w.cell? ⟨B,9,none⟩=some x9)∧(w.frozen? ⟨B,0,none⟩=false∧w.frozen? ⟨B,1,none⟩=false∧w.frozen? ⟨B,2,none⟩=false∧w.frozen? ⟨B,3,none⟩=false∧w.frozen? ⟨B,4,none⟩=false∧w.frozen? ⟨B,5,none⟩=false∧w.frozen? ⟨B,6,none⟩=false∧w.frozen? ⟨B,7,none⟩=false∧w.frozen? ⟨B,8,none⟩=false∧w.frozen? ⟨B,9,none⟩=false) :=
 ⟨⟨cell_of_row w B 0 _ _ (0,0) h,cell_of_row w B 1 _ _ (0,0) h,cell_of_row w B 2 _ _ (0,0) h,cell_of_row w B 3 _ _ (0,0) h,cell_of_row w B 4 _ _ (0,0) h,cell_of_row w B 5 _ _ (0,0) h,cell_of_row w B 6 _ _ (0,0) h,cell_of_row w B 7 _ _ (0,0) h,cell_of_row w B 8 _ _ (0,0) h,cell_of_row w B 9 _ _ (0,0) h⟩,⟨frozen_of_row w B 0 _ _ h,frozen_of_row w B 1 _ _ h,frozen_of_row w B 2 _ _ h,frozen_of_row w B 3 _ _ h,frozen_of_row w B 4 _ _ h,frozen_of_row w B 5 _ _ h,frozen_of_row w B 6 _ _ h,frozen_of_row w B 7 _ _ h,frozen_of_row w B 8 _ _ h,frozen_of_row w B 9 _ _ h⟩⟩

def stN10 (w:World) (B:Nat) (y0 y1 y2 y3 y4 y5 y6 y7 y8 y9:Value):World:=(((((((((w.setCell ⟨B,0,none⟩ y0).setCell ⟨B,1,none⟩ y1).setCell ⟨B,2,none⟩ y2).setCell ⟨B,3,none⟩ y3).setCell ⟨B,4,none⟩ y4).setCell ⟨B,5,none⟩ y5).setCell ⟨B,6,none⟩ y6).setCell ⟨B,7,none⟩ y7).setCell ⟨B,8,none⟩ y8).setCell ⟨B,9,none⟩ y9

theorem stN10_heap {w:World} {B:Nat} {x0 x1 x2 x3 x4 x5 x6 x7 x8 x9:Value} {T:TypeId} (h:w.heap[B]?=some (.cells #[x0,x1,x2,x3,x4,x5,x6,x7,x8,x9] T (0,0))) (y0 y1 y2 y3 y4 y5 y6 y7 y8 y9:Value):(stN10 w B y0 y1 y2 y3 y4 y5 y6 y7 y8 y9).heap[B]?=some (.cells #[y0,y1,y2,y3,y4,y5,y6,y7,y8,y9] T (0,0)):=by
 have h0:(w.setCell ⟨B,0,none⟩ y0).heap[B]?=some (.cells #[y0,x1,x2,x3,x4,x5,x6,x7,x8,x9] T (0,0)):=heap_setCell_same w B 0 _ _ y0 h
 have h1:((w.setCell ⟨B,0,none⟩ y0).setCell ⟨B,1,none⟩ y1).heap[B]?=some (.cells #[y0,y1,x2,x3,x4,x5,x6,x7,x8,x9] T (0,0)):=heap_setCell_same _ B 1 _ _ y1 h0
 have h2:(((w.setCell ⟨B,0,none⟩ y0).setCell ⟨B,1,none⟩ y1).setCell ⟨B,2,none⟩ y2).heap[B]?=some (.cells #[y0,y1,y2,x3,x4,x5,x6,x7,x8,x9] T (0,0)):=heap_setCell_same _ B 2 _ _ y2 h1
 have h3:((((w.setCell ⟨B,0,none⟩ y0).setCell ⟨B,1,none⟩ y1).setCell ⟨B,2,none⟩ y2).setCell ⟨B,3,none⟩ y3).heap[B]?=some (.cells #[y0,y1,y2,y3,x4,x5,x6,x7,x8,x9] T (0,0)):=heap_setCell_same _ B 3 _ _ y3 h2
 have h4:(((((w.setCell ⟨B,0,none⟩ y0).setCell ⟨B,1,none⟩ y1).setCell ⟨B,2,none⟩ y2).setCell ⟨B,3,none⟩ y3).setCell ⟨B,4,none⟩ y4).heap[B]?=some (.cells #[y0,y1,y2,y3,y4,x5,x6,x7,x8,x9] T (0,0)):=heap_setCell_same _ B 4 _ _ y4 h3
 have h5:((((((w.setCell ⟨B,0,none⟩ y0).setCell ⟨B,1,none⟩ y1).setCell ⟨B,2,none⟩ y2).setCell ⟨B,3,none⟩ y3).setCell ⟨B,4,none⟩ y4).setCell ⟨B,5,none⟩ y5).heap[B]?=some (.cells #[y0,y1,y2,y3,y4,y5,x6,x7,x8,x9] T (0,0)):=heap_setCell_same _ B 5 _ _ y5 h4
 have h6:(((((((w.setCell ⟨B,0,none⟩ y0).setCell ⟨B,1,none⟩ y1).setCell ⟨B,2,none⟩ y2).setCell ⟨B,3,none⟩ y3).setCell ⟨B,4,none⟩ y4).setCell ⟨B,5,none⟩ y5).setCell ⟨B,6,none⟩ y6).heap[B]?=some (.cells #[y0,y1,y2,y3,y4,y5,y6,x7,x8,x9] T (0,0)):=heap_setCell_same _ B 6 _ _ y6 h5
 have h7:((((((((w.setCell ⟨B,0,none⟩ y0).setCell ⟨B,1,none⟩ y1).setCell ⟨B,2,none⟩ y2).setCell ⟨B,3,none⟩ y3).setCell ⟨B,4,none⟩ y4).setCell ⟨B,5,none⟩ y5).setCell ⟨B,6,none⟩ y6).setCell ⟨B,7,none⟩ y7).heap[B]?=some (.cells #[y0,y1,y2,y3,y4,y5,y6,y7,x8,x9] T (0,0)):=heap_setCell_same _ B 7 _ _ y7 h6
 have h8:(((((((((w.setCell ⟨B,0,none⟩ y0).setCell ⟨B,1,none⟩ y1).setCell ⟨B,2,none⟩ y2).setCell ⟨B,3,none⟩ y3).setCell ⟨B,4,none⟩ y4).setCell ⟨B,5,none⟩ y5).setCell ⟨B,6,none⟩ y6).setCell ⟨B,7,none⟩ y7).setCell ⟨B,8,none⟩ y8).heap[B]?=some (.cells #[y0,y1,y2,y3,y4,y5,y6,y7,y8,x9] T (0,0)):=heap_setCell_same _ B 8 _ _ y8 h7
 have h9:((((((((((w.setCell ⟨B,0,none⟩ y0).setCell ⟨B,1,none⟩ y1).setCell ⟨B,2,none⟩ y2).setCell ⟨B,3,none⟩ y3).setCell ⟨B,4,none⟩ y4).setCell ⟨B,5,none⟩ y5).setCell ⟨B,6,none⟩ y6).setCell ⟨B,7,none⟩ y7).setCell ⟨B,8,none⟩ y8).setCell ⟨B,9,none⟩ y9).heap[B]?=some (.cells #[y0,y1,y2,y3,y4,y5,y6,y7,y8,y9] T (0,0)):=heap_setCell_same _ B 9 _ _ y9 h8
 exact h9

theorem stN10_far (w:World) (B:Nat) (y0 y1 y2 y3 y4 y5 y6 y7 y8 y9:Value) {k:Nat} (hk:¬ k=B):(stN10 w B y0 y1 y2 y3 y4 y5 y6 y7 y8 y9).heap[k]?=w.heap[k]?:=by
 unfold stN10
 rw [Below.heap_setCell _ _ _ k hk,Below.heap_setCell _ _ _ k hk,Below.heap_setCell _ _ _ k hk,Below.heap_setCell _ _ _ k hk,Below.heap_setCell _ _ _ k hk,Below.heap_setCell _ _ _ k hk,Below.heap_setCell _ _ _ k hk,Below.heap_setCell _ _ _ k hk,Below.heap_setCell _ _ _ k hk,Below.heap_setCell _ _ _ k hk]

theorem stN10_below {w0 w:World} {n B:Nat} (h:Below n w0 w) (hB:n≤B) (y0 y1 y2 y3 y4 y5 y6 y7 y8 y9:Value):Below n w0 (stN10 w B y0 y1 y2 y3 y4 y5 y6 y7 y8 y9):=by
 unfold stN10
 exact (((((((((h.setCell hB _).setCell hB _).setCell hB _).setCell hB _).setCell hB _).setCell hB _).setCell hB _).setCell hB _).setCell hB _).setCell hB _

def stN13 (w:World) (B:Nat) (y0 y1 y2 y3 y4 y5 y6 y7 y8 y9 y10 y11 y12:Value):World:=((((((((((((w.setCell ⟨B,0,none⟩ y0).setCell ⟨B,1,none⟩ y1).setCell ⟨B,2,none⟩ y2).setCell ⟨B,3,none⟩ y3).setCell ⟨B,4,none⟩ y4).setCell ⟨B,5,none⟩ y5).setCell ⟨B,6,none⟩ y6).setCell ⟨B,7,none⟩ y7).setCell ⟨B,8,none⟩ y8).setCell ⟨B,9,none⟩ y9).setCell ⟨B,10,none⟩ y10).setCell ⟨B,11,none⟩ y11).setCell ⟨B,12,none⟩ y12

end Go.Proofs.YtekkofldhhdpgaaGreat

end

section

namespace Go.Proofs.YtekkofldhhdpgaaGreat
open Go.RowKit

def heldB (X:World) (bs:List (Nat × List Value)):Prop:=∀ p ∈ bs,CellsAt X p.1 0 p.2

theorem heldB_nil (X:World):heldB X []:=fun p h => by cases h
theorem heldB_cons {X:World} {b:Nat} {vs:List Value} {bs:List (Nat × List Value)} (h:CellsAt X b 0 vs) (ht:heldB X bs):heldB X ((b,vs) :: bs):=fun p hp => by
 rcases List.mem_cons.1 hp with rfl | hp
 ·exact h
 ·exact ht p hp
theorem heldB_up {W X:World} {bs:List (Nat × List Value)} (hb:Below W.heap.size W X) (h:heldB W bs):heldB X bs:=fun p hp => (h p hp).later hb
theorem heldB_get {X:World} {bs:List (Nat × List Value)} (h:heldB X bs) {b:Nat} {vs:List Value} {i:Nat} {v:Value} (hm:(b,vs) ∈ bs) (hi:vs[i]?=some v):X.cell? ⟨b,i,none⟩=some v:=by
 have:=h _ hm i v hi
 rwa [Nat.zero_add] at this

def heldD (X:World) (bs:List (Nat × List Value)) (b off:Nat) (v:Value):Prop:=heldB X bs∧X.cell? ⟨b,off,none⟩=some v

theorem cellsAt_block {X:World} {b:Nat} {cs:Array Value} {T:TypeId} (h:X.heap[b]?=some (.cells cs T (0,0))):CellsAt X b 0 cs.toList:=by
 intro j u hu
 have hj:cs[j]?=some u:=by rw [← hu]; simp
 rw [Nat.zero_add]
 unfold World.cell?
 rw [h]
 simpa using hj

end Go.Proofs.YtekkofldhhdpgaaGreat

end
