/-
 TEXTS OF THE PROOF, one behind the other: QueMay, ChgIns, QueFind, LnkMem, DigBox, DigSameC.
-/
import Derived.Test.YtphfinlfabklmaaGreatB37
import Derived.Test.YtphfinlfabklmaaGreatB30
import Derived.Test.YtphfinlfabklmaaGreatB27
import Derived.Lib.Hide
import Derived.Maps.OwnSet
import Derived.Deep.RegionHeld
import Derived.Deep.AppendLies
import Derived.WalkSpells
import Derived.StillTailTactics
import Derived.Test.YtphfinlfabklmaaGreatB10

set_option maxHeartbeats 12800000
set_option maxRecDepth 100000

section

namespace Go.Proofs.YtphfinlfabklmaaGreat
open Go.RowKit

def ctcAt (l:List Chg) (k:Nat):List (List UInt8):=(l.map (·.c)).take k ++ List.replicate (l.length - k) []
end Go.Proofs.YtphfinlfabklmaaGreat

end

section

namespace Go.Proofs.YtphfinlfabklmaaGreat
open Go.RowKit

end Go.Proofs.YtphfinlfabklmaaGreat

end

section

namespace Go.Proofs.YtphfinlfabklmaaGreat
open Go.RowKit

theorem upQ {w w':World} {b:Nat} {o:Obj} (h:w.heap[b]?=some o) (hb:Below w.heap.size w w'):w'.heap[b]?=some o :=
 (hb.block b (Array.getElem?_eq_some_iff.1 h).1).trans h
theorem newQ (w:World) (o:Obj):(w.alloc o).heap[w.heap.size]?=some o:=(MapKept.heap_alloc w o).1

end Go.Proofs.YtphfinlfabklmaaGreat

end

section

namespace Go.Proofs.YtphfinlfabklmaaGreat
open Go.RowKit

theorem setCell_size (w:World) (p:Addr) (v:Value):(w.setCell p v).heap.size=w.heap.size:=by
 simp [World.setCell]

def stN1 (w:World) (B:Nat) (y0:Value):World:=w.setCell ⟨B,0,none⟩ y0

theorem blk2 {w:World} {B:Nat} {x0 x1:Value} {T:TypeId} (h:w.heap[B]?=some (.cells #[x0,x1] T (0,0))):(w.cell? ⟨B,0,none⟩=some x0∧w.cell? ⟨B,1,none⟩=some x1)∧(w.frozen? ⟨B,0,none⟩=false∧w.frozen? ⟨B,1,none⟩=false) :=
 ⟨⟨cell_of_row w B 0 _ _ (0,0) h,cell_of_row w B 1 _ _ (0,0) h⟩,⟨frozen_of_row w B 0 _ _ h,frozen_of_row w B 1 _ _ h⟩⟩

def stN2 (w:World) (B:Nat) (y0 y1:Value):World:=(w.setCell ⟨B,0,none⟩ y0).setCell ⟨B,1,none⟩ y1

theorem blk4 {w:World} {B:Nat} {x0 x1 x2 x3:Value} {T:TypeId} (h:w.heap[B]?=some (.cells #[x0,x1,x2,x3] T (0,0))):(w.cell? ⟨B,0,none⟩=some x0∧w.cell? ⟨B,1,none⟩=some x1∧w.cell? ⟨B,2,none⟩=some x2∧w.cell? ⟨B,3,none⟩=some x3)∧(w.frozen? ⟨B,0,none⟩=false∧w.frozen? ⟨B,1,none⟩=false∧w.frozen? ⟨B,2,none⟩=false∧w.frozen? ⟨B,3,none⟩=false) :=
 ⟨⟨cell_of_row w B 0 _ _ (0,0) h,cell_of_row w B 1 _ _ (0,0) h,cell_of_row w B 2 _ _ (0,0) h,cell_of_row w B 3 _ _ (0,0) h⟩,⟨frozen_of_row w B 0 _ _ h,frozen_of_row w B 1 _ _ h,frozen_of_row w B 2 _ _ h,frozen_of_row w B 3 _ _ h⟩⟩

def stN4 (w:World) (B:Nat) (y0 y1 y2 y3:Value):World:=(((w.setCell ⟨B,0,none⟩ y0).setCell ⟨B,1,none⟩ y1).setCell ⟨B,2,none⟩ y2).setCell ⟨B,3,none⟩ y3

def stN6 (w:World) (B:Nat) (y0 y1 y2 y3 y4 y5:Value):World:=(((((w.setCell ⟨B,0,none⟩ y0).setCell ⟨B,1,none⟩ y1).setCell ⟨B,2,none⟩ y2).setCell ⟨B,3,none⟩ y3).setCell ⟨B,4,none⟩ y4).setCell ⟨B,5,none⟩ y5

def stN7 (w:World) (B:Nat) (y0 y1 y2 y3 y4 y5 y6:Value):World:=((((((w.setCell ⟨B,0,none⟩ y0).setCell ⟨B,1,none⟩ y1).setCell ⟨B,2,none⟩ y2).setCell ⟨B,3,none⟩ y3).setCell ⟨B,4,none⟩ y4).setCell ⟨B,5,none⟩ y5).setCell ⟨B,6,none⟩ y6

def stN10 (w:World) (B:Nat) (y0 y1 y2 y3 y4 y5 y6 y7 y8 y9:Value):World:=(((((((((w.setCell ⟨B,0,none⟩ y0).setCell ⟨B,1,none⟩ y1).setCell ⟨B,2,none⟩ y2).setCell ⟨B,3,none⟩ y3).setCell ⟨B,4,none⟩ y4).setCell ⟨B,5,none⟩ y5).setCell ⟨B,6,none⟩ y6).setCell ⟨B,7,none⟩ y7).setCell ⟨B,8,none⟩ y8).setCell ⟨B,9,none⟩ y9

end Go.Proofs.YtphfinlfabklmaaGreat

end

section

namespace Go.Proofs.YtphfinlfabklmaaGreat
open Go.RowKit

theorem tab_made (w:World) (B:Nat) (hB:B=w.heap.size) (T:TypeId) (t:List Row) (ht:t.length≤100) (A:Array Value) (hA:A=(cellsOf t).toArray) (n:Nat) (hn:n=t.length) :
  Tab (w.alloc (.cells A T)) (.slice (some ⟨B,0,none⟩) n n) t:=by
 subst hB hA hn
 refine ⟨_,_,rfl,Nat.le_refl _,by unfold maxLen; omega,(fun e => by cases e),.inr ⟨_,_,rfl,by simp,fun i hi => cells5_of fun j u hu => ?_⟩⟩
 have hj:j < 5:=by have:=(List.getElem?_eq_some_iff.1 hu).1; rwa [rowVals_len] at this
 rw [World.cell?_alloc_at _ _ _ _ rfl,Nat.zero_add,← hu,← cellsOf_at t i j hi hj]
 simp

def Box6 (w:World) (b:Nat) (c:Chg):Prop :=
 w.cell? ⟨b,0,none⟩=some (.string ⟨c.c.toArray⟩)∧w.cell? ⟨b,1,none⟩=some (.bool c.on)∧w.cell? ⟨b,2,none⟩=some (.int .i64 c.v.sh)∧w.cell? ⟨b,3,none⟩=some (.int .i64 c.v.pr)∧w.cell? ⟨b,4,none⟩=some (.int .i64 c.v.si)∧w.cell? ⟨b,5,none⟩=some (.string ⟨c.v.st.toArray⟩)

theorem Box6.later {w w':World} {b:Nat} {c:Chg} (h:Box6 w b c) (hb:Below w.heap.size w w'):Box6 w' b c :=
 ⟨cell_later h.1 hb,cell_later h.2.1 hb,cell_later h.2.2.1 hb,cell_later h.2.2.2.1 hb,cell_later h.2.2.2.2.1 hb,cell_later h.2.2.2.2.2 hb⟩

end Go.Proofs.YtphfinlfabklmaaGreat

end

section

namespace Go.Proofs.YtphfinlfabklmaaGreat
open Go.RowKit

def csSame (a b:List Chg):Bool:=decide (a.length=b.length) && (List.range a.length).all fun i => cSame (a.getD i Chg.zero) (b.getD i Chg.zero)

theorem csSame_self (a:List Chg):csSame a a=true:=by
 unfold csSame
 simp only [decide_true,Bool.true_and,List.all_eq_true]
 intro i _
 exact cSame_self _

theorem csSame_len {a b:List Chg} (h:¬ a.length=b.length):csSame a b=false:=by
 unfold csSame
 simp [h]

theorem csSame_off {a b:List Chg} {k:Nat} (hk:k < a.length) (h:cSame (a.getD k Chg.zero) (b.getD k Chg.zero)=false):csSame a b=false:=by
 rw [Bool.eq_false_iff]
 intro h'
 unfold csSame at h'
 rw [Bool.and_eq_true,List.all_eq_true] at h'
 rw [h'.2 k (by simpa using hk)] at h
 cases h

theorem csSame_on {a b:List Chg} (hl:a.length=b.length) (h:(List.range a.length).all (fun i => cSame (a.getD i Chg.zero) (b.getD i Chg.zero))=true):csSame a b=true:=by
 unfold csSame
 rw [h]
 simp [hl]

theorem csSame_next {t u:List Chg} {k:Nat} (h:(List.range k).all (fun i => cSame (t.getD i Chg.zero) (u.getD i Chg.zero))=true) (hk:cSame (t.getD k Chg.zero) (u.getD k Chg.zero)=true) :
  (List.range (k+1)).all (fun i => cSame (t.getD i Chg.zero) (u.getD i Chg.zero))=true:=range_all_succ h hk

theorem csame_any {w:World} {v u:Value} {t s:List Chg} (hv:Chgs w v t) (hu:Chgs w u s) :
  Calls Tryz.prog 23 #[v,u] w fun e w' => e=.returned (.bool (csSame t s))∧Below w.heap.size w w':=by
 have HV:=hD hv
 have HU:=hD hu
 obtain⟨a,cap,rfl,hm⟩:=hv.open'
 obtain⟨a2,cap2,rfl,hm2⟩:=hu.open'
 clear hv hu
 by_cases hl:t.length=s.length
 ·have HL:=hD hl
  have t1:((t.length:Int) != (s.length:Int))=false:=by simp [hl]
  clear hl
  go_enter Tryz.func23,Tryz.ntmps23
  go_wp2_with fail
  go_loopw [5] (fun i wr => ∃ k:Nat,k≤t.length∧i=.int .i64 k∧Hid (Below w.heap.size w wr)∧Hid ((List.range k).all (fun i => cSame (t.getD i Chg.zero) (s.getD i Chg.zero))=true)) (fun i _ => t.length - (intOf i).toNat)
  case atStart => exact⟨0,by omega,rfl,Below.refl _ _,by show _=_; simp⟩
  case round =>
   obtain⟨k,hk,rfl,HN,HA⟩:=hrel
   by_cases hlt:k < t.length
   ·obtain⟨b,off,rfl,h0,h1,h2,h3,h4,h5⟩:=HV.out.row HN.out k hlt
    obtain⟨b2,off2,rfl,i0,i1,i2,i3,i4,i5⟩:=HU.out.row HN.out k (by rw [← HL.out]; exact hlt)
    have hlt2:k < s.length:=by rw [← HL.out]; exact hlt
    obtain⟨⟨c,o,⟨x,y,z,st⟩⟩,hr⟩ : ∃ r,t.getD k Chg.zero=r:=⟨_,rfl⟩
    obtain⟨⟨c',o',⟨x',y',z',st'⟩⟩,hr'⟩ : ∃ r,s.getD k Chg.zero=r:=⟨_,rfl⟩
    rw [hr] at h0 h1 h2 h3 h4 h5
    rw [hr'] at i0 i1 i2 i3 i4 i5
    have hgd:Tryz.prog.eqGuardType Tryz.prog.depth 57=false:=by kernel_rfl
    have hne:=chg_neq6 c c' o o' x y z x' y' z' st st'
    cases hs:cSame ⟨c,o,x,y,z,st⟩ ⟨c',o',x',y',z',st'⟩ with
    | false =>
     have HR:Hid (csSame t s=false):=by show _=_; exact csSame_off hlt (by rw [hr,hr']; exact hs)
     rw [hs] at hne
     simp only at h0 h1 h2 h3 h4 h5 i0 i1 i2 i3 i4 i5
     clear hr hr' hs
     go_wp2_with fail
     go_region
     go_wp2_with fail
     go_ret
     exact⟨by rw [HR.out]; rfl,HN.out.drew⟩
    | true =>
     have HA2:Hid ((List.range (k+1)).all (fun i => cSame (t.getD i Chg.zero) (s.getD i Chg.zero))=true):=by show _=_; exact csSame_next HA.out (by rw [hr,hr']; exact hs)
     rw [hs] at hne
     simp only at h0 h1 h2 h3 h4 h5 i0 i1 i2 i3 i4 i5
     clear hr hr' hs
     go_wp2_with fail
     go_region
     go_wp2_with fail
     go_roundw
     case rel => exact⟨k+1,by omega,by go_num,HN.out.drew,HA2⟩
     case measure => simp [intOf]; omega
   ·obtain rfl:k=t.length:=by omega
    have HR:Hid (csSame t s=true):=by show _=_; exact csSame_on HL.out HA.out
    go_wp2_with fail
    go_ret
    exact⟨by rw [HR.out]; rfl,HN.out⟩
 ·have HR:=hD (csSame_len hl)
  have t1:((t.length:Int) != (s.length:Int))=true:=by simp; omega
  clear hl
  go_enter Tryz.func23,Tryz.ntmps23
  go_wp2_with fail
  go_ret
  exact⟨by rw [HR.out]; rfl,Below.refl _ _⟩

end Go.Proofs.YtphfinlfabklmaaGreat

end
