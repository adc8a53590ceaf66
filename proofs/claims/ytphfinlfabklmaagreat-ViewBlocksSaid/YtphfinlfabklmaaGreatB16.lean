/-
 TEXTS OF THE PROOF, one behind the other: RosWatP, RosSort, RosSort2, IdDoc, IdRput, IdRmerge, IdConcat, IdMerge, RosAbout, RosWat, RosLive.
-/
import Derived.Test.YtphfinlfabklmaaGreatB01
import Derived.Test.YtphfinlfabklmaaGreatB13
import Derived.Lib.AppendZeros
import Derived.Lib.OwnBridge
import Derived.Test.YtphfinlfabklmaaGreatB14
import Derived.WalkSpells
import Derived.Test.YtphfinlfabklmaaGreatB15
import Derived.Test.YtphfinlfabklmaaGreatB11

set_option maxHeartbeats 12800000
set_option maxRecDepth 100000

section

namespace Go.Proofs.YtphfinlfabklmaaGreat

def roNearB (c:List UInt8) (e:Ent):Bool:=decide (e.o=c) || decide (e.c=c)

def roNear (l:List Ent) (c:List UInt8):List Ent:=l.filter (roNearB c)

def roWB (l:List Ent) (c:List UInt8) (e:Ent):Bool:=decide (e.c=c) && suSees e.it (roIt l c e.o)

def roWat (l:List Ent) (c:List UInt8):List (List UInt8):=(l.filter (roWB l c)).map (·.o)

theorem roNear_rise {l:List Ent} (hr:Rise l) (c:List UInt8):Rise (roNear l c):=List.Pairwise.filter _ hr

theorem roIt_near (l:List Ent) (c o:List UInt8):roIt (roNear l c) c o=roIt l c o:=by
 unfold roIt roNear
 rw [List.find?_filter]
 congr 1
 congr 1
 funext e
 unfold roNearB
 cases h:entIs e ⟨c,o,It.zero⟩ with
 | false => simp
 | true =>
  have:=(entIs_iff.1 h).1
  simp only at this
  simp [this]

theorem roWB_near (l:List Ent) (c:List UInt8):roWB (roNear l c) c=roWB l c:=by
 funext e
 unfold roWB
 rw [roIt_near]

theorem roWat_near (l:List Ent) (c:List UInt8):((roNear l c).filter (roWB (roNear l c) c)).map (·.o)=roWat l c:=by
 rw [roWB_near]
 unfold roWat roNear
 rw [List.filter_filter]
 congr 1
 congr 1
 funext e
 unfold roWB roNearB
 by_cases h:e.c=c <;> simp [h]

theorem roWat_rise {l:List Ent} (hr:Rise l) (c:List UInt8):(roWat l c).Pairwise fun a b => idLess a b=true:=by
 unfold roWat
 rw [List.pairwise_map]
 have h:(l.filter (roWB l c)).Pairwise fun a b => entLt a b=true:=List.Pairwise.filter _ hr
 refine List.Pairwise.imp_of_mem ?_ h
 intro a b ha hb hlt
 rw [List.mem_filter] at ha hb
 have h1:a.c=c:=by
  have:=ha.2
  unfold roWB at this
  rw [Bool.and_eq_true,decide_eq_true_eq] at this
  exact this.1
 have h2:b.c=c:=by
  have:=hb.2
  unfold roWB at this
  rw [Bool.and_eq_true,decide_eq_true_eq] at this
  exact this.1
 unfold entLt at hlt
 rw [h1,h2,idLess_irrefl] at hlt
 simpa using hlt

theorem roNear_next {l:List Ent} {c:List UInt8} {k:Nat} (hk:k < l.length) {e:Ent} (he:l.getD k Ent.zero=e):roNear (l.take (k+1)) c=if roNearB c e=true then roNear (l.take k) c ++ [e] else roNear (l.take k) c:=by
 unfold roNear
 rw [List.take_succ_eq_append_getElem hk,← getD_at hk,he,List.filter_append]
 cases h:roNearB c e <;> simp [h]

def roWats (l:List Ent) (c:List UInt8) (k:Nat):List (List UInt8):=((l.take k).filter (roWB l c)).map (·.o)

theorem roWats_next {l:List Ent} {c:List UInt8} {k:Nat} (hk:k < l.length) {e:Ent} (he:l.getD k Ent.zero=e):roWats l c (k+1)=if roWB l c e=true then roWats l c k ++ [e.o] else roWats l c k:=by
 unfold roWats
 rw [List.take_succ_eq_append_getElem hk,← getD_at hk,he,List.filter_append,List.map_append]
 cases h:roWB l c e <;> simp [h]

theorem roWats_le (l:List Ent) (c:List UInt8) (k:Nat):(roWats l c k).length≤l.length:=by
 unfold roWats
 rw [List.length_map]
 refine Nat.le_trans (List.length_filter_le _ _) ?_
 rw [List.length_take]
 omega

theorem roWats_all (l:List Ent) (c:List UInt8):roWats (roNear l c) c (roNear l c).length=roWat l c:=by
 unfold roWats
 rw [List.take_length]
 exact roWat_near l c

end Go.Proofs.YtphfinlfabklmaaGreat

end

section

namespace Go.Proofs.YtphfinlfabklmaaGreat
open Go.RowKit

theorem rise_back {l:List Ent} (hr:Rise l) {i j:Nat} (hij:i < j) (hj:j < l.length) {x y:Ent} (hx:l.getD i Ent.zero=x) (hy:l.getD j Ent.zero=y):decide (entI y x < 0)=false:=by
 have h:entLt x y=true:=by
  rw [← hx,← hy,getD_at (show i < l.length by omega),getD_at hj]
  exact List.pairwise_iff_getElem.1 hr i j (by omega) hj hij
 have h2:entLt y x=false:=by
  cases h3:entLt y x with
  | false => rfl
  | true =>
   have:=entLt_trans h h3
   rw [entLt_irrefl] at this
   cases this
 have:=entI_lt y x
 rw [h2] at this
 simpa using this

theorem rinsert_any {w:World} {v:Value} {l:List Ent} (hv:Ents w v l) (hr:Rise l) {a b:Nat} (hab:a≤b) (hb:b≤l.length) (hl:l.length≤4294967) :
  Calls Tryz.prog 214 #[v,.int .i64 a,.int .i64 b,.func (.func 125) #[] #[]] w fun e w' => e=.returned (.tuple #[])∧Below w.heap.size w w':=by
 have HV:=hD hv
 have HR:=hD hr
 obtain⟨ad,cap,rfl,hm⟩:=hv.open'
 clear hv hr
 have hw0:IntKind.i64.wrap ((a:Int)+1)=((a+1:Nat):Int):=by rw [IntWalk.i64_in _ (by omega)]; rfl
 go_enter Tryz.func214,Tryz.ntmps214
 go_wp2_with fail
 go_loopw [8] (fun i wr => ∃ k:Nat,a < k∧k≤b+1∧i=.int .i64 k∧Hid (Below w.heap.size w wr)) (fun i _ => b+1 - (intOf i).toNat)
 case atStart => exact⟨a+1,by omega,by omega,by first | rfl | go_num,Below.refl _ _⟩
 case round =>
  obtain⟨k,hak,hkb,rfl,HB⟩:=hrel
  clear hw0
  by_cases hlt:k < b
  ·obtain⟨j,rfl⟩ : ∃ j,k=j+1:=⟨k - 1,by omega⟩
   obtain⟨bk,off,rfl,hc⟩:=HV.out.row HB.out (j+1) (by omega)
   obtain⟨b2,off2,e2,hp⟩:=HV.out.row HB.out j (by omega)
   injection e2 with e2
   injection e2 with e3 e4 _
   subst e3 e4
   obtain⟨⟨eo,ec,⟨i1,i2,i3,i4,i5⟩⟩,hx⟩ : ∃ r,l.getD (j+1) Ent.zero=r:=⟨_,rfl⟩
   obtain⟨⟨po,pc,⟨j1,j2,j3,j4,j5⟩⟩,hy⟩ : ∃ r,l.getD j Ent.zero=r:=⟨_,rfl⟩
   have hlt2:=rise_back HR.out (show j < j+1 by omega) (by omega) hy hx
   rw [hx] at hc
   rw [hy] at hp
   have HC:=hD (rcompare_any eo ec po pc i1 i2 i3 i4 i5 j1 j2 j3 j4 j5)
   obtain⟨n,hn⟩ : ∃ n,entI ⟨eo,ec,⟨i1,i2,i3,i4,i5⟩⟩ ⟨po,pc,⟨j1,j2,j3,j4,j5⟩⟩=n:=⟨_,rfl⟩
   rw [hn] at HC hlt2
   have t1:decide (((j+1:Nat):Int) < (b:Int))=true:=by simp; omega
   have t2:decide ((a:Int) < ((j+1:Nat):Int))=true:=by simp; omega
   have em:((j+1:Nat):Int) - 1=(j:Int):=by omega
   have e0:(0:Int)≤((j+1:Nat):Int):=by omega
   have e1:((j+1:Nat):Int) < (l.length:Int):=by omega
   have e2:(0:Int)≤(j:Int):=by omega
   have e3:(j:Int) < (l.length:Int):=by omega
   have hw1:IntKind.i64.wrap (j:Int)=(j:Int):=IntWalk.i64_in _ (by omega)
   have hw2:IntKind.i64.wrap ((j:Int)+1 - 1)=(j:Int):=by rw [IntWalk.i64_in _ (by omega)]; omega
   have t1':decide ((j:Int)+1 < (b:Int))=true:=by simp; omega
   have t2':decide ((a:Int) < (j:Int)+1)=true:=by simp; omega
   have em':(j:Int)+1 - 1=(j:Int):=by omega
   have e0':(0:Int)≤(j:Int)+1:=by omega
   have e1':(j:Int)+1 < (l.length:Int):=by omega
   have en:((j:Int)+1).toNat=j+1:=by omega
   obtain⟨q0,q1,q2,q3,q4,q5,q6⟩:=cells7_regrown hc
   obtain⟨p0,p1,p2,p3,p4,p5,p6⟩:=cells7_regrown hp
   try simp only at q0 q1 q2 q3 q4 q5 q6
   try simp only at p0 p1 p2 p3 p4 p5 p6
   clear hc hp hx hy hn
   go_wp2_with fail
   refine wp_loop_rounds 1 ?_
   rw [rounds_succ]
   go_wp2_with fail
   refine wp_region_quiet_below (by kernel_rfl) (by kernel_rfl) ?_
   repeat (go_big_quiet_step (with_reducible exact rgB HC.out _ _ _))
   refine wpQuiet_nil ?_
   intro w5 hw5
   have B5:=hD (below2S HB.out (regrown_belowP hw5))
   clear hw5 q0 q1 q2 q3 q4 q5 q6 p0 p1 p2 p3 p4 p5 p6
   go_wp2_with fail
   go_roundw
   case rel => exact⟨j+1+1,by omega,by omega,by go_num,B5⟩
   case measure => simp [intOf]; omega
  ·have t1:decide ((k:Int) < (b:Int))=false:=by simp; omega
   go_wp2_with fail
   go_end0
   exact⟨rfl,HB.out⟩

end Go.Proofs.YtphfinlfabklmaaGreat

end

section

namespace Go.Proofs.YtphfinlfabklmaaGreat
open Go.RowKit

end Go.Proofs.YtphfinlfabklmaaGreat

end

section

namespace Go.Proofs.YtphfinlfabklmaaGreat
open Go.RowKit

def fewB (ls:List (List UInt8)):Bool:=decide (ls.length≤30) && ls.all fun t => decide (t.length≤30)

theorem getD_some {ls:List (List UInt8)} {k:Nat} (h:k < ls.length):ls[k]?=some (ls.getD k []):=by simp [List.getD,List.getElem?_eq_getElem h]

theorem same_yes {w:World} {v u:Value} {ls:List (List UInt8)} (hv:Texts w v ls) (hu:Texts w u ls) (hl:ls.length≤4294967296) :
  Calls Tryz.prog 20 #[v,u] w fun e w' => e=.returned (.bool true)∧Below w.heap.size w w':=by
 have HV:=hD hv
 have HU:=hD hu
 obtain⟨a,cap,rfl,_,_,_,_⟩:=hv
 obtain⟨a2,cap2,rfl,_,_,_,_⟩:=hu
 go_enter Tryz.func20,Tryz.ntmps20
 go_wp2_with fail
 go_loopw [5] (fun i wr => ∃ k:Nat,k≤ls.length∧i=.int .i64 k∧Below w.heap.size w wr) (fun i _ => ls.length - (intOf i).toNat)
 case atStart => exact⟨0,by omega,rfl,Below.refl _ _⟩
 case round =>
  obtain⟨k,hk,rfl,hnx⟩:=hrel
  have HN:=hD hnx
  by_cases hlt:k < ls.length
  ·obtain⟨b1,o1,e1,hc1⟩ : ∃ b1 o1,a=some ⟨b1,o1,none⟩∧wr.cell? ⟨b1,o1+k,none⟩=some (encS (ls.getD k [])):=by
    obtain⟨a',cap',e,_,_,_,h⟩:=HV.out.later HN.out
    simp only [Value.slice.injEq] at e
    rcases h with h | ⟨b,off,e',_,hc⟩
    ·rw [h] at hlt; simp at hlt
    ·exact⟨b,off,e.1.trans e',hc k hlt⟩
   obtain⟨b2,o2,e2,hc2⟩ : ∃ b1 o1,a2=some ⟨b1,o1,none⟩∧wr.cell? ⟨b1,o1+k,none⟩=some (encS (ls.getD k [])):=by
    obtain⟨a',cap',e,_,_,_,h⟩:=HU.out.later HN.out
    simp only [Value.slice.injEq] at e
    rcases h with h | ⟨b,off,e',_,hc⟩
    ·rw [h] at hlt; simp at hlt
    ·exact⟨b,off,e.1.trans e',hc k hlt⟩
   subst e1 e2
   unfold encS at hc1 hc2
   obtain⟨x,hx⟩ : ∃ x,ls.getD k []=x:=⟨_,rfl⟩
   rw [hx] at hc1 hc2
   clear hx hnx
   go_wp2_with fail
   go_region
   go_wp2_with fail
   go_roundw
   case rel => exact⟨k+1,by omega,by go_num,HN.out.drew⟩
   case measure => simp [intOf]; omega
  ·obtain rfl:k=ls.length:=by omega
   clear hnx
   go_wp2_with fail
   go_ret
   exact⟨rfl,HN.out⟩

end Go.Proofs.YtphfinlfabklmaaGreat

end

section

namespace Go.Proofs.YtphfinlfabklmaaGreat
open Go.RowKit

theorem Tryz.infoStr:(Tryz.prog.info? 9).map (fun i => (i.zero,i.size,i.bytes))=some (some (.string ⟨#[]⟩),1,16):=by kernel_rfl

def Heaped (w:World) (v:Value) (ls:List (List UInt8)):Prop:=Texts w v ls∧(ls=[]→v=.slice none 0 0)

end Go.Proofs.YtphfinlfabklmaaGreat

end

section

namespace Go.Proofs.YtphfinlfabklmaaGreat
open Go.RowKit

theorem ins_len (x:List UInt8):∀ ls,(ins x ls).length≤ls.length+1∧1≤(ins x ls).length
 | [] => by simp [ins]
 | y :: ls => by
  have:=ins_len x ls
  unfold ins
  split
  ·simp only [List.length_cons]; omega
  ·split <;> simp

theorem mrg_len (l:List (List UInt8)):(mrg l).length≤l.length:=by
 have:∀ acc:List (List UInt8),(l.foldl (fun out x => ins x out) acc).length≤acc.length+l.length:=by
  induction l with
  | nil => intro acc; simp
  | cons x l ih =>
   intro acc
   have h1:=ih (ins x acc)
   have h2:=(ins_len x acc).1
   simp only [List.foldl_cons,List.length_cons]
   omega
 simpa [mrg] using this []

theorem Heaped.later {w w':World} {v:Value} {ls:List (List UInt8)} (h:Heaped w v ls) (hb:Below w.heap.size w w'):Heaped w' v ls:=⟨h.1.later hb,h.2⟩

theorem Texts.cell {w wr:World} {a:Option Addr} {n cap:Nat} {ls:List (List UInt8)} (h:Texts w (.slice a n cap) ls) (hb:Below w.heap.size w wr) (k:Nat) (hk:k < ls.length) :
  ∃ b off,a=some ⟨b,off,none⟩∧wr.cell? ⟨b,off+k,none⟩=some (.string ⟨(ls.getD k []).toArray⟩):=by
 obtain⟨a',cap',e,_,_,_,h⟩:=h.later hb
 simp only [Value.slice.injEq] at e
 rcases h with h | ⟨b,off,e',_,hc⟩
 ·rw [h] at hk; simp at hk
 ·exact⟨b,off,e.1.trans e',hc k hk⟩

end Go.Proofs.YtphfinlfabklmaaGreat

end

section

namespace Go.Proofs.YtphfinlfabklmaaGreat
open Go.RowKit

theorem zeros_size (z:Value) (hz:z.cells.size=1) (n:Nat):(Builtin.zeroCells z.cells n).size=n:=by
 unfold Builtin.zeroCells
 simp [hz]

theorem grow_nil (n:Nat) (hn:n≤1000) (w:World) :
  Calls Tryz.prog 202 #[.slice none 0 0,.int .i64 n] w fun e w' => ∃ v,e=.returned v∧OwnT w' w.heap.size 9 v []∧Below w.heap.size w w':=by
 obtain⟨i0,hi,hz0,hz1,hz2⟩:=info_parts Tryz.infoStr
 by_cases h0:n=0
 ·subst h0
  go_enter Tryz.func202,Tryz.ntmps202
  go_wp2_with fail
  go_ret
  exact⟨_,rfl,World.ownsRow_nil _ _ _ _,Below.refl _ _⟩
 ·have hrz:=fun ty => Lib.run_append_nil_zeros (P:=Tryz.prog) w 37 3 ty 9 i0 _ .i64 .i64 Tryz.underlying37 Tryz.underlying3 hi hz0 n (by omega) (by omega) (by omega) (by rw [hz2]; omega)
  have hG1:=grownCap_ge w n 0 9
  have hG2:=grownCap_le_maxLen w n 0 9 (by unfold maxLen; omega)
  obtain⟨G,hG⟩ : ∃ G,G=grownCap w n 0 9:=⟨_,rfl⟩
  rw [← hG] at hrz hG1 hG2
  have hO:Hid (OwnT (w.drew.alloc (.cells (Builtin.zeroCells (Value.string ⟨#[]⟩).cells n ++ Builtin.zeroCells (Value.string ⟨#[]⟩).cells (G - n)) 9)) w.heap.size 9 (.slice (some ⟨w.heap.size,0,none⟩) 0 G) []):=by
   refine World.ownsRow_made (base:=w.heap.size) w.drew _ G (Nat.le_refl _) hG2 ?_
   rw [Array.size_append,zeros_size _ rfl,zeros_size _ rfl]
   omega
  have h1:0 < n:=by omega
  unfold maxLen at hG2
  clear hG h0
  go_enter Tryz.func202,Tryz.ntmps202
  go_wp2_with (at_builtin; go_must (refine Lib.wpList_append_run _ rfl _ _ _ _ rfl _ _ rfl rfl _ _ (hrz _) ?_))
  go_wp2_with fail
  go_ret
  exact⟨_,rfl,hO.out,(Below.refl _ _).drew.alloc (Nat.le_refl _) _⟩

theorem texts_src {W:World} {a:Option Addr} {n cap:Nat} {ls:List (List UInt8)} (h:Texts W (.slice a n cap) ls) :
  n=ls.length∧(a=none→cap=0∧ls=[])∧(∀ ad,a=some ad→∀ j u,(ls.map encS)[j]?=some u→W.cell? (ad.add j)=some u):=by
 obtain⟨a',cap',e,h1,h2,h3,h4⟩:=h
 simp only [Value.slice.injEq] at e
 obtain⟨rfl,rfl,rfl⟩:=e
 refine ⟨rfl,fun e => ⟨h3 e,List.length_eq_zero_iff.1 (by have:=h3 e; omega)⟩,?_⟩
 rintro ad rfl j u hu
 have hj:j < ls.length:=by
  have:=(List.getElem?_eq_some_iff.1 hu).1
  simpa using this
 rcases h4 with h | ⟨b,off,e,_,hc⟩
 ·rw [h] at hj; simp at hj
 ·obtain rfl:=Option.some.inj e
  rw [List.getElem?_map,getD_some hj] at hu
  simp only [Option.map_some,Option.some.injEq] at hu
  rw [Addr.add_lit,hc j hj,hu]

theorem concat_any {w:World} {va vb:Value} {ls ms:List (List UInt8)} (ha:Texts w va ls) (hb:Texts w vb ms) (hl:ls.length≤100) (hm:ms.length≤100)
  (B:Nat) (k0:w.cell? ⟨B,0,none⟩=some va) (k1:w.cell? ⟨B,1,none⟩=some vb) :
  Calls Tryz.prog 157 #[.slice (some ⟨B,0,none⟩) 2 2] w fun e w' => ∃ v,e=.returned v∧OwnT w' w.heap.size 9 v (ls ++ ms)∧Below w.heap.size w w':=by
 obtain⟨i0,hi,hz0,hz1,hz2⟩:=info_parts Tryz.infoStr
 have HA:=hD ha
 have HB:=hD hb
 obtain⟨a,cap,rfl,_,_,_,_⟩:=ha
 obtain⟨a2,cap2,rfl,_,_,_,_⟩:=hb
 have HG:=hD (grow_nil (ls.length+ms.length) (by omega))
 have K0:=hD k0
 have K1:=hD k1
 have hB:=World.block_lt_of_cell? w _ k0
 simp only at hB
 go_enter Tryz.func157,Tryz.ntmps157
 go_wp2_with fail
 refine wp_loop_rounds 3 ?_
 rw [rounds_succ]
 go_wp2_with fail
 rw [rounds_succ]
 go_wp2_with fail
 rw [rounds_succ]
 go_wp2_with fail
 refine (HG.out _).mono ?_
 rintro e w1 ⟨v1,rfl,ho1,hb1⟩
 have HO1:=hD ho1
 have HB1:=hD hb1
 have k0:=cell_after K0.out hb1
 have k1:=cell_after K1.out hb1
 have hA1:=hD (texts_src (HA.out.later hb1))
 have hsz1:=hb1.size
 clear hb1 ho1
 go_wp2_with fail
 refine wp_loop_rounds 3 ?_
 rw [rounds_succ]
 go_wp2_with (at_builtin; go_must (refine wpList_append_texts rfl _ _ 37 rfl w.heap.size 9 i0 _ 16 Tryz.underlying37 hi hz0 hz1 hz2 rfl _ _ rfl (by exact HO1.out) a ls.length cap ls rfl rfl hA1.out.2.1 hA1.out.2.2 (by simp; omega) (by decide) hsz1 ?_))
 intro v2 w2 hown2 hb2
 have HB2:Hid (Below w.heap.size w w2):=HB1.out.trans hb2
 have hsz2:w.heap.size≤w2.heap.size:=HB2.out.size
 have k1:=cell_after K1.out HB2.out
 have hA2:=hD (texts_src (HB.out.later HB2.out))
 have HO2:=hD hown2
 clear hb2 hown2 k0
 go_wp2_with fail
 rw [rounds_succ]
 go_wp2_with (at_builtin; go_must (refine wpList_append_texts rfl _ _ 37 rfl w.heap.size 9 i0 _ 16 Tryz.underlying37 hi hz0 hz1 hz2 rfl _ _ rfl (by exact HO2.out) a2 ms.length cap2 ms rfl rfl hA2.out.2.1 hA2.out.2.2 (by first | omega | (simp; omega)) (by decide) hsz2 ?_))
 intro v3 w3 hown3 hb3
 have HB3:Hid (Below w.heap.size w w3):=HB2.out.trans hb3
 have HO3:=hD hown3
 clear hb3 hown3 k1
 go_wp2_with fail
 rw [rounds_succ]
 go_wp2_with fail
 go_ret
 exact⟨_,rfl,by have:=HO3.out; simpa using this,HB3.out⟩

end Go.Proofs.YtphfinlfabklmaaGreat

end

section

namespace Go.Proofs.YtphfinlfabklmaaGreat
open Go.RowKit Go.Lib Go.Sort

theorem encS_cell:OneCell encS:=fun _ => rfl

theorem eql_S:EqlAt Tryz.prog 9 encS (fun x y => decide (x=y)) :=
  ⟨fun x y w => by rw [show encS x=.string ⟨x.toArray⟩ from rfl,show encS y=.string ⟨y.toArray⟩ from rfl,(EqlAt.string Tryz.prog 9).1]; by_cases h:x=y <;> simp [h,ByteArray.toList_eq],
   fun op a b x y w => GuardAt.string Tryz.prog 9 op a b _ _ w⟩

theorem neq_S:NeqAt Tryz.prog 9 encS (fun x y => decide (x=y)) :=
  ⟨fun x y w => by rw [show encS x=.string ⟨x.toArray⟩ from rfl,show encS y=.string ⟨y.toArray⟩ from rfl,(NeqAt.string Tryz.prog 9).1]; by_cases h:x=y <;> simp [h,ByteArray.toList_eq],
   fun op a b x y w => GuardAt.string Tryz.prog 9 op a b _ _ w⟩

theorem compare_lays (blk off size:Nat) (w:World):CmpLays1 Tryz.prog 143 #[] encS idCmp blk off size w :=
 fun m os dk _ x y => (compare_any x y (sortWorld encS w blk off m dk os)).mono fun _ _ ⟨he,o,hw⟩ => ⟨he,0,#[o],by rw [hw,alloc_eq_grow]; rfl⟩

theorem below_grow {B:Nat} {w0 w:World} (h:Below B w0 w) (hB:B≤w.heap.size) (os:Array Obj):Below B w0 (grow w os) :=
 ⟨h.os,h.tape,h.output,by have:=h.size; simp only [grow,Array.size_append]; omega,fun k hk => by
  rw [← h.block k hk]
  simp only [grow]
  rw [Array.getElem?_append_left (by omega)]⟩

theorem sorted_row {w1:World} {g n:Nat} {d d':Array (List UInt8)} {os:Array Obj} (hH:Holds encS w1 g 0 d) (hg:g < w1.heap.size) (hd:d'.size=d.size) :
  Holds encS (sortWorld encS w1 g 0 n d' os) g 0 d':=by
 unfold sortWorld
 refine holds_grow encS _ os g 0 d' ?_ (holds_putRow encS _ g 0 d d' (holds_ahead encS w1 n g 0 d hH) hd)
 simpa [putRow,mapBlock,Sort.ahead] using hg

theorem sorted_below {B:Nat} {w0 w1:World} {g n:Nat} {d':Array (List UInt8)} {os:Array Obj} (h:Below B w0 w1) (hB:B≤w1.heap.size) (hg:B≤g):Below B w0 (sortWorld encS w1 g 0 n d' os):=by
 unfold sortWorld
 refine below_grow (below_putRow h hg) ?_ os
 simpa [putRow,mapBlock,Sort.ahead] using hB

theorem compact_texts {w2:World} {g q cap:Nat} {d:Array (List UInt8)} (hH:Holds encS w2 g 0 d) (hg:g < w2.heap.size) (hn:d.size≤cap) (hc:cap≤maxLen) {ls:List (List UInt8)} (hle:ls.length≤d.size) :
  Texts (putRow encS (Sort.ahead w2 q) g 0 (ls ++ List.replicate (d.size - ls.length) []).toArray) (.slice (some ⟨g,0,none⟩) ls.length cap) ls:=by
 refine ⟨some ⟨g,0,none⟩,cap,rfl,by omega,hc,(fun e => by cases e),.inr ⟨g,0,rfl,?_,fun i hi => ?_⟩⟩
 ·simpa [putRow,mapBlock,Sort.ahead] using hg
 ·have h:=holds_putRow encS (Sort.ahead w2 q) g 0 d (ls ++ List.replicate (d.size - ls.length) []).toArray (holds_ahead encS w2 q g 0 d hH) (by simp; omega)
  have h1:=(h i (by simp; omega)).1
  rw [h1]
  congr 2
  rw [getElem!_pos _ i (by simp; omega)]
  simp [List.getD,hi]

theorem compact_len (d:Array (List UInt8)):(compactUpTo d d.size).length≤d.size:=by
 unfold compactUpTo
 rw [List.length_map]
 exact Nat.le_trans (List.length_filter_le _ _) (by simp)

theorem merge_any {w:World} {va vb:Value} {ls ms:List (List UInt8)} (ha:Texts w va ls) (hb:Texts w vb ms) (hl:ls.length≤100) (hm:ms.length≤100) :
  Calls Tryz.prog 85 #[va,vb] w fun e w' => ∃ v,e=.returned v∧Texts w' v (mrg (ls ++ ms))∧Below w.heap.size w w':=by
 have eg:∀ args w,(callFunc 143 args).run Tryz.prog w=.ok (.enter 143 args) w:=enters_of Tryz.func143 (by kernel_rfl) rfl
 have hB0:Below w.heap.size w (w.alloc (.cells #[va,vb] 37)):=(Below.refl _ _).alloc (Nat.le_refl _) _
 have HC:=Lib.hid (concat_any (ha.later hB0) (hb.later hB0) hl hm w.heap.size (by simp) (by simp))
 have HB0:=Lib.hid hB0
 obtain⟨a,cap,rfl,_,_,_,_⟩:=ha
 obtain⟨a2,cap2,rfl,_,_,_,_⟩:=hb
 clear hB0
 go_enter Tryz.func85,Tryz.ntmps85
 go_wp2_with fail
 refine HC.out.mono ?_
 rintro e w1 ⟨v1,rfl,ho1,hb1⟩
 have HB1:=Lib.hid (below2' HB0.out hb1)
 have hsz1:w.heap.size+1≤w1.heap.size:=by have:=hb1.size; simpa using this
 have HO1:=Lib.hid ho1
 clear hb1 ho1 HC HB0
 by_cases h0:ls ++ ms=[]
 ·have hr:Hid (mrg (ls ++ ms)=[]):=by show _=_; rw [h0]; rfl
  obtain⟨p,c,rfl,_⟩ : ∃ p c,v1=.slice p 0 c∧True:=by
   obtain⟨p,c,e,_⟩:=HO1.out.texts
   rw [h0] at e
   exact⟨p,c,e,trivial⟩
  have HT:=Lib.hid HO1.out.texts
  have HS:=Lib.hid (Tryz.slices_SortFunc_none (α:=List UInt8) p c (.func (.func 143) #[] #[]) w1)
  have HK:=Lib.hid (Tryz.slices_Compact_string_empty p c w1)
  have H0:=Lib.hid h0
  clear h0
  go_wp2_with fail
  refine HS.out.mono ?_
  rintro e w' ⟨rfl,rfl⟩
  go_wp2_with fail
  refine HK.out.mono ?_
  rintro e w' ⟨rfl,rfl⟩
  go_wp2_with fail
  go_ret
  exact⟨_,rfl,by rw [hr.out]; have:=HT.out; rw [H0.out] at this; exact this,HB1.out⟩
 ·have hv:v1 ≠ .slice none 0 0:=by
   intro e
   obtain⟨p,c,e',_⟩:=HO1.out.texts
   rw [e'] at e
   simp only [Value.slice.injEq] at e
   exact h0 (List.length_eq_zero_iff.1 e.2.1)
  obtain⟨g,c,rfl,hg1,hg2,hn,hc,_,hH⟩:=holds_of_ownsRow (zs:=ls ++ ms) (HO1.out:World.ownsRow _ _ _ _ _ _ _) hv
  have hg1':w.heap.size+1≤g:=by simpa using hg1
  have HS:=Lib.hid (Tryz.slices_SortFunc_total encS (fun _ => rfl) idCmp idSWO 143 #[] g 0 c (ls ++ ms).toArray w1 eg (compare_lays g 0 _ w1) hH hg2 (by simp; omega) idTot)
  have hlen:(ls ++ ms).length=ls.length+ms.length:=List.length_append
  simp only [List.size_toArray,hlen] at HS
  have HH:=Lib.hid hH
  rw [hlen] at hn
  clear eg hH hg1 hv h0 hlen
  go_wp2_with fail
  refine HS.out.mono ?_
  rintro e w2 ⟨rfl,nn,os,hw2⟩
  have hD:Hid (Holds encS w2 g 0 ((ls ++ ms).mergeSort fun x y => !(ltOf idCmp) y x).toArray):=by
   show Holds _ _ _ _ _
   rw [hw2]
   exact sorted_row HH.out hg2 (by simp)
  have HB2:Hid (Below w.heap.size w w2):=by
   show Below _ _ _
   rw [hw2]
   exact sorted_below HB1.out (by omega) (by omega)
  have hg3:Hid (g < w2.heap.size):=by
   show g < _
   rw [hw2]
   simp only [sortWorld,grow,Array.size_append,putRow,mapBlock,Array.size_modify,Sort.ahead]
   omega
  have hsl:((ls ++ ms).mergeSort fun x y => !(ltOf idCmp) y x).length=ls.length+ms.length:=by simp
  obtain⟨d,hd⟩ : ∃ d,d=((ls ++ ms).mergeSort fun x y => !(ltOf idCmp) y x).toArray:=⟨_,rfl⟩
  have hds:d.size=ls.length+ms.length:=by rw [hd]; simp
  have HM:Hid (compactUpTo d d.size=mrg (ls ++ ms)):=by show _=_; rw [hd]; exact sort_compact _
  rw [← hd] at hD
  have HK:=Lib.hid (Tryz.slices_Compact encS encS_cell eql_S neq_S [] (fun _ => by kernel_rfl) g 0 c d w2 hD.out (by omega) (by omega))
  have hcl:=compact_len d
  rw [HM.out] at HK hcl
  rw [hds] at HK
  have HT:Hid (∀ q,Texts (putRow encS (Sort.ahead w2 q) g 0 (mrg (ls ++ ms) ++ List.replicate (d.size - (mrg (ls ++ ms)).length) []).toArray) (.slice (some ⟨g,0,none⟩) (mrg (ls ++ ms)).length c) (mrg (ls ++ ms))) :=
   fun q => compact_texts hD.out hg3.out (by omega) hc hcl
  rw [hds] at HT
  clear hw2 hd hds hsl HM HS hD hcl HH
  obtain⟨r,hr⟩ : ∃ r,mrg (ls ++ ms)=r:=⟨_,rfl⟩
  rw [hr] at HK HT
  have HR:=Lib.hid hr
  clear hr
  go_wp2_with fail
  refine HK.out.mono ?_
  rintro e w3 ⟨rfl,q,hw3⟩
  have HT3:=HT.out q
  rw [← hw3] at HT3
  have HB3:Hid (Below w.heap.size w w3):=by
   show Below _ _ _
   rw [hw3]
   exact below_putRow HB2.out (by omega)
  have HT3':=Lib.hid HT3
  clear hw3 HT3 HK HT
  go_wp2_with fail
  go_ret
  exact⟨_,rfl,by rw [HR.out]; exact HT3'.out,HB3.out⟩

end Go.Proofs.YtphfinlfabklmaaGreat

end

section

namespace Go.Proofs.YtphfinlfabklmaaGreat
open Go.RowKit

theorem rabout_any {w:World} {v:Value} {l:List Ent} (hv:Ents w v l) (hl:l.length≤4294967) (n:List UInt8) :
  Calls Tryz.prog 123 #[v,.string ⟨n.toArray⟩] w fun e w' => ∃ u,e=.returned u∧OwnS entVals 7 126 w' w.heap.size u (roNear l n)∧Below w.heap.size w w':=by
 have HV:=hD hv
 obtain⟨a,cap,rfl,_⟩:=hv.open'
 clear hv
 go_enter Tryz.func123,Tryz.ntmps123
 go_wp2_with fail
 go_loopw [5,10] (fun s i wr => ∃ k:Nat,k≤l.length∧i=.int .i64 k∧Hid (OwnS entVals 7 126 wr w.heap.size s (roNear (l.take k) n))∧Hid (Below w.heap.size w wr)) (fun _ i _ => l.length - (intOf i).toNat)
 case atStart => exact⟨0,by omega,rfl,ownS_nil _ _,Below.refl _ _⟩
 case round =>
  obtain⟨k,hk,rfl,HO,HN⟩:=hrel
  by_cases hlt:k < l.length
  ·obtain⟨b,off,rfl,h0,h1,h2,h3,h4,h5,h6⟩:=HV.out.row HN.out k hlt
   obtain⟨⟨xo,xc,⟨x1,x2,x3,x4,x5⟩⟩,hr⟩ : ∃ r,l.getD k Ent.zero=r:=⟨_,rfl⟩
   have hX:=roNear_next (c:=n) hlt hr
   rw [hr] at h0 h1 h2 h3 h4 h5 h6
   simp only at h0 h1 h2 h3 h4 h5 h6
   clear hr
   have bn:=bl_newZ wr (.cells #[.string ⟨xo.toArray⟩,.string ⟨xc.toArray⟩,.bool x1,.bool x2,.bool x3,.bool x4,.bool x5] 126)
   have HO1:=hD (HO.out.later bn)
   have HN1:=hD (below2S HN.out bn)
   have CX:=hD (cells7_made wr ⟨xo,xc,⟨x1,x2,x3,x4,x5⟩⟩ 126)
   clear bn
   by_cases ho:xo=n
   ·have hb:roNearB n ⟨xo,xc,⟨x1,x2,x3,x4,x5⟩⟩=true:=by unfold roNearB; simp [ho]
    rw [if_pos hb] at hX
    have HX:=hD hX
    have t1:(xo == n)=true:=by simpa using ho
    have b2:=bl_newZ (wr.alloc (.cells #[.string ⟨xo.toArray⟩,.string ⟨xc.toArray⟩,.bool x1,.bool x2,.bool x3,.bool x4,.bool x5] 126)) (.cells #[.string ⟨xo.toArray⟩,.string ⟨xc.toArray⟩,.bool x1,.bool x2,.bool x3,.bool x4,.bool x5] 126)
    have O2:=hD (HO1.out.later b2)
    have N2:=hD (below2S HN1.out b2)
    have HS:=hD (srcS_new (vals:=entVals) (w:=wr.alloc (.cells #[.string ⟨xo.toArray⟩,.string ⟨xc.toArray⟩,.bool x1,.bool x2,.bool x3,.bool x4,.bool x5] 126)) (r:=⟨xo,xc,⟨x1,x2,x3,x4,x5⟩⟩) (cs:=#[.string ⟨xo.toArray⟩,.string ⟨xc.toArray⟩,.bool x1,.bool x2,.bool x3,.bool x4,.bool x5]) rfl (e:=126) (B:=wr.heap.size+1) (by simp))
    have hcl:(roNear (l.take k) n).length+1 < 4294967296:=by
     have h1:(roNear (l.take k) n).length≤(l.take k).length:=List.length_filter_le _ _
     rw [List.length_take] at h1
     omega
    have HCL:=hD hcl
    have HBS:=hD N2.out.size
    clear b2 hX hb hcl ho
    go_wp2_with (at_builtin; go_must (refine wpList_append_S entOK rfl _ _ rfl w.heap.size _ (roNear (l.take k) n) rfl (by exact O2.out) _ 1 1 [⟨xo,xc,⟨x1,x2,x3,x4,x5⟩⟩] rfl rfl (fun e => nomatch e) ?c1 (by exact HCL.out) (by exact HBS.out) ?_))
    case c1 => exact HS.out _ rfl
    intro v' w' hown' hb'
    rw [← HX.out] at hown'
    have O3:=hD hown'
    have N3:=hD (N2.out.trans hb')
    clear hown' hb' O2 h0 h1 h2 h3 h4 h5 h6
    go_wp2_with fail
    go_roundw
    case rel => exact⟨k+1,by omega,by go_num,O3,N3⟩
    case measure => simp [intOf]; omega
   ·have t1:(xo == n)=false:=by rw [beq_eq_false_iff_ne]; exact ho
    by_cases hc:xc=n
    ·have hb:roNearB n ⟨xo,xc,⟨x1,x2,x3,x4,x5⟩⟩=true:=by unfold roNearB; simp [hc]
     rw [if_pos hb] at hX
     have HX:=hD hX
     have t2:(xc == n)=true:=by simpa using hc
     have b2:=bl_newZ (wr.alloc (.cells #[.string ⟨xo.toArray⟩,.string ⟨xc.toArray⟩,.bool x1,.bool x2,.bool x3,.bool x4,.bool x5] 126)) (.cells #[.string ⟨xo.toArray⟩,.string ⟨xc.toArray⟩,.bool x1,.bool x2,.bool x3,.bool x4,.bool x5] 126)
     have O2:=hD (HO1.out.later b2)
     have N2:=hD (below2S HN1.out b2)
     have HS:=hD (srcS_new (vals:=entVals) (w:=wr.alloc (.cells #[.string ⟨xo.toArray⟩,.string ⟨xc.toArray⟩,.bool x1,.bool x2,.bool x3,.bool x4,.bool x5] 126)) (r:=⟨xo,xc,⟨x1,x2,x3,x4,x5⟩⟩) (cs:=#[.string ⟨xo.toArray⟩,.string ⟨xc.toArray⟩,.bool x1,.bool x2,.bool x3,.bool x4,.bool x5]) rfl (e:=126) (B:=wr.heap.size+1) (by simp))
     have hcl:(roNear (l.take k) n).length+1 < 4294967296:=by
      have h1:(roNear (l.take k) n).length≤(l.take k).length:=List.length_filter_le _ _
      rw [List.length_take] at h1
      omega
     have HCL:=hD hcl
     have HBS:=hD N2.out.size
     clear b2 hX hb hcl ho hc
     go_wp2_with (at_builtin; go_must (refine wpList_append_S entOK rfl _ _ rfl w.heap.size _ (roNear (l.take k) n) rfl (by exact O2.out) _ 1 1 [⟨xo,xc,⟨x1,x2,x3,x4,x5⟩⟩] rfl rfl (fun e => nomatch e) ?c1 (by exact HCL.out) (by exact HBS.out) ?_))
     case c1 => exact HS.out _ rfl
     intro v' w' hown' hb'
     rw [← HX.out] at hown'
     have O3:=hD hown'
     have N3:=hD (N2.out.trans hb')
     clear hown' hb' O2 h0 h1 h2 h3 h4 h5 h6
     go_wp2_with fail
     go_roundw
     case rel => exact⟨k+1,by omega,by go_num,O3,N3⟩
     case measure => simp [intOf]; omega
    ·have hb:roNearB n ⟨xo,xc,⟨x1,x2,x3,x4,x5⟩⟩=false:=by unfold roNearB; simp [ho,hc]
     rw [if_neg (by rw [hb]; decide)] at hX
     have t2:(xc == n)=false:=by rw [beq_eq_false_iff_ne]; exact hc
     have O3:=HO1
     rw [← hX] at O3
     clear hX hb ho hc HO1
     go_wp2_with fail
     go_roundw
     case rel => exact⟨k+1,by omega,by go_num,O3,HN1⟩
     case measure => simp [intOf]; omega
  ·obtain rfl:k=l.length:=by omega
   have ht:=HO.out
   rw [List.take_length] at ht
   have HT:=hD ht
   clear ht
   go_wp2_with fail
   go_ret
   exact⟨_,rfl,HT.out,HN.out⟩

end Go.Proofs.YtphfinlfabklmaaGreat

end

section

namespace Go.Proofs.YtphfinlfabklmaaGreat
open Go.RowKit

theorem rfind_mem {w:World} {v:Value} {l:List Ent} (hv:Ents w v l) (hr:Rise l) {xo xc:List UInt8} {x1 x2 x3 x4 x5:Bool} (hm:⟨xo,xc,⟨x1,x2,x3,x4,x5⟩⟩ ∈ l) :
  Calls Tryz.prog 126 #[v,.agg #[.string ⟨xo.toArray⟩,.string ⟨xc.toArray⟩,.bool x1,.bool x2,.bool x3,.bool x4,.bool x5]] w fun e w' => e=.returned (.tuple #[.agg #[.string ⟨xo.toArray⟩,.string ⟨xc.toArray⟩,.bool x1,.bool x2,.bool x3,.bool x4,.bool x5],.bool true])∧Below w.heap.size w w':=by
 have hany:(l.any fun e => entIs e ⟨xo,xc,⟨x1,x2,x3,x4,x5⟩⟩)=true:=by
  rw [List.any_eq_true]
  exact⟨_,hm,entIs_iff.2 ⟨rfl,rfl⟩⟩
 have ht:=(entPlace_there hr ⟨xo,xc,⟨x1,x2,x3,x4,x5⟩⟩).trans hany
 rw [Bool.and_eq_true,decide_eq_true_eq] at ht
 obtain⟨hlt,hs⟩:=ht
 have he:l.getD (entPlace l ⟨xo,xc,⟨x1,x2,x3,x4,x5⟩⟩) Ent.zero=⟨xo,xc,⟨x1,x2,x3,x4,x5⟩⟩:=by
  have h1:l.getD (entPlace l ⟨xo,xc,⟨x1,x2,x3,x4,x5⟩⟩) Ent.zero ∈ l:=by rw [getD_at hlt]; exact List.getElem_mem hlt
  exact rise_mem entOrd hr h1 hm hs
 rw [he] at hs
 exact find_yes hv hr xo xc x1 x2 x3 x4 x5 hlt he hs

theorem ownT_later {w w':World} {base e:Nat} {v:Value} {t:List (List UInt8)} (h:OwnT w base e v t) (hb:Below w.heap.size w w'):OwnT w' base e v t:=by
 refine ⟨h.1,?_⟩
 rcases h.2 with h' | ⟨g,cap,cur,h1,h2,h3,h4⟩
 ·exact .inl h'
 ·exact .inr ⟨g,cap,cur,h1,h2,by rw [hb.block g (Array.getElem?_eq_some_iff.1 h3).1]; exact h3,h4⟩

theorem compact_self {ls:List (List UInt8)} (hr:ls.Pairwise fun a b => idLess a b=true):Lib.compactUpTo ls.toArray ls.toArray.size=ls:=by
 rw [Lib.compactUpTo_all _ _ (fun j hj => by
  have hj':j < ls.length:=by simpa using hj
  unfold Lib.keeps
  rw [decide_eq_true_eq]
  by_cases h0:j=0
  ·exact .inl h0
  ·refine .inr ?_
   rw [getElem!_pos _ j (by simpa using hj'),getElem!_pos _ (j - 1) (by simp; omega)]
   simp only [List.getElem_toArray]
   have:=List.pairwise_iff_getElem.1 hr (j - 1) j (by omega) hj' (by omega)
   intro e
   rw [e,idLess_irrefl] at this
   cases this)]
 refine List.ext_getElem (by simp) fun i h1 h2 => ?_
 simp only [List.getElem_map,List.getElem_range]
 rw [getElem!_pos _ i (by simpa using h2)]
 simp

theorem rcompact_any {w:World} {base:Nat} {v:Value} {ls:List (List UInt8)} (ho:OwnT w base 9 v ls) (hl:ls.length≤4294967) (hr:ls.Pairwise fun a b => idLess a b=true) :
  Calls Tryz.prog 128 #[v] w fun e w' => ∃ u,e=.returned u∧Texts w' u ls∧Below base w w':=by
 have hT:=ho.texts
 rcases ho with ⟨hll,⟨rfl,h0⟩ | ⟨g,cap,cur,rfl,hbg,hg,hnc,hcm,hcs,htk⟩⟩
 ·obtain rfl:ls=[]:=List.length_eq_zero_iff.1 h0
  refine (Tryz.slices_Compact_string_empty none 0 w).mono ?_
  rintro e w' ⟨rfl,rfl⟩
  exact⟨_,rfl,hT,Below.refl _ _⟩
 ·have hgl:g < w.heap.size:=(Array.getElem?_eq_some_iff.1 hg).1
  have hH:Sort.Holds encS w g 0 ls.toArray:=by
   intro j hj
   have hj':j < ls.length:=by simpa using hj
   rw [Nat.zero_add]
   refine ⟨?_,frozen_of_row w g j _ _ hg⟩
   refine (cell_of_row w g j _ _ (0,0) hg).trans ?_
   have e:cur[j]?=(cur.toList.take (ls.length * 1))[j]?:=by
    rw [List.getElem?_take_of_lt (by omega)]
    simp
   rw [e,htk,List.getElem?_map,List.getElem?_eq_getElem hj',getElem!_pos _ j (by simpa using hj')]
   simp
  have HK:=Tryz.slices_Compact encS encS_cell eql_S neq_S [] (fun _ => by kernel_rfl) g 0 cap ls.toArray w hH (by simp; omega) (by simpa using hnc)
  have hM:=compact_self hr
  have hsz:ls.toArray.size=ls.length:=by simp
  rw [hM,hsz] at HK
  refine HK.mono ?_
  rintro e w' ⟨rfl,q,hw⟩
  have ht:=compact_texts (q:=q) (ls:=ls) (cap:=cap) hH hgl (by simpa using hnc) hcm (by simp)
  rw [hsz] at ht
  rw [← hw] at ht
  exact⟨_,rfl,ht,by rw [hw]; first | exact Lib.below_putRow (Below.refl _ _) hbg | exact Sort.below_putRow (Below.refl _ _) hbg⟩

theorem rwatchers_any {w:World} {v:Value} {l:List Ent} (hv:Ents w v l) (hr:Rise l) (hl:l.length≤4294967) (n:List UInt8)
  (hsort:∀ {w:World} {v:Value} {t:List Ent},Ents w v t→Rise t→t.length≤l.length→Calls Tryz.prog 124 #[v,.func (.func 125) #[] #[]] w fun e w' => e=.returned (.tuple #[])∧Below w.heap.size w w') :
  Calls Tryz.prog 70 #[v,.string ⟨n.toArray⟩] w fun e w' => ∃ u,e=.returned u∧Texts w' u (roWat l n)∧Below w.heap.size w w':=by
 obtain⟨i0,hi,hz0,hz1,hz2⟩:=info_parts Tryz.infoTxt
 have HAB:=hD (rabout_any hv hl n)
 obtain⟨a,cap,rfl,_⟩:=hv.open'
 have HRN:=hD (roNear_rise hr n)
 have HNL:=hD (show (roNear l n).length≤l.length from List.length_filter_le _ _)
 have HSO:Hid (∀ (w:World) (v:Value) (t:List Ent),Ents w v t→Rise t→t.length≤l.length→Calls Tryz.prog 124 #[v,.func (.func 125) #[] #[]] w fun e w' => e=.returned (.tuple #[])∧Below w.heap.size w w'):=hD (fun w v t h1 h2 h3 => hsort h1 h2 h3)
 have HWR:=hD (roWat_rise hr n)
 have HWA:=hD (roWats_all l n)
 have HLL:=hD hl
 clear hv hr hsort hl
 go_enter Tryz.func70,Tryz.ntmps70
 go_wp2_with fail
 refine HAB.out.mono ?_
 rintro e w1 ⟨u,rfl,ho,b1⟩
 have V1:=hD (ho.rd entOK).ents
 have HB:=hD b1
 obtain⟨t,htt⟩ : ∃ t,roNear l n=t:=⟨_,rfl⟩
 rw [htt] at V1 HRN HNL HWA
 obtain⟨na,ncap,e,hnm⟩:=V1.out.open'
 subst e
 have HN2:=hD htt
 clear ho b1 HAB htt
 go_wp2_with fail
 refine (HSO.out _ _ _ V1.out HRN.out HNL.out).mono ?_
 rintro e w2 ⟨rfl,b2⟩
 have V2:=hD (V1.out.later b2)
 replace HB:=hD (below2S HB.out b2)
 clear b2 V1 HSO
 go_wp2_with fail
 go_loopw [6,20] (fun s i wr => ∃ k:Nat,k≤t.length∧i=.int .i64 k∧Hid (OwnT wr w2.heap.size 9 s (roWats t n k))∧Hid (Below w2.heap.size w2 wr)) (fun _ i _ => t.length - (intOf i).toNat)
 case atStart => exact⟨0,by omega,rfl,World.ownsRow_nil _ _ _ _,Below.refl _ _⟩
 case round =>
  obtain⟨k,hk,rfl,HO,HN⟩:=hrel
  by_cases hlt:k < t.length
  ·obtain⟨b,off,rfl,h0,h1,h2,h3,h4,h5,h6⟩:=V2.out.row HN.out k hlt
   obtain⟨⟨xo,xc,⟨x1,x2,x3,x4,x5⟩⟩,hr⟩ : ∃ r,t.getD k Ent.zero=r:=⟨_,rfl⟩
   have hX:=roWats_next (c:=n) hlt hr
   have hmem:⟨xo,xc,⟨x1,x2,x3,x4,x5⟩⟩ ∈ t:=by rw [← hr,getD_at hlt]; exact List.getElem_mem hlt
   rw [hr] at h0 h1 h2 h3 h4 h5 h6
   simp only at h0 h1 h2 h3 h4 h5 h6 hX
   clear hr
   have bn:=bl_newZ wr (.cells #[.string ⟨xo.toArray⟩,.string ⟨xc.toArray⟩,.bool x1,.bool x2,.bool x3,.bool x4,.bool x5] 126)
   have HO1:=hD (ownT_later HO.out bn)
   have HN1:=hD (below2S HN.out bn)
   have V1:=hD (V2.out.later HN1.out)
   have C8:=hD (cells7_made wr ⟨xo,xc,⟨x1,x2,x3,x4,x5⟩⟩ 126)
   clear bn
   by_cases hc:xc=n
   ·obtain⟨⟨i1,i2,i3,i4,i5⟩,hi'⟩ : ∃ r,roIt t n xo=r:=⟨_,rfl⟩
    obtain⟨q,hq⟩ : ∃ q,(t.any fun x => entIs x ⟨n,xo,It.zero⟩)=q:=⟨_,rfl⟩
    obtain⟨r,hsr⟩ : ∃ r,suSees ⟨x1,x2,x3,x4,x5⟩ ⟨i1,i2,i3,i4,i5⟩=r:=⟨_,rfl⟩
    have hb:roWB t n ⟨xo,xc,⟨x1,x2,x3,x4,x5⟩⟩=r:=by
     unfold roWB
     simp only [hc,decide_true,Bool.true_and]
     rw [hi',hsr]
    rw [hb] at hX
    have HX:=hD hX
    have FI:=hD hi'
    have FQ:=hD hq
    have HS:=hD (ssees_eq x1 x2 x3 x4 x5 i1 i2 i3 i4 i5 hsr)
    have HM:=hD hmem
    have E1:=hD (entry_any n xo)
    subst hc
    clear hb hX hi' hq hsr hmem
    go_wp2_with fail
    refine (rfind_mem V1.out HRN.out HM.out).mono ?_
    rintro e w3 ⟨rfl,b3⟩
    have b4:=below2S b3 (bl_newZ w3 (.cells #[.string ⟨xo.toArray⟩,.string ⟨xc.toArray⟩,.bool x1,.bool x2,.bool x3,.bool x4,.bool x5] 126))
    have C9:=hD (cells7_made w3 ⟨xo,xc,⟨x1,x2,x3,x4,x5⟩⟩ 126)
    replace C8:=hD (C8.out.later b4)
    replace V1:=hD (V1.out.later b4)
    replace HO1:=hD (ownT_later HO1.out b4)
    replace HN1:=hD (below2S HN1.out b4)
    obtain⟨c0,c1,c2,c3,c4,c5,c6⟩:=C8.out
    simp only [Nat.zero_add] at c0 c1 c2 c3 c4 c5 c6
    clear b3 b4 h0 h1 h2 h3 h4 h5 h6
    go_wp2_with fail
    generalize hW:w3.alloc (.cells #[.string ⟨xo.toArray⟩,.string ⟨xc.toArray⟩,.bool x1,.bool x2,.bool x3,.bool x4,.bool x5] 126)=w4 at C8 C9 V1 HO1 HN1 c0 c1 c2 c3 c4 c5 c6 ⊢
    clear hW c0 c1 c2 c3 c4 c5 c6
    refine (E1.out _).mono ?_
    rintro e w5 ⟨rfl,b5⟩
    replace C8:=hD (C8.out.later b5)
    replace C9:=hD (C9.out.later b5)
    replace V1:=hD (V1.out.later b5)
    replace HO1:=hD (ownT_later HO1.out b5)
    replace HN1:=hD (below2S HN1.out b5)
    clear b5
    go_wp2_with fail
    refine (rfind_eq V1.out HRN.out xc xo FI FQ).mono ?_
    rintro e w6 ⟨rfl,b6⟩
    have b7:=below2S b6 (bl_newZ w6 (.cells #[.string ⟨xc.toArray⟩,.string ⟨xo.toArray⟩,.bool i1,.bool i2,.bool i3,.bool i4,.bool i5] 126))
    have C11:=hD (cells7_made w6 ⟨xc,xo,⟨i1,i2,i3,i4,i5⟩⟩ 126)
    replace C8:=hD (C8.out.later b7)
    replace C9:=hD (C9.out.later b7)
    replace HO1:=hD (ownT_later HO1.out b7)
    replace HN1:=hD (below2S HN1.out b7)
    obtain⟨c0,c1,c2,c3,c4,c5,c6⟩:=C9.out
    obtain⟨d0,d1,d2,d3,d4,d5,d6⟩:=C11.out
    simp only [Nat.zero_add] at c0 c1 c2 c3 c4 c5 c6 d0 d1 d2 d3 d4 d5 d6
    clear b6 b7 V1
    go_wp2_with fail
    generalize hW:w6.alloc (.cells #[.string ⟨xc.toArray⟩,.string ⟨xo.toArray⟩,.bool i1,.bool i2,.bool i3,.bool i4,.bool i5] 126)=w7 at C8 C9 C11 HO1 HN1 c0 c1 c2 c3 c4 c5 c6 d0 d1 d2 d3 d4 d5 d6 ⊢
    clear hW c0 c1 c2 c3 c4 c5 c6 d0 d1 d2 d3 d4 d5 d6
    refine (HS.out _).mono ?_
    rintro e w8 ⟨rfl,b8⟩
    replace C8:=hD (C8.out.later b8)
    replace HO1:=hD (ownT_later HO1.out b8)
    replace HN1:=hD (below2S HN1.out b8)
    obtain⟨c0,c1,c2,c3,c4,c5,c6⟩:=C8.out
    simp only [Nat.zero_add] at c0 c1 c2 c3 c4 c5 c6
    clear b8 C9 C11
    cases r with
    | true =>
     have hX:=HX.out
     simp only [if_true] at hX
     have HX2:=hD hX
     have O2:=hD (HO1.out.alloc (.cells #[.string ⟨xo.toArray⟩] 9))
     have N2:=hD (bl_allocS HN1.out (.cells #[.string ⟨xo.toArray⟩] 9))
     have hz3:=N2.out.size
     have hcl:(roWats t xc k).length≤4294967:=by have:=roWats_le t xc k; have:=HNL.out; have:=HLL.out; omega
     clear hX HO1 HX
     go_wp2_with (at_builtin; go_must (refine wpList_append_texts rfl _ _ 37 rfl w2.heap.size 9 i0 _ 16 Tryz.underlying37 hi hz0 hz1 hz2 rfl _ (roWats t xc k) rfl (by exact O2.out) _ 1 1 [xo] rfl rfl (fun e => nomatch e) ?c1 (by simp only [List.length_cons,List.length_nil]; omega) (by decide) hz3 ?_))
     case c1 => exact new_cellN (by simp)
     intro v' w' hown' hb'
     rw [← HX2.out] at hown'
     have O3:=hD hown'
     have N3:=hD (N2.out.trans hb')
     clear hown' hb' O2 c0 c1 c2 c3 c4 c5 c6
     go_wp2_with fail
     go_roundw
     case rel => exact⟨k+1,by omega,by go_num,O3,N3⟩
     case measure => simp [intOf]; omega
    | false =>
     have hX:=HX.out
     simp only [Bool.false_eq_true,if_false] at hX
     have O3:=HO1
     rw [← hX] at O3
     clear hX HO1 HX c0 c1 c2 c3 c4 c5 c6
     go_wp2_with fail
     go_roundw
     case rel => exact⟨k+1,by omega,by go_num,O3,HN1⟩
     case measure => simp [intOf]; omega
   ·have hb:roWB t n ⟨xo,xc,⟨x1,x2,x3,x4,x5⟩⟩=false:=by unfold roWB; simp [hc]
    rw [if_neg (by rw [hb]; decide)] at hX
    have t2:(xc != n)=true:=by rw [bne_iff_ne]; exact hc
    have t3:(xc == n)=false:=by rw [beq_eq_false_iff_ne]; exact hc
    have O3:=HO1
    rw [← hX] at O3
    clear hX hb hc HO1 hmem V1 C8
    go_wp2_with fail
    go_roundw
    case rel => exact⟨k+1,by omega,by go_num,O3,HN1⟩
    case measure => simp [intOf]; omega
  ·obtain rfl:k=t.length:=by omega
   have HT:=HO
   rw [HWA.out] at HT
   have hwl:(roWat l n).length≤4294967:=by
    rw [← HWA.out]
    have:=roWats_le t n t.length
    have:=HNL.out
    have:=HLL.out
    omega
   have HC:=hD (rcompact_any HT.out hwl HWR.out)
   clear hwl HT HO
   go_wp2_with fail
   refine HC.out.mono ?_
   rintro e w9 ⟨y,rfl,hy,b9⟩
   have Y:=hD hy
   have B9:=hD (HB.out.trans ((HN.out.trans b9).mono HB.out.size))
   clear hy b9
   go_wp2_with fail
   go_ret
   exact⟨_,rfl,Y.out,B9.out⟩

end Go.Proofs.YtphfinlfabklmaaGreat

end

section

namespace Go.Proofs.YtphfinlfabklmaaGreat
open Go.RowKit

theorem Ents.cut {w:World} {ad:Option Addr} {n cap k:Nat} {l:List Ent} (h:Ents w (.slice ad n cap) l) (hk:k≤l.length):Ents w (.slice ad k cap) (l.take k):=by
 obtain⟨a',cap',e,h1,h2,h3,h4⟩:=h
 simp only [Value.slice.injEq] at e
 obtain⟨rfl,rfl,rfl⟩:=e
 have hl:(l.take k).length=k:=by rw [List.length_take]; omega
 refine ⟨ad,cap,by rw [hl],by rw [hl]; omega,h2,h3,?_⟩
 rcases h4 with rfl | ⟨b,off,e,hb,hc⟩
 ·exact .inl (by simp)
 ·refine .inr ⟨b,off,e,hb,fun i hi => ?_⟩
  rw [hl] at hi
  have:=hc i (by omega)
  have e2:(l.take k).getD i Ent.zero=l.getD i Ent.zero:=by simp [List.getD,hi]
  rwa [e2]

def nAnn:List UInt8:=[97,110,110]
def nBob:List UInt8:=[98,111,98]
def lvM1:List Ent:=[⟨nAnn,nBob,⟨false,false,false,true,false⟩⟩,⟨nBob,nAnn,⟨false,false,true,false,false⟩⟩]
def lvM2:List Ent:=[⟨nAnn,nBob,⟨false,true,false,false,false⟩⟩,⟨nBob,nAnn,⟨true,false,false,false,false⟩⟩]

end Go.Proofs.YtphfinlfabklmaaGreat

end
