/-
 TEXTS OF THE PROOF, one behind the other: IdConcat, IdMerge, DigCts, DigMap, DigChgs, DigLay, DigDel, DigWithout, DigIns, DigInsR.
-/
import Derived.Test.YtfocooajnignbaaW03
import Derived.Lib.AppendZeros
import Derived.OwnWalk
import Derived.BigQuiet
import Derived.Deep.DeepMust
import Derived.Lib.OwnBridge
import Derived.Maps.OwnSet
import Derived.Laws.IdiomCopy
import Derived.Lib.AppendZerosOnto
import Derived.Lib.Overlaps
import Derived.Deep.RegionLaw
import Derived.WalkSpells
import Derived.Laws.Externs

set_option maxHeartbeats 12800000
set_option maxRecDepth 100000

namespace Go.Proofs.Ytfocooajnignbaa
section
open Go.RowKit

theorem zeros_size (z:Value) (hz:z.cells.size=1) (n:Nat):(Builtin.zeroCells z.cells n).size=n:=by
 unfold Builtin.zeroCells
 simp [hz]

theorem grow_nil (n:Nat) (hn:n≤1000) (w:World) :
  Calls Try.prog 72 #[.slice none 0 0,.int .i64 n] w fun e w' => ∃ v,e=.returned v∧OwnT w' w.heap.size 9 v []∧Below w.heap.size w w':=by
 obtain⟨i0,hi,hz0,hz1,hz2⟩:=info_parts Try.infoStr
 by_cases h0:n=0
 ·subst h0
  go_enter Try.func72,Try.ntmps72
  go_wp2_with fail
  go_ret
  exact⟨_,rfl,World.ownsRow_nil _ _ _ _,Below.refl _ _⟩
 ·have hrz:=fun ty => Lib.run_append_nil_zeros (P:=Try.prog) w 101 3 ty 9 i0 _ .i64 .i64 Try.underlying101 Try.underlying3 hi hz0 n (by omega) (by omega) (by omega) (by rw [hz2]; omega)
  have hG1:=grownCap_ge w n 0 9
  have hG2:=grownCap_le_maxLen w n 0 9 (by unfold maxLen; omega)
  obtain⟨G,hG⟩ : ∃ G,G=grownCap w n 0 9:=⟨_,rfl⟩
  rw [← hG] at hrz hG1 hG2
  have hO:Hid (OwnT (w.drew.alloc (.cells (Builtin.zeroCells (Value.string ⟨#[]⟩).cells n ++ Builtin.zeroCells (Value.string ⟨#[]⟩).cells (G - n)) 9)) w.heap.size 9 (.slice (some ⟨w.heap.size,0,none⟩) 0 G) []):=by
   refine World.ownsRow_made (base:=w.heap.size) w.drew _ G (Nat.le_refl _) hG2 ?_
   rw [Array.size_append,zeros_size _ rfl,zeros_size _ rfl]
   omega
  have h1:0 < n:=by omega
  unfold maxLen at hG2
  clear hG h0
  go_enter Try.func72,Try.ntmps72
  go_wp2_with (at_builtin; go_must (refine Lib.wpList_append_run _ rfl _ _ _ _ rfl _ _ rfl rfl _ _ (hrz _) ?_))
  go_wp2_with fail
  go_ret
  exact⟨_,rfl,hO.out,(Below.refl _ _).drew.alloc (Nat.le_refl _) _⟩

theorem texts_src {W:World} {a:Option Addr} {n cap:Nat} {ls:List (List UInt8)} (h:Texts W (.slice a n cap) ls) :
  n=ls.length∧(a=none→cap=0∧ls=[])∧(∀ ad,a=some ad→∀ j u,(ls.map encS)[j]?=some u→W.cell? (ad.add j)=some u):=by
 obtain⟨a',cap',e,h1,h2,h3,h4⟩:=h
 simp only [Value.slice.injEq] at e
 obtain⟨rfl,rfl,rfl⟩:=e
 refine ⟨rfl,fun e => ⟨h3 e,List.length_eq_zero_iff.1 (by have:=h3 e; omega)⟩,?_⟩
 rintro ad rfl j u hu
 have hj:j < ls.length:=by
  have:=(List.getElem?_eq_some_iff.1 hu).1
  simpa using this
 rcases h4 with h | ⟨b,off,e,_,hc⟩
 ·rw [h] at hj; simp at hj
 ·obtain rfl:=Option.some.inj e
  rw [List.getElem?_map,getD_some hj] at hu
  simp only [Option.map_some,Option.some.injEq] at hu
  rw [Addr.add_lit,hc j hj,hu]

theorem concat_sum {w:World} {va vb:Value} {ls ms:List (List UInt8)} (ha:Texts w va ls) (hb:Texts w vb ms) (hlm:ls.length+ms.length≤1000)
  (B:Nat) (k0:w.cell? ⟨B,0,none⟩=some va) (k1:w.cell? ⟨B,1,none⟩=some vb) :
  Calls Try.prog 66 #[.slice (some ⟨B,0,none⟩) 2 2] w fun e w' => ∃ v,e=.returned v∧OwnT w' w.heap.size 9 v (ls ++ ms)∧Below w.heap.size w w':=by
 have hl:ls.length≤1000:=by omega
 have hm:ms.length≤1000:=by omega
 obtain⟨i0,hi,hz0,hz1,hz2⟩:=info_parts Try.infoStr
 have HA:=hZq ha
 have HB:=hZq hb
 obtain⟨a,cap,rfl,_,_,_,_⟩:=ha
 obtain⟨a2,cap2,rfl,_,_,_,_⟩:=hb
 have HG:=hZq (grow_nil (ls.length+ms.length) (by omega))
 have K0:=hZq k0
 have K1:=hZq k1
 have hB:=World.block_lt_of_cell? w _ k0
 simp only at hB
 go_enter Try.func66,Try.ntmps66
 go_wp2_with fail
 refine wp_loop_rounds 3 ?_
 rw [rounds_succ]
 go_wp2_with fail
 rw [rounds_succ]
 go_wp2_with fail
 rw [rounds_succ]
 go_wp2_with fail
 refine (HG.out _).mono ?_
 rintro e w1 ⟨v1,rfl,ho1,hb1⟩
 have HO1:=hZq ho1
 have HB1:=hZq hb1
 have k0:=cell_after K0.out hb1
 have k1:=cell_after K1.out hb1
 have hA1:=hZq (texts_src (HA.out.later hb1))
 have hsz1:=hb1.size
 clear hb1 ho1
 go_wp2_with fail
 refine wp_loop_rounds 3 ?_
 rw [rounds_succ]
 go_wp2_with (at_builtin; go_must (refine wpList_append_texts rfl _ _ 101 rfl w.heap.size 9 i0 _ 16 Try.underlying101 hi hz0 hz1 hz2 rfl _ _ rfl (by exact HO1.out) a ls.length cap ls rfl rfl hA1.out.2.1 hA1.out.2.2 (by simp; omega) (by decide) hsz1 ?_))
 intro v2 w2 hown2 hb2
 have HB2:Hid (Below w.heap.size w w2):=HB1.out.trans hb2
 have hsz2:w.heap.size≤w2.heap.size:=HB2.out.size
 have k1:=cell_after K1.out HB2.out
 have hA2:=hZq (texts_src (HB.out.later HB2.out))
 have HO2:=hZq hown2
 clear hb2 hown2 k0
 go_wp2_with fail
 rw [rounds_succ]
 go_wp2_with (at_builtin; go_must (refine wpList_append_texts rfl _ _ 101 rfl w.heap.size 9 i0 _ 16 Try.underlying101 hi hz0 hz1 hz2 rfl _ _ rfl (by exact HO2.out) a2 ms.length cap2 ms rfl rfl hA2.out.2.1 hA2.out.2.2 (by first | omega | (simp; omega)) (by decide) hsz2 ?_))
 intro v3 w3 hown3 hb3
 have HB3:Hid (Below w.heap.size w w3):=HB2.out.trans hb3
 have HO3:=hZq hown3
 clear hb3 hown3 k1
 go_wp2_with fail
 rw [rounds_succ]
 go_wp2_with fail
 go_ret
 exact⟨_,rfl,by have:=HO3.out; simpa using this,HB3.out⟩

theorem concat_any {w:World} {va vb:Value} {ls ms:List (List UInt8)} (ha:Texts w va ls) (hb:Texts w vb ms) (hl:ls.length≤100) (hm:ms.length≤100)
  (B:Nat) (k0:w.cell? ⟨B,0,none⟩=some va) (k1:w.cell? ⟨B,1,none⟩=some vb) :
  Calls Try.prog 66 #[.slice (some ⟨B,0,none⟩) 2 2] w fun e w' => ∃ v,e=.returned v∧OwnT w' w.heap.size 9 v (ls ++ ms)∧Below w.heap.size w w' :=
 concat_sum ha hb (by omega) B k0 k1
end
section
open Go.RowKit Go.Lib Go.Sort

theorem encS_cell:OneCell encS:=fun _ => rfl

theorem eql_S : EqlAt Try.prog 9 encS (fun x y => decide (x = y)) :=
  ⟨fun x y w => by rw [show encS x = .string ⟨x.toArray⟩ from rfl, show encS y = .string ⟨y.toArray⟩ from rfl, (EqlAt.string Try.prog 9).1]; by_cases h : x = y <;> simp [h, ByteArray.toList_eq],
   fun op a b x y w => GuardAt.string Try.prog 9 op a b _ _ w⟩

theorem neq_S : NeqAt Try.prog 9 encS (fun x y => decide (x = y)) :=
  ⟨fun x y w => by rw [show encS x = .string ⟨x.toArray⟩ from rfl, show encS y = .string ⟨y.toArray⟩ from rfl, (NeqAt.string Try.prog 9).1]; by_cases h : x = y <;> simp [h, ByteArray.toList_eq],
   fun op a b x y w => GuardAt.string Try.prog 9 op a b _ _ w⟩

theorem compare_lays (blk off size:Nat) (w:World):CmpLays1 Try.prog 48 #[] encS idCmp blk off size w :=
 fun m os dk _ x y => (compare_any x y (sortWorld encS w blk off m dk os)).mono fun _ _ ⟨he,o,hw⟩ => ⟨he,0,#[o],by rw [hw,alloc_eq_grow]; rfl⟩

theorem below_grow {B:Nat} {w0 w:World} (h:Below B w0 w) (hB:B≤w.heap.size) (os:Array Obj):Below B w0 (grow w os) :=
 ⟨h.os,h.tape,h.output,by have:=h.size; simp only [grow,Array.size_append]; omega,fun k hk => by
  rw [← h.block k hk]
  simp only [grow]
  rw [Array.getElem?_append_left (by omega)]⟩

theorem sorted_row {w1:World} {g n:Nat} {d d':Array (List UInt8)} {os:Array Obj} (hH:Holds encS w1 g 0 d) (hg:g < w1.heap.size) (hd:d'.size=d.size) :
  Holds encS (sortWorld encS w1 g 0 n d' os) g 0 d':=by
 unfold sortWorld
 refine holds_grow encS _ os g 0 d' ?_ (holds_putRow encS _ g 0 d d' (holds_ahead encS w1 n g 0 d hH) hd)
 simpa [putRow,mapBlock,Sort.ahead] using hg

theorem sorted_below {B:Nat} {w0 w1:World} {g n:Nat} {d':Array (List UInt8)} {os:Array Obj} (h:Below B w0 w1) (hB:B≤w1.heap.size) (hg:B≤g):Below B w0 (sortWorld encS w1 g 0 n d' os):=by
 unfold sortWorld
 refine below_grow (below_putRow h hg) ?_ os
 simpa [putRow,mapBlock,Sort.ahead] using hB

theorem compact_texts {w2:World} {g q cap:Nat} {d:Array (List UInt8)} (hH:Holds encS w2 g 0 d) (hg:g < w2.heap.size) (hn:d.size≤cap) (hc:cap≤maxLen) {ls:List (List UInt8)} (hle:ls.length≤d.size) :
  Texts (putRow encS (Sort.ahead w2 q) g 0 (ls ++ List.replicate (d.size - ls.length) []).toArray) (.slice (some ⟨g,0,none⟩) ls.length cap) ls:=by
 refine ⟨some ⟨g,0,none⟩,cap,rfl,by omega,hc,(fun e => by cases e),.inr ⟨g,0,rfl,?_,fun i hi => ?_⟩⟩
 ·simpa [putRow,mapBlock,Sort.ahead] using hg
 ·have h:=holds_putRow encS (Sort.ahead w2 q) g 0 d (ls ++ List.replicate (d.size - ls.length) []).toArray (holds_ahead encS w2 q g 0 d hH) (by simp; omega)
  have h1:=(h i (by simp; omega)).1
  rw [h1]
  congr 2
  rw [getElem!_pos _ i (by simp; omega)]
  simp [List.getD,hi]

theorem compact_len (d:Array (List UInt8)):(compactUpTo d d.size).length≤d.size:=by
 unfold compactUpTo
 rw [List.length_map]
 exact Nat.le_trans (List.length_filter_le _ _) (by simp)

theorem merge_any {w:World} {va vb:Value} {ls ms:List (List UInt8)} (ha:Texts w va ls) (hb:Texts w vb ms) (hl:ls.length≤100) (hm:ms.length≤100) :
  Calls Try.prog 58 #[va,vb] w fun e w' => ∃ v,e=.returned v∧Texts w' v (mrg (ls ++ ms))∧Below w.heap.size w w':=by
 have eg:∀ args w,(callFunc 48 args).run Try.prog w=.ok (.enter 48 args) w:=enters_of Try.func48 (by kernel_rfl) rfl
 have hB0:Below w.heap.size w (w.alloc (.cells #[va,vb] 101)):=(Below.refl _ _).alloc (Nat.le_refl _) _
 have HC:=hZq (concat_any (ha.later hB0) (hb.later hB0) hl hm w.heap.size (by simp) (by simp))
 have HB0:=hZq hB0
 obtain⟨a,cap,rfl,_,_,_,_⟩:=ha
 obtain⟨a2,cap2,rfl,_,_,_,_⟩:=hb
 clear hB0
 go_enter Try.func58,Try.ntmps58
 go_wp2_with fail
 refine HC.out.mono ?_
 rintro e w1 ⟨v1,rfl,ho1,hb1⟩
 have HB1:=hZq (below2' HB0.out hb1)
 have hsz1:w.heap.size+1≤w1.heap.size:=by have:=hb1.size; simpa using this
 have HO1:=hZq ho1
 clear hb1 ho1 HC HB0
 by_cases h0:ls ++ ms=[]
 ·have hr:Hid (mrg (ls ++ ms)=[]):=by show _=_; rw [h0]; rfl
  obtain⟨p,c,rfl,_⟩ : ∃ p c,v1=.slice p 0 c∧True:=by
   obtain⟨p,c,e,_⟩:=HO1.out.texts
   rw [h0] at e
   exact⟨p,c,e,trivial⟩
  have HT:=hZq HO1.out.texts
  have HS:=hZq (Try.slices_SortFunc_none (α:=List UInt8) p c (.func (.func 48) #[] #[]) w1)
  have HK:=hZq (Try.slices_Compact_string_empty p c w1)
  have H0:=hZq h0
  clear h0
  go_wp2_with fail
  refine HS.out.mono ?_
  rintro e w' ⟨rfl,rfl⟩
  go_wp2_with fail
  refine HK.out.mono ?_
  rintro e w' ⟨rfl,rfl⟩
  go_wp2_with fail
  go_ret
  exact⟨_,rfl,by rw [hr.out]; have:=HT.out; rw [H0.out] at this; exact this,HB1.out⟩
 ·have hv:v1 ≠ .slice none 0 0:=by
   intro e
   obtain⟨p,c,e',_⟩:=HO1.out.texts
   rw [e'] at e
   simp only [Value.slice.injEq] at e
   exact h0 (List.length_eq_zero_iff.1 e.2.1)
  obtain⟨g,c,rfl,hg1,hg2,hn,hc,_,hH⟩:=holds_of_ownsRow (zs:=ls ++ ms) (HO1.out:World.ownsRow _ _ _ _ _ _ _) hv
  have hg1':w.heap.size+1≤g:=by simpa using hg1
  have HS:=hZq (Try.slices_SortFunc_total encS (fun _ => rfl) idCmp idSWO 48 #[] g 0 c (ls ++ ms).toArray w1 eg (compare_lays g 0 _ w1) hH hg2 (by simp; omega) idTot)
  have hlen:(ls ++ ms).length=ls.length+ms.length:=List.length_append
  simp only [List.size_toArray,hlen] at HS
  have HH:=hZq hH
  rw [hlen] at hn
  clear eg hH hg1 hv h0 hlen
  go_wp2_with fail
  refine HS.out.mono ?_
  rintro e w2 ⟨rfl,nn,os,hw2⟩
  have hDl:Hid (Holds encS w2 g 0 ((ls ++ ms).mergeSort fun x y => !(ltOf idCmp) y x).toArray):=by
   show Holds _ _ _ _ _
   rw [hw2]
   exact sorted_row HH.out hg2 (by simp)
  have HB2:Hid (Below w.heap.size w w2):=by
   show Below _ _ _
   rw [hw2]
   exact sorted_below HB1.out (by omega) (by omega)
  have hg3:Hid (g < w2.heap.size):=by
   show g < _
   rw [hw2]
   simp only [sortWorld,grow,Array.size_append,putRow,mapBlock,Array.size_modify,Sort.ahead]
   omega
  have hsl:((ls ++ ms).mergeSort fun x y => !(ltOf idCmp) y x).length=ls.length+ms.length:=by simp
  obtain⟨d,hd⟩ : ∃ d,d=((ls ++ ms).mergeSort fun x y => !(ltOf idCmp) y x).toArray:=⟨_,rfl⟩
  have hds:d.size=ls.length+ms.length:=by rw [hd]; simp
  have HM:Hid (compactUpTo d d.size=mrg (ls ++ ms)):=by show _=_; rw [hd]; exact sort_compact _
  rw [← hd] at hDl
  have HK:=hZq (Try.slices_Compact encS encS_cell eql_S neq_S [] (fun _ => by kernel_rfl) g 0 c d w2 hDl.out (by omega) (by omega))
  have hcl:=compact_len d
  rw [HM.out] at HK hcl
  rw [hds] at HK
  have HT:Hid (∀ q,Texts (putRow encS (Sort.ahead w2 q) g 0 (mrg (ls ++ ms) ++ List.replicate (d.size - (mrg (ls ++ ms)).length) []).toArray) (.slice (some ⟨g,0,none⟩) (mrg (ls ++ ms)).length c) (mrg (ls ++ ms))) :=
   fun q => compact_texts hDl.out hg3.out (by omega) hc hcl
  rw [hds] at HT
  clear hw2 hd hds hsl HM HS hDl hcl HH
  obtain⟨r,hr⟩ : ∃ r,mrg (ls ++ ms)=r:=⟨_,rfl⟩
  rw [hr] at HK HT
  have HR:=hZq hr
  clear hr
  go_wp2_with fail
  refine HK.out.mono ?_
  rintro e w3 ⟨rfl,q,hw3⟩
  have HT3:=HT.out q
  rw [← hw3] at HT3
  have HB3:Hid (Below w.heap.size w w3):=by
   show Below _ _ _
   rw [hw3]
   exact below_putRow HB2.out (by omega)
  have HT3':=hZq HT3
  clear hw3 HT3 HK HT
  go_wp2_with fail
  go_ret
  exact⟨_,rfl,by rw [HR.out]; exact HT3'.out,HB3.out⟩
end
section
open Go.RowKit

def RowT (w:World) (B:Nat) (u:List (List UInt8)):Prop:=∀ j,j < u.length→w.cell? ⟨B,j,none⟩=some (encS (u.getD j []))∧w.frozen? ⟨B,j,none⟩=false

theorem RowT.set {w:World} {B:Nat} {u:List (List UInt8)} (h:RowT w B u) (j:Nat) (x:List UInt8) (hj:j < u.length):RowT (w.setCell ⟨B,j,none⟩ (encS x)) B (u.set j x):=by
 intro i hi
 have hi':i < u.length:=by simpa using hi
 refine ⟨?_,(World.frozen?_setCell w _ _ _).trans (h i hi').2⟩
 by_cases hij:i=j
 ·subst hij
  rw [World.cell?_setCell_same _ _ _ (h i hj).1]
  simp [List.getD,hj]
 ·rw [World.cell?_setCell_other _ _ _ _ (by simp),(h i hi').1]
  simp [List.getD,show ¬ j=i by omega]

theorem RowT.later {w w':World} {B:Nat} {u:List (List UInt8)} (h:RowT w B u) (hB:B < w.heap.size) (hb:Below w.heap.size w w'):RowT w' B u:=fun j hj =>
 ⟨(hb.cell (p:=⟨B,j,none⟩) hB).trans (h j hj).1,(hb.frozen (p:=⟨B,j,none⟩) hB).trans (h j hj).2⟩

theorem RowT.texts {w:World} {B:Nat} {u:List (List UInt8)} (h:RowT w B u) (hB:B < w.heap.size) (hl:u.length≤4294967296):Texts w (.slice (some ⟨B,0,none⟩) u.length u.length) u :=
 ⟨_,u.length,rfl,Nat.le_refl _,by unfold maxLen; omega,(fun e => by cases e),.inr ⟨B,0,rfl,hB,fun i hi => by rw [Nat.zero_add]; exact (h i hi).1⟩⟩

def ctsAt (t:List Row) (k:Nat):List (List UInt8):=(cts t).take k ++ List.replicate (t.length - k) []

theorem madeTexts (n:Nat):(madeCells (Value.string ⟨#[]⟩).cells (n * 1)).toList=List.replicate n (encS []):=by
 rw [Nat.mul_one]
 exact toList_madeCells_one _ n

theorem wpList_make_texts {w:World} {ops:Array Oper} {rest:List Oper} {o:Oper} {a:Act} {Q:Exit→Act→World→Prop}
  (hg:o.guard=none) (l c:Operand) (hop:o.op=Op.makeSlice 101 l c)
  (L C:Int) (n:Nat) (hl:a.eval l=.int .i64 L) (hc:a.eval c=.int .i64 C) (hL:L=(n:Int)) (hC:C=(n:Int)) (hn:n≤4294967296)
  (hK:∀ w',RowT w' w.heap.size (List.replicate n [])→Below w.heap.size w w'→w.heap.size < w'.heap.size→wpList Try.prog ops Q rest (a.put o.dst (.slice (some ⟨w.heap.size,0,none⟩) n n)) w') :
  wpList Try.prog ops Q (o :: rest) a w:=by
 obtain⟨i,hi,hz,hsize,hby⟩:=info_parts Try.infoStr
 refine wpList_make_full w hg l c _ hop w.heap.size 9 i _ 1 Try.underlying101 hi hz hsize .i64 .i64 L C n hl hc hL hC (by rw [hby]; omega) (by unfold maxLen; omega) (Nat.le_refl _) ?_
 intro w' hown hgrow
 refine hK w' (fun j hj => ?_) ((Below.refl _ _).grown hgrow (Nat.le_refl _) (fun k hk => by simp at hk)) (hown.lt w.heap.size rfl).2
 have hj':j < n:=by simpa using hj
 refine ⟨?_,hown.frozenAt j⟩
 rw [hown.cellAt j (by omega),madeTexts]
 simp [List.getD,hj']
end
section
open Go.RowKit Go.ChangeMaps Go.MapKept

def seenData (r:Row):DataW Unit:=.agg [.lit (.string r.c),.lit (.int .i64 r.v.sh),.lit (.int .i64 r.v.pr),.lit (.int .i64 r.v.si),.lit (.string r.v.st)]

def seenElem:Value→Option (DataW Unit × List MemPlace)
 | .agg cs => match cs.toList with
  | [.string c,.int .i64 x,.int .i64 y,.int .i64 z,.string s] => some (seenData ⟨c.data.toList,x,y,z,s.data.toList⟩,[])
  | _ => none
 | _ => none

def firstRow (t:List Row) (x:List UInt8):Row:=if (diGet t x).2=true then ⟨x,(diGet t x).1⟩ else Row.zero

def FirstsAt (w:World) (B:Nat) (t:List Row):Prop :=
 ∃ n,∃ D:DataW Unit,n≤t.length∧w.ownsMap Try.prog 9 seenElem B n D ∧
  ∀ x:List UInt8,Maps.has D (.string x)=(diGet t x).2∧D.atKey (.string x) (seenData Row.zero)=seenData (firstRow t x)

theorem FirstsAt.lt {w:World} {B:Nat} {t:List Row} (h:FirstsAt w B t):B < w.heap.size:=by
 obtain⟨_,_,_,h,_⟩:=h
 exact h.lt

theorem FirstsAt.later {w w':World} {B:Nat} {t:List Row} (h:FirstsAt w B t) (hb:Below w.heap.size w w'):FirstsAt w' B t:=by
 have hlt:=h.lt
 obtain⟨n,D,h1,⟨es,clock,h2,h3,h4,h5⟩,h6⟩:=h
 exact⟨n,D,h1,⟨es,clock,(hb.block B hlt).trans h2,h3,h4,h5⟩,h6⟩

theorem key_at (x:List UInt8) (h:x.length≤4294967296):keyOf Try.prog 9 (.string ⟨x.toArray⟩)=some (.string x) :=
 WideMaps.keyOf_string_mk Try.underlying9 (by rw [size_bytes]; unfold maxLen; omega)

theorem diGet_snoc (t:List Row) (r:Row) (x:List UInt8):diGet (t ++ [r]) x=if (diGet t x).2=true then diGet t x else (if r.c=x then (r.v,true) else (Val.zero,false)):=by
 rw [diGet_append]
 rfl

theorem FirstsAt.old {w:World} {B:Nat} {t:List Row} (h:FirstsAt w B t) (r:Row) (hr:(diGet t r.c).2=true):FirstsAt w B (t ++ [r]):=by
 obtain⟨n,D,h1,h2,h3⟩:=h
 have key:∀ x,diGet (t ++ [r]) x=diGet t x:=fun x => by
  rw [diGet_snoc]
  by_cases hx:(diGet t x).2=true
  ·rw [if_pos hx]
  ·rw [if_neg hx]
   have:¬ r.c=x:=fun e => hx (by rw [← e]; exact hr)
   rw [if_neg this]
   exact ((diGet_zero t x).resolve_left hx).symm
 refine ⟨n,D,by simp; omega,h2,fun x => ?_⟩
 unfold firstRow
 rw [key x]
 exact h3 x
end
section
open Go.RowKit

def Chg.zero:Chg:=⟨[],false,Val.zero⟩

def chgVals (r:Chg):List Value:=[.string ⟨r.c.toArray⟩,.bool r.on,.int .i64 r.v.sh,.int .i64 r.v.pr,.int .i64 r.v.si,.string ⟨r.v.st.toArray⟩]

def Cells6 (w:World) (b o:Nat) (r:Chg):Prop :=
 w.cell? ⟨b,o,none⟩=some (.string ⟨r.c.toArray⟩)∧w.cell? ⟨b,o+1,none⟩=some (.bool r.on)∧w.cell? ⟨b,o+2,none⟩=some (.int .i64 r.v.sh)∧w.cell? ⟨b,o+3,none⟩=some (.int .i64 r.v.pr) ∧
  w.cell? ⟨b,o+4,none⟩=some (.int .i64 r.v.si)∧w.cell? ⟨b,o+5,none⟩=some (.string ⟨r.v.st.toArray⟩)

theorem Cells6.later {w w':World} {b o:Nat} {r:Chg} (h:Cells6 w b o r) (hb:Below w.heap.size w w') (hlt:b < w.heap.size):Cells6 w' b o r:=by
 obtain⟨h0,h1,h2,h3,h4,h5⟩:=h
 have k:∀ o,w'.cell? ⟨b,o,none⟩=w.cell? ⟨b,o,none⟩:=fun o => hb.cell (p:=⟨b,o,none⟩) hlt
 exact⟨(k _).trans h0,(k _).trans h1,(k _).trans h2,(k _).trans h3,(k _).trans h4,(k _).trans h5⟩

def Chgs (w:World) (v:Value) (t:List Chg):Prop :=
 ∃ a cap,v=.slice a t.length cap∧t.length≤cap∧cap≤maxLen∧(a=none→cap=0) ∧
  (t=[]∨∃ b off,a=some ⟨b,off,none⟩∧b < w.heap.size∧∀ i,i < t.length→Cells6 w b (off+i * 6) (t.getD i Chg.zero))

theorem Chgs.later {w w':World} {v:Value} {t:List Chg} (h:Chgs w v t) (hb:Below w.heap.size w w'):Chgs w' v t:=by
 obtain⟨a,cap,h1,h2,h3,h4,h5⟩:=h
 refine ⟨a,cap,h1,h2,h3,h4,?_⟩
 rcases h5 with h5 | ⟨b,off,e,hlt,hc⟩
 ·exact .inl h5
 ·exact .inr ⟨b,off,e,Nat.lt_of_lt_of_le hlt hb.size,fun i hi => (hc i hi).later hb hlt⟩

theorem chgs_nil (w:World):Chgs w (.slice none 0 0) []:=⟨none,0,rfl,by simp,by simp,fun _ => rfl,.inl rfl⟩

theorem Chgs.row {w wr:World} {a:Option Addr} {n cap:Nat} {t:List Chg} (h:Chgs w (.slice a n cap) t) (hb:Below w.heap.size w wr) (k:Nat) (hk:k < t.length) :
  ∃ b off,a=some ⟨b,off,none⟩∧Cells6 wr b (off+k * 6) (t.getD k Chg.zero):=by
 obtain⟨a',cap',e,_,_,_,h⟩:=h.later hb
 simp only [Value.slice.injEq] at e
 rcases h with h | ⟨b,off,e',_,hc⟩
 ·rw [h] at hk; simp at hk
 ·exact⟨b,off,e.1.trans e',hc k hk⟩

theorem Chgs.open' {w:World} {v:Value} {t:List Chg} (h:Chgs w v t):∃ a cap,v=.slice a t.length cap∧t.length≤9223372036854775807:=by
 obtain⟨a,cap,e,h1,h2,_⟩:=h
 unfold maxLen at h2
 exact⟨a,cap,e,by omega⟩

def cellsOfC (t:List Chg):List Value:=(t.map chgVals).flatten

theorem cellsOfC_cons (r:Chg) (t:List Chg):cellsOfC (r :: t)=chgVals r ++ cellsOfC t:=rfl
theorem chgVals_len (r:Chg):(chgVals r).length=6:=rfl

theorem cellsOfC_at:∀ (t:List Chg) (i j:Nat),i < t.length→j < 6→(cellsOfC t)[i * 6+j]?=(chgVals (t.getD i Chg.zero))[j]?
 | [],i,j,h,_ => by simp at h
 | r :: t,0,j,_,hj => by
  rw [cellsOfC_cons,Nat.zero_mul,Nat.zero_add,List.getElem?_append_left (by rw [chgVals_len]; exact hj)]
  rfl
 | r :: t,i+1,j,h,hj => by
  rw [cellsOfC_cons,List.getElem?_append_right (by rw [chgVals_len]; omega),chgVals_len,show (i+1) * 6+j - 6=i * 6+j by omega,cellsOfC_at t i j (by simpa using h) hj]
  rfl

theorem cells6_of {w:World} {b o:Nat} {r:Chg} (h:∀ j u,(chgVals r)[j]?=some u→w.cell? ⟨b,o+j,none⟩=some u):Cells6 w b o r :=
 ⟨h 0 _ rfl,h 1 _ rfl,h 2 _ rfl,h 3 _ rfl,h 4 _ rfl,h 5 _ rfl⟩

def OwnC (w:World) (base:Nat) (v:Value) (t:List Chg):Prop:=w.ownsRow base 42 6 v t.length (cellsOfC t)

theorem OwnC.alloc {w:World} {base:Nat} {v:Value} {t:List Chg} (h:OwnC w base v t) (o:Obj):OwnC (w.alloc o) base v t:=World.ownsRow.alloc h o

theorem OwnC.later {w w':World} {base:Nat} {v:Value} {t:List Chg} (h:OwnC w base v t) (hb:Below w.heap.size w w'):OwnC w' base v t:=by
 refine ⟨h.1,?_⟩
 rcases h.2 with h' | ⟨g,cap,cur,h1,h2,h3,h4⟩
 ·exact .inl h'
 ·exact .inr ⟨g,cap,cur,h1,h2,by rw [hb.block g (Array.getElem?_eq_some_iff.1 h3).1]; exact h3,h4⟩

theorem OwnC.chgs {w:World} {base:Nat} {v:Value} {t:List Chg} (h:OwnC w base v t):Chgs w v t:=by
 rcases h with ⟨_,⟨rfl,h0⟩ | ⟨g,cap,cur,rfl,hb,hg,hn,hc,hsz,htk⟩⟩
 ·obtain rfl:t=[]:=List.length_eq_zero_iff.1 h0
  exact chgs_nil w
 ·refine ⟨some ⟨g,0,none⟩,cap,rfl,hn,hc,(fun e => by cases e),.inr ⟨g,0,rfl,(Array.getElem?_eq_some_iff.1 hg).1,fun i hi => ?_⟩⟩
  refine cells6_of fun j u hu => ?_
  have hj:j < 6:=by have:=(List.getElem?_eq_some_iff.1 hu).1; rwa [chgVals_len] at this
  rw [Nat.zero_add,cell_of_row w g (i * 6+j) cur _ (0,0) hg]
  have h1:cur.toList[i * 6+j]?=(cellsOfC t)[i * 6+j]?:=by
   rw [← htk,List.getElem?_take,if_pos (by omega)]
  rw [← hu,← cellsOfC_at t i j hi hj,← h1]
  simp

theorem Try.infoChange:(Try.prog.info? 42).map (fun i => (i.zero,i.size,i.bytes))=some (some (.agg #[.string ⟨#[]⟩,.bool false,.int .i64 0,.int .i64 0,.int .i64 0,.string ⟨#[]⟩]),6,64):=by kernel_rfl
end
section
open Go.RowKit

def lay {α:Type} (u:List α) (o:Nat) (ms:List α):List α:=u.take o ++ (ms ++ u.drop (o+ms.length))

theorem cellsOf_take (u:List Row) (o:Nat):(cellsOf u).take (o * 5)=cellsOf (u.take o):=by
 have h:=cellsOf_append (u.take o) (u.drop o)
 rw [List.take_append_drop] at h
 rw [h]
 by_cases ho:o≤u.length
 ·rw [List.take_left' (by rw [cellsOf_len,List.length_take]; omega)]
 ·have e1:u.drop o=[]:=List.drop_of_length_le (by omega)
  have e2:u.take o=u:=List.take_of_length_le (by omega)
  rw [e1,e2,cellsOf_nil,List.append_nil,List.take_of_length_le (by rw [cellsOf_len]; omega)]

theorem cellsOf_drop (u:List Row) (o:Nat):(cellsOf u).drop (o * 5)=cellsOf (u.drop o):=by
 have h:=cellsOf_append (u.take o) (u.drop o)
 rw [List.take_append_drop] at h
 by_cases ho:o≤u.length
 ·rw [h,List.drop_left' (by rw [cellsOf_len,List.length_take]; omega)]
 ·have e1:u.drop o=[]:=List.drop_of_length_le (by omega)
  rw [e1,cellsOf_nil,List.drop_of_length_le (by rw [cellsOf_len]; omega)]

theorem OwnR.head {w:World} {base g n cap:Nat} {u:List Row} (h:OwnR w base (.slice (some ⟨g,0,none⟩) n cap) u):n=u.length∧base≤g∧g < w.heap.size∧n≤cap∧cap≤maxLen∧∃ cur:Array Value,w.heap[g]?=some (.cells cur 55 (0,0))∧cur.size=cap * 5:=by
 rcases h with ⟨_,⟨h',_⟩ | ⟨g',cap',cur,h',hb,hg,hnc,hcm,hcs,_⟩⟩
 ·simp at h'
 ·simp only [Value.slice.injEq,Option.some.injEq,Addr.mk.injEq,and_true] at h'
  obtain⟨rfl,h2,rfl⟩:=h'
  exact⟨h2,hb,(Array.getElem?_eq_some_iff.1 hg).1,by omega,hcm,cur,hg,hcs⟩

theorem OwnR.cellAt {w:World} {base g n cap:Nat} {u:List Row} (h:OwnR w base (.slice (some ⟨g,0,none⟩) n cap) u) (j:Nat) (hj:j < u.length * 5):w.cell? ⟨g,j,none⟩=(cellsOf u)[j]?:=by
 have hn:=h.head.1
 subst hn
 exact World.ownsRow.cellAt h j hj

theorem OwnR.frozenAt {w:World} {base g n cap:Nat} {u:List Row} (h:OwnR w base (.slice (some ⟨g,0,none⟩) n cap) u) (j:Nat):w.frozen? ⟨g,j,none⟩=false:=by
 have hn:=h.head.1
 subst hn
 exact World.ownsRow.frozenAt h j

def SrcR (w:World) (ad:Addr) (ms:List Row):Prop:=∀ j u,(cellsOf ms)[j]?=some u→w.cell? (ad.add j)=some u

theorem OwnR.src {w:World} {base g n cap:Nat} {u:List Row} (h:OwnR w base (.slice (some ⟨g,0,none⟩) n cap) u) (o k:Nat) (hk:o+k≤u.length):SrcR w ⟨g,o * 5,none⟩ ((u.drop o).take k):=by
 intro j x hx
 have hj:=(List.getElem?_eq_some_iff.1 hx).1
 rw [cellsOf_len,List.length_take,List.length_drop] at hj
 rw [Addr.add_lit,h.cellAt _ (by omega),← hx]
 rw [← cellsOf_take,← cellsOf_drop,List.getElem?_take,if_pos (by omega),List.getElem?_drop]
end
section
open Go.RowKit

def Found (t:List Row) (key:List UInt8) (n:Int):Prop :=
 (∃ k:Nat,k < t.length∧n=k∧(t.getD k Row.zero).c=key∧∀ j,j < k→¬ (t.getD j Row.zero).c=key)∨(n=-1∧∀ j,j < t.length→¬ (t.getD j Row.zero).c=key)

theorem OwnR.row {w:World} {base g n cap:Nat} {u:List Row} (h:OwnR w base (.slice (some ⟨g,0,none⟩) n cap) u) {k:Nat} (hk:k < u.length):Cells5 w g (k * 5) (u.getD k Row.zero):=by
 refine cells5_of fun j x hx => ?_
 have hj:j < 5:=by have:=(List.getElem?_eq_some_iff.1 hx).1; rwa [rowVals_len] at this
 rw [h.cellAt _ (by omega),cellsOf_at u k j hk hj,hx]

def DelAt (t u:List Row) (key:List UInt8) (i j:Nat):Prop:=u.length=t.length∧i < j∧j≤t.length∧u.take i=diRest (t.take j) key∧u.drop j=t.drop j
end
section
open Go.RowKit

theorem Tab.src {w:World} {ad:Addr} {n cap:Nat} {t:List Row} (h:Tab w (.slice (some ad) n cap) t):SrcR w ad t:=by
 obtain⟨a',cap',e,_,_,_,h⟩:=h
 simp only [Value.slice.injEq] at e
 intro j u hu
 have hj:=(List.getElem?_eq_some_iff.1 hu).1
 rw [cellsOf_len] at hj
 rcases h with h | ⟨b,off,e',_,hc⟩
 ·rw [h] at hj; simp at hj
 ·have e2:=e.1.trans e'
  injection e2 with e2
  subst e2
  have hd:j=j / 5 * 5+j % 5:=by omega
  rw [hd,cellsOf_at t (j / 5) (j % 5) (by omega) (by omega)] at hu
  have:=cells5_get (hc (j / 5) (by omega)) (j % 5) u hu
  rw [Addr.add_lit,hd,← Nat.add_assoc]
  exact this

theorem eql_nil_some (w:World) (x:Addr) (n c:Nat):(binOp .eql 47 (.slice (some x) n c) (.slice none 0 0)).run Try.prog w=.ok (.bool false) w:=by
 rw [Lib.run_eql_slice_nil w _ _ _ _ _ _ _ Try.underlying47]
 rfl

theorem eql_nil_nil (w:World) (n c:Nat):(binOp .eql 47 (.slice none n c) (.slice none 0 0)).run Try.prog w=.ok (.bool true) w:=by
 rw [Lib.run_eql_slice_nil w _ _ _ _ _ _ _ Try.underlying47]
 rfl

theorem clone_any {w:World} {v:Value} {t:List Row} (hv:Tab w v t) (hl:t.length≤4294967) :
  Calls Try.prog 49 #[v] w fun e w' => ∃ u,e=.returned u∧OwnR w' w.heap.size u t∧Below w.heap.size w w':=by
 have HV:=hZq hv
 obtain⟨a,cap,rfl,h1,h2,h3,h4⟩:=hv
 cases a with
 | none =>
  obtain rfl:cap=0:=h3 rfl
  obtain rfl:t=[]:=List.length_eq_zero_iff.1 (by omega)
  have heq:=fun w => eql_nil_nil w 0 0
  clear h4
  go_enter Try.func49,Try.ntmps49
  go_wp2_with fail
  go_ret
  exact⟨_,rfl,ownR_nil _ _,Below.refl _ _⟩
 | some x =>
  have HS:=hZq (HV.out.later ((Below.refl _ _).alloc (Nat.le_refl _) (.cells #[] 55))).src
  have heq:=fun w => eql_nil_some w x t.length cap
  clear h4 h3
  go_enter Try.func49,Try.ntmps49
  go_wp2_with (at_builtin; go_must (refine wpList_append_rows rfl _ _ rfl w.heap.size _ [] rfl (by exact ownR_made w) (some x) t.length cap t rfl rfl (fun e => nomatch e) ?c1 (by simp only [List.length_nil]; omega) (by simp) ?_))
  case c1 => intro ad had; obtain rfl:=Option.some.inj had; exact HS.out
  intro v' w' ho' hb'
  have O:=hZq ho'
  have hbB:Hid (Below w.heap.size w w'):=((Below.refl w.heap.size w).alloc (Nat.le_refl _) _).trans hb'
  clear ho' hb'
  go_wp2_with fail
  go_ret
  exact⟨_,rfl,by have:=O.out; simpa using this,hbB.out⟩
end
section
open Go.RowKit

def Lone (w:World) (B:Nat) (r:Row):Prop:=w.heap[B]?=some (.cells #[.string ⟨r.c.toArray⟩,.int .i64 r.v.sh,.int .i64 r.v.pr,.int .i64 r.v.si,.string ⟨r.v.st.toArray⟩] 55 (0,0))

theorem Lone.later {w w':World} {B:Nat} {r:Row} (h:Lone w B r) (hb:Below w.heap.size w w'):Lone w' B r :=
 (hb.block B (Array.getElem?_eq_some_iff.1 h).1).trans h

theorem Lone.lt {w:World} {B:Nat} {r:Row} (h:Lone w B r):B < w.heap.size:=(Array.getElem?_eq_some_iff.1 h).1

theorem Lone.src {w:World} {B:Nat} {r:Row} (h:Lone w B r):SrcR w ⟨B,0,none⟩ [r]:=by
 intro j u hu
 rw [cellsOf_one] at hu
 rw [Addr.add_lit,Nat.zero_add,cell_of_row w B j _ _ (0,0) h,← hu]
 simp [rowVals]

theorem Lone.free {w:World} {B:Nat} {r:Row} (h:Lone w B r) (j:Nat):w.frozen? ⟨B,j,none⟩=false:=frozen_of_row w B j _ _ h

def put1 (t:List Row) (i:Nat) (r:Row):List Row:=t.take i ++ ([r] ++ t.drop i)

theorem ownR_low {w:World} {base base':Nat} {v:Value} {t:List Row} (h:OwnR w base v t) (hb:base'≤base):OwnR w base' v t:=by
 refine ⟨h.1,?_⟩
 rcases h.2 with h' | ⟨g,cap,cur,h1,h2,h3⟩
 ·exact .inl h'
 ·exact .inr ⟨g,cap,cur,h1,by omega,h3⟩
end
section
open Go.RowKit

def OwnC5 (w:World) (base g n cap:Nat) (xs:List Value):Prop:=w.ownsRow base 55 5 (.slice (some ⟨g,0,none⟩) n cap) n xs

theorem OwnC5.head {w:World} {base g n cap:Nat} {xs:List Value} (h:OwnC5 w base g n cap xs):base≤g∧xs.length=n * 5∧∃ cur:Array Value,w.heap[g]?=some (.cells cur 55 (0,0))∧cur.size=cap * 5:=by
 rcases h with ⟨h0,⟨h',_⟩ | ⟨g',cap',cur,h',hb,hg,hnc,hcm,hcs,_⟩⟩
 ·simp at h'
 ·simp only [Value.slice.injEq,Option.some.injEq,Addr.mk.injEq,and_true,true_and] at h'
  obtain⟨rfl,rfl⟩:=h'
  exact⟨hb,h0,cur,hg,hcs⟩

theorem OwnC5.drew {w:World} {base g n cap:Nat} {xs:List Value} (h:OwnC5 w base g n cap xs):OwnC5 w.drew base g n cap xs:=World.ownsRow.drew h

theorem OwnC5.rows {w:World} {base g cap n:Nat} {t:List Row} (h:OwnC5 w base g n cap (cellsOf t)) (hn:n=t.length):OwnR w base (.slice (some ⟨g,0,none⟩) n cap) t:=by
 subst hn
 exact h
end
end Go.Proofs.Ytfocooajnignbaa
