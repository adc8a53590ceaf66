/-
 TEXTS OF THE PROOF, one behind the other: DigInsR, IdRow, IdDoc, IdRput, IdRmerge, IdConcat, IdMerge, DigCts, DigSet, DigFrame, CrcPure, FraPure, FraFrame, CliFrame, QuePure, DigMap, DigChgs, Seq.
-/
import Derived.Test.YtmpigdokghngiaaGreatP03
import Derived.Laws.Externs
import Derived.Test.YtmpigdokghngiaaGreatP01
import Derived.Laws.AppendOwnNone
import Derived.Laws.OwnMore
import Derived.Test.YtmpigdokghngiaaGreatProg
import Derived.Lib.Hide
import Derived.Lib.AppendZeros
import Derived.OwnWalk
import Derived.BigQuiet
import Derived.Deep.DeepMust
import Derived.Lib.OwnBridge
import Derived.ProofKit
import Derived.OpenShut
import Derived.Lib.SmallJoins
import Derived.Deep.Slices
import Derived.Deep.Fields
import Derived.ChangeSame
import Derived.Maps.OwnSet
import Derived.Laws.IdiomCopy
import Derived.Lib.AppendZerosOnto
import Derived.Lib.Overlaps
import Derived.Deep.RegionLaw
import Derived.Lib.SliceRun

set_option maxHeartbeats 12800000
set_option maxRecDepth 100000

namespace Go.Proofs.YtmpigdokghngiaaGreat
section
open Go.RowKit

theorem Tryz.sizeSeen (w:World):(Go.sizeOf 73).run Tryz.prog w=.ok 5 w:=by
 obtain⟨i,hi,hz,hsize,hby⟩:=info_parts Tryz.infoSeen
 simp [sizeOf,typeInfo,hi,hsize]

def OwnC5 (w:World) (base g n cap:Nat) (xs:List Value):Prop:=w.ownsRow base 73 5 (.slice (some ⟨g,0,none⟩) n cap) n xs

theorem OwnC5.head {w:World} {base g n cap:Nat} {xs:List Value} (h:OwnC5 w base g n cap xs):base≤g∧xs.length=n * 5∧∃ cur:Array Value,w.heap[g]?=some (.cells cur 73 (0,0))∧cur.size=cap * 5:=by
 rcases h with ⟨h0,⟨h',_⟩ | ⟨g',cap',cur,h',hb,hg,hnc,hcm,hcs,_⟩⟩
 ·simp at h'
 ·simp only [Value.slice.injEq,Option.some.injEq,Addr.mk.injEq,and_true,true_and] at h'
  obtain⟨rfl,rfl⟩:=h'
  exact⟨hb,h0,cur,hg,hcs⟩

theorem OwnC5.someAt {w:World} {base g n cap:Nat} {xs:List Value} (h:OwnC5 w base g n cap xs) (j:Nat) (hj:j < n * 5):(w.cell? ⟨g,j,none⟩).isSome=true:=by
 rw [World.ownsRow.cellAt h j hj,List.getElem?_eq_getElem (by rw [h.head.2.1]; exact hj)]
 rfl

theorem run_copy_raw {w:World} (base g n cap:Nat) (xs:List Value) (h:OwnC5 w base g n cap xs) (o dl dc:Nat) (ad:Addr) (sl sc:Nat) (ms:List Row) (hn:ms.length=Nat.min sl dl) (hsrc:SrcR w ad ms) (ho:o+ms.length≤n) (ty:TypeId) :
  (Builtin.copy_ #[31,31] ty #[.slice (some ⟨g,o * 5,none⟩) dl dc,.slice (some ad) sl sc]).run Tryz.prog w=.ok (goInt ms.length) (w.setCells g (o * 5) (cellsOf ms)):=by
 obtain⟨i,hi,hz,hsize,hby⟩:=info_parts Tryz.infoSeen
 have hl:=run_loadCells_list (P:=Tryz.prog) w ad (cellsOf ms) hsrc
 rw [cellsOf_len] at hl
 have hst:=run_storeCells_cells (P:=Tryz.prog) g (o * 5) (cellsOf ms) 0 w (fun j hj => by
  rw [cellsOf_len] at hj
  exact h.someAt _ (by omega)) (fun j _ => World.ownsRow.frozenAt h _) (cellsOf_single ms)
 rw [Nat.add_zero] at hst
 simp [Builtin.copy_,run_underlying Tryz.underlying31,Builtin.lenOf,Builtin.firstCells,sizeOf,typeInfo,hi,hsize,← hn,hl,hst]

theorem wp_copy_raw {w:World} {o:Oper} {a:Act} {K:Act→World→Prop} {Q:Exit→Act→World→Prop} (d s:Operand)
  (ho:o.op=.call { callee:=.builtin .copy,args:=#[d,s],argTypes:=#[31,31] })
  (base g n cap:Nat) (xs:List Value) (h:OwnC5 w base g n cap xs) (p dl dc:Nat) (ad:Addr) (sl sc:Nat)
  (hd:a.eval d=.slice (some ⟨g,p * 5,none⟩) dl dc) (hs:a.eval s=.slice (some ad) sl sc) (ms:List Row) (hn:ms.length=Nat.min sl dl) (hsrc:SrcR w ad ms) (hp:p+ms.length≤n)
  (hK:∀ w',OwnC5 w' base g n cap (lay xs (p * 5) (cellsOf ms))→Below g w w'→(∀ x:Addr,x.block ≠ g→w'.cell? x=w.cell? x)→K (a.put o.dst (goInt ms.length)) w'):o.wp Tryz.prog a w K Q:=by
 have hr:=run_copy_raw base g n cap xs h p dl dc ad sl sc ms hn hsrc hp o.type
 unfold Oper.wp execOp
 simp only [ho,resolve,invoke,builtin,Sem.run_bind,Sem.run_pure,Result.andThen_ok,List.map_toArray,List.map_cons,List.map_nil,hd,hs,hr]
 refine hK _ (own_setCells _ _ _ _ h (by rw [cellsOf_len,h.head.2.1,← Nat.add_mul]; exact Nat.mul_le_mul_right _ hp)) (below_setCells (Nat.le_refl _) _ _ _ (Below.refl _ _)) (fun x hx => ?_)
 exact World.cell?_setCells_out g _ _ _ _ (fun hb _ => absurd hb hx)

theorem wpList_copy_raw {w:World} {ops:Array Oper} {rest:List Oper} {o:Oper} {a:Act} {Q:Exit→Act→World→Prop} (hgd:o.guard=none) (d s:Operand)
  (ho:o.op=.call { callee:=.builtin .copy,args:=#[d,s],argTypes:=#[31,31] })
  (base g n cap:Nat) (xs:List Value) (h:OwnC5 w base g n cap xs) (p dl dc:Nat) (ad:Addr) (sl sc:Nat)
  (hd:a.eval d=.slice (some ⟨g,p * 5,none⟩) dl dc) (hs:a.eval s=.slice (some ad) sl sc) (ms:List Row) (hn:ms.length=Nat.min sl dl) (hsrc:SrcR w ad ms) (hp:p+ms.length≤n)
  (hK:∀ w',OwnC5 w' base g n cap (lay xs (p * 5) (cellsOf ms))→Below g w w'→(∀ x:Addr,x.block ≠ g→w'.cell? x=w.cell? x)→wpList Tryz.prog ops Q rest (a.put o.dst (goInt ms.length)) w'):wpList Tryz.prog ops Q (o :: rest) a w :=
 wpList_plain hgd fun _ hK' => wp_copy_raw d s ho base g n cap xs h p dl dc ad sl sc hd hs ms hn hsrc hp fun w' h1 h2 h3 => hK' _ _ (hK w' h1 h2 h3)

theorem step_copy_raw {w:World} {ops:Array Oper} {o:Oper} {a:Act} {K:Act→World→Prop} {Q:Exit→Act→World→Prop} {E:Prop} (hgd:o.guard=none) (d s:Operand)
  (ho:o.op=.call { callee:=.builtin .copy,args:=#[d,s],argTypes:=#[31,31] })
  (base g n cap:Nat) (xs:List Value) (h:OwnC5 w base g n cap xs) (p dl dc:Nat) (ad:Addr) (sl sc:Nat)
  (hd:a.eval d=.slice (some ⟨g,p * 5,none⟩) dl dc) (hs:a.eval s=.slice (some ad) sl sc) (ms:List Row) (hn:ms.length=Nat.min sl dl) (hsrc:SrcR w ad ms) (hp:p+ms.length≤n)
  (hK:∀ w',OwnC5 w' base g n cap (lay xs (p * 5) (cellsOf ms))→Below g w w'→(∀ x:Addr,x.block ≠ g→w'.cell? x=w.cell? x)→K (a.put o.dst (goInt ms.length)) w') :
  if Region.wanted o (yielded ops a.tmps)=true then Oper.wp Tryz.prog o a w K Q else E:=by
 have hw:Region.wanted o (yielded ops a.tmps)=true:=by simp [Region.wanted,hgd]
 rw [if_pos hw]
 exact wp_copy_raw d s ho base g n cap xs h p dl dc ad sl sc hd hs ms hn hsrc hp hK

theorem OwnC5.drew {w:World} {base g n cap:Nat} {xs:List Value} (h:OwnC5 w base g n cap xs):OwnC5 w.drew base g n cap xs:=World.ownsRow.drew h

theorem own_wider {w:World} {base g cap:Nat} {t:List Row} (h:OwnR w base (.slice (some ⟨g,0,none⟩) t.length cap) t) (hc:t.length < cap):∃ z:List Value,z.length=5∧OwnC5 w base g (t.length+1) cap (cellsOf t ++ z):=by
 rcases h with ⟨h0,⟨h',_⟩ | ⟨g',cap',cur,h',hb,hg,hnc,hcm,hcs,htk⟩⟩
 ·simp at h'
 ·simp only [Value.slice.injEq,Option.some.injEq,Addr.mk.injEq,and_true,true_and] at h'
  obtain⟨rfl,rfl⟩:=h'
  have hlen:cur.toList.length=cap * 5:=by rw [Array.length_toList]; exact hcs
  have e:cur.toList.take ((t.length+1) * 5)=cellsOf t ++ (cur.toList.drop (t.length * 5)).take 5:=by
   rw [← htk,show (t.length+1) * 5=t.length * 5+5 by omega,List.take_add]
  refine ⟨(cur.toList.drop (t.length * 5)).take 5,by rw [List.length_take,List.length_drop,hlen]; omega,?_,.inr ⟨g,cap,cur,rfl,hb,hg,by omega,hcm,hcs,e⟩⟩
  rw [← e,List.length_take,hlen]
  omega

theorem lay_room {t:List Row} {i:Nat} (hi:i < t.length) (r:Row) (z:List Value) (hz:z.length=5) :
  lay (lay (cellsOf t ++ z) ((i+1) * 5) (cellsOf (t.drop i))) (i * 5) (cellsOf [r])=cellsOf (put1 t i r):=by
 have e1:(cellsOf t ++ z).drop ((i+1) * 5+(cellsOf (t.drop i)).length)=[]:=by
  apply List.drop_of_length_le
  rw [List.length_append,cellsOf_len,cellsOf_len,List.length_drop,hz]
  omega
 have e2:lay (cellsOf t ++ z) ((i+1) * 5) (cellsOf (t.drop i))=(cellsOf t ++ z).take ((i+1) * 5) ++ cellsOf (t.drop i):=by
  unfold lay
  rw [e1,List.append_nil]
 have hl:((cellsOf t ++ z).take ((i+1) * 5)).length=(i+1) * 5:=by
  rw [List.length_take,List.length_append,cellsOf_len,hz]
  omega
 have e3:((cellsOf t ++ z).take ((i+1) * 5)).take (i * 5)=cellsOf (t.take i):=by
  rw [List.take_take,show min (i * 5) ((i+1) * 5)=i * 5 by omega,List.take_append_of_le_length (by rw [cellsOf_len]; omega),cellsOf_take]
 rw [e2]
 unfold lay put1
 rw [List.take_append_of_le_length (by rw [hl]; omega),e3,List.drop_left' (by rw [hl,cellsOf_len]; simp only [List.length_singleton]; omega)]
 rw [cellsOf_append,cellsOf_append]

theorem put1_len (t:List Row) (i:Nat) (r:Row):(put1 t i r).length=t.length+1:=by
 unfold put1
 rw [List.length_append,List.length_append,List.length_singleton,List.length_take,List.length_drop]
 omega

theorem OwnC5.rows {w:World} {base g cap n:Nat} {t:List Row} (h:OwnC5 w base g n cap (cellsOf t)) (hn:n=t.length):OwnR w base (.slice (some ⟨g,0,none⟩) n cap) t:=by
 subst hn
 exact h

theorem insert_room {w:World} {base g cap:Nat} {t:List Row} (ho:OwnR w base (.slice (some ⟨g,0,none⟩) t.length cap) t) (hl:t.length≤1000) {i:Nat} (hi:i < t.length) (hc:t.length < cap) (hcm:cap≤9223372036854775807) {B:Nat} {r:Row} (hr:Lone w B r) (hne:B ≠ g) :
  Calls Tryz.prog 167 #[.slice (some ⟨g,0,none⟩) t.length cap,.int .i64 i,.slice (some ⟨B,0,none⟩) 1 1] w fun e w' => ∃ u,e=.returned u∧OwnR w' base u (put1 t i r)∧Below base w w':=by
 obtain⟨z,hz,hw⟩:=own_wider ho hc
 have HO:=hZq hw
 have HS:=hZq hr.src
 have hin2:(i:Int)≤(t.length:Int)+1:=by omega
 have S0:Hid (SrcR w.drew ⟨g,i * 5,none⟩ (t.drop i)):=by
  show SrcR _ _ _
  intro j x hx
  exact ho.src i (t.length - i) (by omega) j x (by rw [List.take_of_length_le (by rw [List.length_drop]; omega)]; exact hx)
 have HE:=hZq (lay_room hi r z hz)
 have HG:=hZq ho.head.2.1
 have t0:((i:Int) == (t.length:Int))=false:=by simp; omega
 have t1:¬ cap=i:=by omega
 have t2:¬ cap=i+1:=by omega
 have hw1:IntKind.i64.wrap ((i:Int)+1)=(i:Int)+1:=IntWalk.i64_in _ (by omega)
 have htn:((i:Int)+1).toNat=i+1:=by omega
 have hb0:(0:Int)≤(i:Int)+1:=by omega
 have hin:i≤t.length:=by omega
 have hov:∀ lb cb,(callFunc 178 #[.slice (some ⟨B,0,none⟩) 1 1,.slice (some ⟨g,(i+1) * 5,none⟩) lb cb]).run Tryz.prog w=.ok (.value (.bool false)) w:=fun lb cb => by
  obtain⟨_,_,cur,hg,hcs⟩:=hw.head
  rw [run_callFunc_extern Tryz.func178 (by kernel_rfl) (by kernel_rfl) (by kernel_rfl) (e:=Extern.SlicesOverlaps.overlaps #[31,31] #[4]) (by kernel_rfl),
   Lib.run_overlaps_apart w 31 4 73 Tryz.underlying31 5 Tryz.sizeSeen ⟨B,0,none⟩ ⟨g,(i+1) * 5,none⟩ 1 1 lb cb hne _ _ _ _ hr.shape (own_shape hg) (by omega) (hr.free _) (hr.free _)]
  rfl
 clear ho hr hw
 go_enter Tryz.func167,Tryz.ntmps167
 go_wp2_with (simp only [hov])
 go_region_law (refine step_copy_raw rfl (.tmp 73) (.tmp 76) rfl base g (t.length+1) cap _ HO.out.drew (i+1) (t.length - i) (cap - (i+1)) ⟨g,i * 5,none⟩ (t.length+1 - i) (cap - i) (by simp [Act.eval,Act.put]) (by simp [Act.eval,Act.put]) (t.drop i) (by simp only [List.length_drop,Nat.min_def]; split <;> omega) S0.out (by rw [List.length_drop]; omega) ?_; intro w1 h1 hb1 hk1)
 all_goals
  have O1:=hZq h1
  have B1:=hZq ((Below.refl base w).drew.trans (hb1.mono HG.out))
  have S1:Hid (SrcR w1 ⟨B,0,none⟩ [r]):=by
   show SrcR _ _ _
   intro j x hx
   exact (hk1 _ (by rw [Addr.add_lit]; exact hne)).trans (HS.out j x hx)
  clear h1 hb1 hk1
  go_wp2_with (with_reducible refine wpList_copy_raw rfl (.tmp 80) (.tmp 81) rfl base g (t.length+1) cap _ O1.out i (t.length+1 - i) (cap - i) ⟨B,0,none⟩ 1 1 rfl rfl [r] (by simp only [List.length_singleton,Nat.min_def]; split <;> omega) S1.out (by simp only [List.length_singleton]; omega) ?_)
  intro w2 h2 hb2 hk2
  rw [HE.out] at h2
  have O2:=hZq (h2.rows (put1_len t i r).symm)
  have B2:=hZq (B1.out.trans (hb2.mono HG.out))
  clear h2 hb2 hk2
  go_wp2_with fail
  go_ret
  exact⟨_,rfl,O2.out,B2.out⟩
end
section
open Go.RowKit

theorem cell_after {w w':World} {a:Addr} {v:Value} (h:w.cell? a=some v) (hb:Below w.heap.size w w'):w'.cell? a=some v :=
 (hb.cell (World.block_lt_of_cell? w a h)).trans h

def encS (l:List UInt8):Value:=.string ⟨l.toArray⟩

def Texts (w:World) (v:Value) (ls:List (List UInt8)):Prop :=
 ∃ a cap,v=.slice a ls.length cap∧ls.length≤cap∧cap≤maxLen∧(a=none→cap=0) ∧
  (ls=[]∨∃ b off,a=some ⟨b,off,none⟩∧b < w.heap.size∧∀ i,i < ls.length→w.cell? ⟨b,off+i,none⟩=some (encS (ls.getD i [])))

theorem Texts.later {w w':World} {v:Value} {ls:List (List UInt8)} (h:Texts w v ls) (hb:Below w.heap.size w w'):Texts w' v ls:=by
 obtain⟨a,cap,h1,h2,h3,h4,h5⟩:=h
 refine ⟨a,cap,h1,h2,h3,h4,?_⟩
 rcases h5 with h5 | ⟨b,off,e,hlt,hc⟩
 ·exact .inl h5
 ·exact .inr ⟨b,off,e,Nat.lt_of_lt_of_le hlt hb.size,fun i hi => (hb.cell (p:=⟨b,off+i,none⟩) hlt).trans (hc i hi)⟩

theorem texts_nil (w:World):Texts w (.slice none 0 0) []:=⟨none,0,rfl,by simp,by simp,fun _ => rfl,.inl rfl⟩

theorem encS_one (ls:List (List UInt8)):∀ u ∈ ls.map encS,u.oneCell'=true:=by
 intro u hu
 obtain⟨l,_,rfl⟩:=List.mem_map.1 hu
 rfl

theorem texts_of_own {w:World} {base e:Nat} {v:Value} {ls:List (List UInt8)} (h:w.ownsRow base e 1 v ls.length (ls.map encS)):Texts w v ls:=by
 rcases h with ⟨_,⟨rfl,h0⟩ | ⟨g,cap,cur,rfl,hb,hg,hn,hc,hsz,htk⟩⟩
 ·obtain rfl:ls=[]:=List.length_eq_zero_iff.1 h0
  exact texts_nil w
 ·refine ⟨some ⟨g,0,none⟩,cap,rfl,hn,hc,(fun e => by cases e),?_⟩
  refine .inr ⟨g,0,rfl,(Array.getElem?_eq_some_iff.1 hg).1,fun i hi => ?_⟩
  rw [Nat.zero_add,cell_of_row w g i cur e (0,0) hg]
  have h1:cur.toList[i]?=(ls.map encS)[i]?:=by
   rw [← htk,List.getElem?_take,if_pos (by omega)]
  have h2:(ls.map encS)[i]?=some (encS (ls.getD i [])):=by
   simp [List.getD,List.getElem?_eq_getElem hi]
  rw [← h2,← h1]
  simp

def OwnT (w:World) (base e:Nat) (v:Value) (ls:List (List UInt8)):Prop:=w.ownsRow base e 1 v ls.length (ls.map encS)

theorem OwnT.alloc {w:World} {base e:Nat} {v:Value} {ls:List (List UInt8)} (h:OwnT w base e v ls) (o:Obj):OwnT (w.alloc o) base e v ls:=World.ownsRow.alloc h o
theorem OwnT.texts {w:World} {base e:Nat} {v:Value} {ls:List (List UInt8)} (h:OwnT w base e v ls):Texts w v ls:=texts_of_own h
theorem wpList_append_texts {P:Program} {w:World} {ops:Array Oper} {rest:List Oper} {o:Oper} {a:Act} {Q:Exit→Act→World→Prop}
  (hgd:o.guard=none) (s x:Operand) (t:TypeId) (ho:o.op=.call { callee:=.builtin .append,args:=#[s,x],argTypes:=#[t,t] })
  (base:Nat) (e:TypeId) (i:TypeInfo) (z:Value) (bytes:Nat) (ht:P.underlying t=some (.slice e)) (hi:P.info? e=some i) (hz:i.zero=some z)
  (hsize:i.size=1) (hby:i.bytes=bytes) (hzs:z.cells.size=1)
  (v:Value) (ls:List (List UInt8)) (hs:a.eval s=v) (hown:OwnT w base e v ls)
  (ao:Option Addr) (m c:Nat) (ms:List (List UInt8)) (hx:a.eval x=.slice ao m c) (hm:m=ms.length) (hnone:ao=none→c=0∧ms=[])
  (hsome:∀ ad,ao=some ad→∀ j u,(ms.map encS)[j]?=some u→w.cell? (ad.add j)=some u)
  (hlen:ls.length+ms.length < 4294967296) (hb:bytes≤4096) (hbase:base≤w.heap.size)
  (h:∀ v' w',OwnT w' base e v' (ls ++ ms)→Below base w w'→wpList P ops Q rest (a.put o.dst v') w') :
  wpList P ops Q (o :: rest) a w:=by
 cases ao with
 | none =>
  obtain⟨rfl,rfl⟩:=hnone rfl
  simp only [List.length_nil] at hm
  subst hm
  exact wpList_append_own_none hgd s x t ho base e i 1 ht hi v ls.length (ls.map encS) hs hown hx (h v w (by simpa using hown) (Below.refl _ _))
 | some ad =>
  subst hm
  refine wpList_append_own _ hgd s x t ho base e i z 1 bytes ht hi hz hsize hby hzs (by decide) v ls.length (ls.map encS) hs hown ad ms.length c (ms.map encS) hx (by simp) (hsome ad rfl) (encS_one ms)
   (by unfold maxLen; omega) (Nat.le_trans (Nat.mul_le_mul (show ls.length+ms.length≤4294967296 by omega) hb) (by decide)) hbase ?_
  intro v' w' hown' hgrow _
  refine h v' w' ?_ ((Below.refl base w).grown hgrow hbase (fun k hk => (World.ownsRow.lt hown k hk).1))
  unfold OwnT
  rw [List.map_append,List.length_append]
  exact hown'
end
section
open Go.RowKit

theorem Tryz.infoStr:(Tryz.prog.info? 9).map (fun i => (i.zero,i.size,i.bytes))=some (some (.string ⟨#[]⟩),1,16):=by kernel_rfl

def fewB (ls:List (List UInt8)):Bool:=decide (ls.length≤30) && ls.all fun t => decide (t.length≤30)

theorem getD_some {ls:List (List UInt8)} {k:Nat} (h:k < ls.length):ls[k]?=some (ls.getD k []):=by simp [List.getD,List.getElem?_eq_getElem h]
end
section
open Go.RowKit

def Heaped (w:World) (v:Value) (ls:List (List UInt8)):Prop:=Texts w v ls∧(ls=[]→v=.slice none 0 0)
end
section
open Go.RowKit

theorem Heaped.later {w w':World} {v:Value} {ls:List (List UInt8)} (h:Heaped w v ls) (hb:Below w.heap.size w w'):Heaped w' v ls:=⟨h.1.later hb,h.2⟩

theorem Texts.cell {w wr:World} {a:Option Addr} {n cap:Nat} {ls:List (List UInt8)} (h:Texts w (.slice a n cap) ls) (hb:Below w.heap.size w wr) (k:Nat) (hk:k < ls.length) :
  ∃ b off,a=some ⟨b,off,none⟩∧wr.cell? ⟨b,off+k,none⟩=some (.string ⟨(ls.getD k []).toArray⟩):=by
 obtain⟨a',cap',e,_,_,_,h⟩:=h.later hb
 simp only [Value.slice.injEq] at e
 rcases h with h | ⟨b,off,e',_,hc⟩
 ·rw [h] at hk; simp at hk
 ·exact⟨b,off,e.1.trans e',hc k hk⟩
end
section
open Go.RowKit

theorem zeros_size (z:Value) (hz:z.cells.size=1) (n:Nat):(Builtin.zeroCells z.cells n).size=n:=by
 unfold Builtin.zeroCells
 simp [hz]

theorem grow_nil (n:Nat) (hn:n≤1000) (w:World) :
  Calls Tryz.prog 187 #[.slice none 0 0,.int .i64 n] w fun e w' => ∃ v,e=.returned v∧OwnT w' w.heap.size 9 v []∧Below w.heap.size w w':=by
 obtain⟨i0,hi,hz0,hz1,hz2⟩:=info_parts Tryz.infoStr
 by_cases h0:n=0
 ·subst h0
  go_enter Tryz.func187,Tryz.ntmps187
  go_wp2_with fail
  go_ret
  exact⟨_,rfl,World.ownsRow_nil _ _ _ _,Below.refl _ _⟩
 ·have hrz:=fun ty => Lib.run_append_nil_zeros (P:=Tryz.prog) w 183 3 ty 9 i0 _ .i64 .i64 Tryz.underlying183 Tryz.underlying3 hi hz0 n (by omega) (by omega) (by omega) (by rw [hz2]; omega)
  have hG1:=grownCap_ge w n 0 9
  have hG2:=grownCap_le_maxLen w n 0 9 (by unfold maxLen; omega)
  obtain⟨G,hG⟩ : ∃ G,G=grownCap w n 0 9:=⟨_,rfl⟩
  rw [← hG] at hrz hG1 hG2
  have hO:Hid (OwnT (w.drew.alloc (.cells (Builtin.zeroCells (Value.string ⟨#[]⟩).cells n ++ Builtin.zeroCells (Value.string ⟨#[]⟩).cells (G - n)) 9)) w.heap.size 9 (.slice (some ⟨w.heap.size,0,none⟩) 0 G) []):=by
   refine World.ownsRow_made (base:=w.heap.size) w.drew _ G (Nat.le_refl _) hG2 ?_
   rw [Array.size_append,zeros_size _ rfl,zeros_size _ rfl]
   omega
  have h1:0 < n:=by omega
  unfold maxLen at hG2
  clear hG h0
  go_enter Tryz.func187,Tryz.ntmps187
  go_wp2_with (at_builtin; go_must (refine Lib.wpList_append_run _ rfl _ _ _ _ rfl _ _ rfl rfl _ _ (hrz _) ?_))
  go_wp2_with fail
  go_ret
  exact⟨_,rfl,hO.out,(Below.refl _ _).drew.alloc (Nat.le_refl _) _⟩

theorem texts_src {W:World} {a:Option Addr} {n cap:Nat} {ls:List (List UInt8)} (h:Texts W (.slice a n cap) ls) :
  n=ls.length∧(a=none→cap=0∧ls=[])∧(∀ ad,a=some ad→∀ j u,(ls.map encS)[j]?=some u→W.cell? (ad.add j)=some u):=by
 obtain⟨a',cap',e,h1,h2,h3,h4⟩:=h
 simp only [Value.slice.injEq] at e
 obtain⟨rfl,rfl,rfl⟩:=e
 refine ⟨rfl,fun e => ⟨h3 e,List.length_eq_zero_iff.1 (by have:=h3 e; omega)⟩,?_⟩
 rintro ad rfl j u hu
 have hj:j < ls.length:=by
  have:=(List.getElem?_eq_some_iff.1 hu).1
  simpa using this
 rcases h4 with h | ⟨b,off,e,_,hc⟩
 ·rw [h] at hj; simp at hj
 ·obtain rfl:=Option.some.inj e
  rw [List.getElem?_map,getD_some hj] at hu
  simp only [Option.map_some,Option.some.injEq] at hu
  rw [Addr.add_lit,hc j hj,hu]

theorem concat_sum {w:World} {va vb:Value} {ls ms:List (List UInt8)} (ha:Texts w va ls) (hb:Texts w vb ms) (hlm:ls.length+ms.length≤1000)
  (B:Nat) (k0:w.cell? ⟨B,0,none⟩=some va) (k1:w.cell? ⟨B,1,none⟩=some vb) :
  Calls Tryz.prog 181 #[.slice (some ⟨B,0,none⟩) 2 2] w fun e w' => ∃ v,e=.returned v∧OwnT w' w.heap.size 9 v (ls ++ ms)∧Below w.heap.size w w':=by
 have hl:ls.length≤1000:=by omega
 have hm:ms.length≤1000:=by omega
 obtain⟨i0,hi,hz0,hz1,hz2⟩:=info_parts Tryz.infoStr
 have HA:=hZq ha
 have HB:=hZq hb
 obtain⟨a,cap,rfl,_,_,_,_⟩:=ha
 obtain⟨a2,cap2,rfl,_,_,_,_⟩:=hb
 have HG:=hZq (grow_nil (ls.length+ms.length) (by omega))
 have K0:=hZq k0
 have K1:=hZq k1
 have hB:=World.block_lt_of_cell? w _ k0
 simp only at hB
 go_enter Tryz.func181,Tryz.ntmps181
 go_wp2_with fail
 refine wp_loop_rounds 3 ?_
 rw [rounds_succ]
 go_wp2_with fail
 rw [rounds_succ]
 go_wp2_with fail
 rw [rounds_succ]
 go_wp2_with fail
 refine (HG.out _).mono ?_
 rintro e w1 ⟨v1,rfl,ho1,hb1⟩
 have HO1:=hZq ho1
 have HB1:=hZq hb1
 have k0:=cell_after K0.out hb1
 have k1:=cell_after K1.out hb1
 have hA1:=hZq (texts_src (HA.out.later hb1))
 have hsz1:=hb1.size
 clear hb1 ho1
 go_wp2_with fail
 refine wp_loop_rounds 3 ?_
 rw [rounds_succ]
 go_wp2_with (at_builtin; go_must (refine wpList_append_texts rfl _ _ 183 rfl w.heap.size 9 i0 _ 16 Tryz.underlying183 hi hz0 hz1 hz2 rfl _ _ rfl (by exact HO1.out) a ls.length cap ls rfl rfl hA1.out.2.1 hA1.out.2.2 (by simp; omega) (by decide) hsz1 ?_))
 intro v2 w2 hown2 hb2
 have HB2:Hid (Below w.heap.size w w2):=HB1.out.trans hb2
 have hsz2:w.heap.size≤w2.heap.size:=HB2.out.size
 have k1:=cell_after K1.out HB2.out
 have hA2:=hZq (texts_src (HB.out.later HB2.out))
 have HO2:=hZq hown2
 clear hb2 hown2 k0
 go_wp2_with fail
 rw [rounds_succ]
 go_wp2_with (at_builtin; go_must (refine wpList_append_texts rfl _ _ 183 rfl w.heap.size 9 i0 _ 16 Tryz.underlying183 hi hz0 hz1 hz2 rfl _ _ rfl (by exact HO2.out) a2 ms.length cap2 ms rfl rfl hA2.out.2.1 hA2.out.2.2 (by first | omega | (simp; omega)) (by decide) hsz2 ?_))
 intro v3 w3 hown3 hb3
 have HB3:Hid (Below w.heap.size w w3):=HB2.out.trans hb3
 have HO3:=hZq hown3
 clear hb3 hown3 k1
 go_wp2_with fail
 rw [rounds_succ]
 go_wp2_with fail
 go_ret
 exact⟨_,rfl,by have:=HO3.out; simpa using this,HB3.out⟩

theorem concat_any {w:World} {va vb:Value} {ls ms:List (List UInt8)} (ha:Texts w va ls) (hb:Texts w vb ms) (hl:ls.length≤100) (hm:ms.length≤100)
  (B:Nat) (k0:w.cell? ⟨B,0,none⟩=some va) (k1:w.cell? ⟨B,1,none⟩=some vb) :
  Calls Tryz.prog 181 #[.slice (some ⟨B,0,none⟩) 2 2] w fun e w' => ∃ v,e=.returned v∧OwnT w' w.heap.size 9 v (ls ++ ms)∧Below w.heap.size w w' :=
 concat_sum ha hb (by omega) B k0 k1
end
section
open Go.RowKit Go.Lib Go.Sort

theorem encS_cell:OneCell encS:=fun _ => rfl

theorem eql_S : EqlAt Tryz.prog 9 encS (fun x y => decide (x = y)) :=
  ⟨fun x y w => by rw [show encS x = .string ⟨x.toArray⟩ from rfl, show encS y = .string ⟨y.toArray⟩ from rfl, (EqlAt.string Tryz.prog 9).1]; by_cases h : x = y <;> simp [h, ByteArray.toList_eq],
   fun op a b x y w => GuardAt.string Tryz.prog 9 op a b _ _ w⟩

theorem neq_S : NeqAt Tryz.prog 9 encS (fun x y => decide (x = y)) :=
  ⟨fun x y w => by rw [show encS x = .string ⟨x.toArray⟩ from rfl, show encS y = .string ⟨y.toArray⟩ from rfl, (NeqAt.string Tryz.prog 9).1]; by_cases h : x = y <;> simp [h, ByteArray.toList_eq],
   fun op a b x y w => GuardAt.string Tryz.prog 9 op a b _ _ w⟩

theorem compare_lays (blk off size:Nat) (w:World):CmpLays1 Tryz.prog 115 #[] encS idCmp blk off size w :=
 fun m os dk _ x y => (compare_any x y (sortWorld encS w blk off m dk os)).mono fun _ _ ⟨he,o,hw⟩ => ⟨he,0,#[o],by rw [hw,alloc_eq_grow]; rfl⟩

theorem below_grow {B:Nat} {w0 w:World} (h:Below B w0 w) (hB:B≤w.heap.size) (os:Array Obj):Below B w0 (grow w os) :=
 ⟨h.os,h.tape,h.output,by have:=h.size; simp only [grow,Array.size_append]; omega,fun k hk => by
  rw [← h.block k hk]
  simp only [grow]
  rw [Array.getElem?_append_left (by omega)]⟩

theorem sorted_row {w1:World} {g n:Nat} {d d':Array (List UInt8)} {os:Array Obj} (hH:Holds encS w1 g 0 d) (hg:g < w1.heap.size) (hd:d'.size=d.size) :
  Holds encS (sortWorld encS w1 g 0 n d' os) g 0 d':=by
 unfold sortWorld
 refine holds_grow encS _ os g 0 d' ?_ (holds_putRow encS _ g 0 d d' (holds_ahead encS w1 n g 0 d hH) hd)
 simpa [putRow,mapBlock,Sort.ahead] using hg

theorem sorted_below {B:Nat} {w0 w1:World} {g n:Nat} {d':Array (List UInt8)} {os:Array Obj} (h:Below B w0 w1) (hB:B≤w1.heap.size) (hg:B≤g):Below B w0 (sortWorld encS w1 g 0 n d' os):=by
 unfold sortWorld
 refine below_grow (below_putRow h hg) ?_ os
 simpa [putRow,mapBlock,Sort.ahead] using hB

theorem compact_texts {w2:World} {g q cap:Nat} {d:Array (List UInt8)} (hH:Holds encS w2 g 0 d) (hg:g < w2.heap.size) (hn:d.size≤cap) (hc:cap≤maxLen) {ls:List (List UInt8)} (hle:ls.length≤d.size) :
  Texts (putRow encS (Sort.ahead w2 q) g 0 (ls ++ List.replicate (d.size - ls.length) []).toArray) (.slice (some ⟨g,0,none⟩) ls.length cap) ls:=by
 refine ⟨some ⟨g,0,none⟩,cap,rfl,by omega,hc,(fun e => by cases e),.inr ⟨g,0,rfl,?_,fun i hi => ?_⟩⟩
 ·simpa [putRow,mapBlock,Sort.ahead] using hg
 ·have h:=holds_putRow encS (Sort.ahead w2 q) g 0 d (ls ++ List.replicate (d.size - ls.length) []).toArray (holds_ahead encS w2 q g 0 d hH) (by simp; omega)
  have h1:=(h i (by simp; omega)).1
  rw [h1]
  congr 2
  rw [getElem!_pos _ i (by simp; omega)]
  simp [List.getD,hi]

theorem compact_len (d:Array (List UInt8)):(compactUpTo d d.size).length≤d.size:=by
 unfold compactUpTo
 rw [List.length_map]
 exact Nat.le_trans (List.length_filter_le _ _) (by simp)

theorem merge_any {w:World} {va vb:Value} {ls ms:List (List UInt8)} (ha:Texts w va ls) (hb:Texts w vb ms) (hl:ls.length≤100) (hm:ms.length≤100) :
  Calls Tryz.prog 175 #[va,vb] w fun e w' => ∃ v,e=.returned v∧Texts w' v (mrg (ls ++ ms))∧Below w.heap.size w w':=by
 have eg:∀ args w,(callFunc 115 args).run Tryz.prog w=.ok (.enter 115 args) w:=enters_of Tryz.func115 (by kernel_rfl) rfl
 have hB0:Below w.heap.size w (w.alloc (.cells #[va,vb] 183)):=(Below.refl _ _).alloc (Nat.le_refl _) _
 have HC:=hZq (concat_any (ha.later hB0) (hb.later hB0) hl hm w.heap.size (by simp) (by simp))
 have HB0:=hZq hB0
 obtain⟨a,cap,rfl,_,_,_,_⟩:=ha
 obtain⟨a2,cap2,rfl,_,_,_,_⟩:=hb
 clear hB0
 go_enter Tryz.func175,Tryz.ntmps175
 go_wp2_with fail
 refine HC.out.mono ?_
 rintro e w1 ⟨v1,rfl,ho1,hb1⟩
 have HB1:=hZq (below2' HB0.out hb1)
 have hsz1:w.heap.size+1≤w1.heap.size:=by have:=hb1.size; simpa using this
 have HO1:=hZq ho1
 clear hb1 ho1 HC HB0
 by_cases h0:ls ++ ms=[]
 ·have hr:Hid (mrg (ls ++ ms)=[]):=by show _=_; rw [h0]; rfl
  obtain⟨p,c,rfl,_⟩ : ∃ p c,v1=.slice p 0 c∧True:=by
   obtain⟨p,c,e,_⟩:=HO1.out.texts
   rw [h0] at e
   exact⟨p,c,e,trivial⟩
  have HT:=hZq HO1.out.texts
  have HS:=hZq (Tryz.slices_SortFunc_none (α:=List UInt8) p c (.func (.func 115) #[] #[]) w1)
  have HK:=hZq (Tryz.slices_Compact_string_empty p c w1)
  have H0:=hZq h0
  clear h0
  go_wp2_with fail
  refine HS.out.mono ?_
  rintro e w' ⟨rfl,rfl⟩
  go_wp2_with fail
  refine HK.out.mono ?_
  rintro e w' ⟨rfl,rfl⟩
  go_wp2_with fail
  go_ret
  exact⟨_,rfl,by rw [hr.out]; have:=HT.out; rw [H0.out] at this; exact this,HB1.out⟩
 ·have hv:v1 ≠ .slice none 0 0:=by
   intro e
   obtain⟨p,c,e',_⟩:=HO1.out.texts
   rw [e'] at e
   simp only [Value.slice.injEq] at e
   exact h0 (List.length_eq_zero_iff.1 e.2.1)
  obtain⟨g,c,rfl,hg1,hg2,hn,hc,_,hH⟩:=holds_of_ownsRow (zs:=ls ++ ms) (HO1.out:World.ownsRow _ _ _ _ _ _ _) hv
  have hg1':w.heap.size+1≤g:=by simpa using hg1
  have HS:=hZq (Tryz.slices_SortFunc_total encS (fun _ => rfl) idCmp idSWO 115 #[] g 0 c (ls ++ ms).toArray w1 eg (compare_lays g 0 _ w1) hH hg2 (by simp; omega) idTot)
  have hlen:(ls ++ ms).length=ls.length+ms.length:=List.length_append
  simp only [List.size_toArray,hlen] at HS
  have HH:=hZq hH
  rw [hlen] at hn
  clear eg hH hg1 hv h0 hlen
  go_wp2_with fail
  refine HS.out.mono ?_
  rintro e w2 ⟨rfl,nn,os,hw2⟩
  have hDl:Hid (Holds encS w2 g 0 ((ls ++ ms).mergeSort fun x y => !(ltOf idCmp) y x).toArray):=by
   show Holds _ _ _ _ _
   rw [hw2]
   exact sorted_row HH.out hg2 (by simp)
  have HB2:Hid (Below w.heap.size w w2):=by
   show Below _ _ _
   rw [hw2]
   exact sorted_below HB1.out (by omega) (by omega)
  have hg3:Hid (g < w2.heap.size):=by
   show g < _
   rw [hw2]
   simp only [sortWorld,grow,Array.size_append,putRow,mapBlock,Array.size_modify,Sort.ahead]
   omega
  have hsl:((ls ++ ms).mergeSort fun x y => !(ltOf idCmp) y x).length=ls.length+ms.length:=by simp
  obtain⟨d,hd⟩ : ∃ d,d=((ls ++ ms).mergeSort fun x y => !(ltOf idCmp) y x).toArray:=⟨_,rfl⟩
  have hds:d.size=ls.length+ms.length:=by rw [hd]; simp
  have HM:Hid (compactUpTo d d.size=mrg (ls ++ ms)):=by show _=_; rw [hd]; exact sort_compact _
  rw [← hd] at hDl
  have HK:=hZq (Tryz.slices_Compact encS encS_cell eql_S neq_S [] (fun _ => by kernel_rfl) g 0 c d w2 hDl.out (by omega) (by omega))
  have hcl:=compact_len d
  rw [HM.out] at HK hcl
  rw [hds] at HK
  have HT:Hid (∀ q,Texts (putRow encS (Sort.ahead w2 q) g 0 (mrg (ls ++ ms) ++ List.replicate (d.size - (mrg (ls ++ ms)).length) []).toArray) (.slice (some ⟨g,0,none⟩) (mrg (ls ++ ms)).length c) (mrg (ls ++ ms))) :=
   fun q => compact_texts hDl.out hg3.out (by omega) hc hcl
  rw [hds] at HT
  clear hw2 hd hds hsl HM HS hDl hcl HH
  obtain⟨r,hr⟩ : ∃ r,mrg (ls ++ ms)=r:=⟨_,rfl⟩
  rw [hr] at HK HT
  have HR:=hZq hr
  clear hr
  go_wp2_with fail
  refine HK.out.mono ?_
  rintro e w3 ⟨rfl,q,hw3⟩
  have HT3:=HT.out q
  rw [← hw3] at HT3
  have HB3:Hid (Below w.heap.size w w3):=by
   show Below _ _ _
   rw [hw3]
   exact below_putRow HB2.out (by omega)
  have HT3':=hZq HT3
  clear hw3 HT3 HK HT
  go_wp2_with fail
  go_ret
  exact⟨_,rfl,by rw [HR.out]; exact HT3'.out,HB3.out⟩
end
section
open Go.RowKit

theorem diplace_any {w:World} {v:Value} {t:List Row} (hv:Tab w v t) (key:List UInt8) :
  Calls Tryz.prog 168 #[v,.string ⟨key.toArray⟩] w fun e w' => e=.returned (.int .i64 (diPlace t key))∧Below w.heap.size w w':=by
 have HV:=hZq hv
 obtain⟨a,cap,rfl,hm⟩:=hv.open'
 clear hv
 go_enter Tryz.func168,Tryz.ntmps168
 go_wp2_with fail
 go_loopw [5] (fun i wr => ∃ k:Nat,k≤t.length∧i=.int .i64 k∧Hid (Below w.heap.size w wr)∧Hid (plc t key k=diPlace t key)) (fun i _ => (intOf i).toNat)
 case atStart => exact⟨t.length,by omega,rfl,Below.refl _ _,rfl⟩
 case round =>
  obtain⟨k,hk,rfl,HN,HA⟩:=hrel
  rcases Nat.eq_zero_or_pos k with rfl | hpos
  ·have HR:Hid (diPlace t key=0):=by show _=_; rw [← HA.out]; rfl
   go_wp2_with fail
   go_ret
   exact⟨by rw [HR.out]; rfl,HN.out⟩
  ·obtain⟨j,rfl⟩ : ∃ j,k=j+1:=⟨k - 1,by omega⟩
   obtain⟨b,off,rfl,h0,_,_,_,_⟩:=HV.out.row HN.out j (by omega)
   obtain⟨yy,hy⟩ : ∃ yy,(t.getD j Row.zero).c=yy:=⟨_,rfl⟩
   rw [hy] at h0
   have ha:=HA.out
   unfold plc at ha
   rw [hy] at ha
   cases hle:idLess yy key with
   | true =>
    rw [if_pos hle] at ha
    have HR:=hZq ha
    have HLe:=hZq (less_eq yy key (r:=true) (hZq hle))
    clear hle ha hy hpos
    go_wp2_with fail
    refine (HLe.out _).mono ?_
    rintro e w1 ⟨rfl,hb1⟩
    have N1:=hZq (below2' HN.out hb1)
    clear hb1 h0
    go_wp2_with fail
    go_ret
    exact⟨by rw [← HR.out]; rfl,N1.out⟩
   | false =>
    rw [if_neg (by rw [hle]; decide)] at ha
    have HA2:=hZq ha
    have HLe:=hZq (less_eq yy key (r:=false) (hZq hle))
    clear hle ha hy hpos
    go_wp2_with fail
    refine (HLe.out _).mono ?_
    rintro e w1 ⟨rfl,hb1⟩
    have N1:=hZq (below2' HN.out hb1)
    clear hb1 h0
    go_wp2_with fail
    go_roundw
    case rel => exact⟨j,by omega,by go_num,N1,HA2⟩
    case measure => first | (simp [intOf]; done) | (simp [intOf]; omega)

def RowT (w:World) (B:Nat) (u:List (List UInt8)):Prop:=∀ j,j < u.length→w.cell? ⟨B,j,none⟩=some (encS (u.getD j []))∧w.frozen? ⟨B,j,none⟩=false

theorem RowT.set {w:World} {B:Nat} {u:List (List UInt8)} (h:RowT w B u) (j:Nat) (x:List UInt8) (hj:j < u.length):RowT (w.setCell ⟨B,j,none⟩ (encS x)) B (u.set j x):=by
 intro i hi
 have hi':i < u.length:=by simpa using hi
 refine ⟨?_,(World.frozen?_setCell w _ _ _).trans (h i hi').2⟩
 by_cases hij:i=j
 ·subst hij
  rw [World.cell?_setCell_same _ _ _ (h i hj).1]
  simp [List.getD,hj]
 ·rw [World.cell?_setCell_other _ _ _ _ (by simp),(h i hi').1]
  simp [List.getD,show ¬ j=i by omega]

theorem RowT.later {w w':World} {B:Nat} {u:List (List UInt8)} (h:RowT w B u) (hB:B < w.heap.size) (hb:Below w.heap.size w w'):RowT w' B u:=fun j hj =>
 ⟨(hb.cell (p:=⟨B,j,none⟩) hB).trans (h j hj).1,(hb.frozen (p:=⟨B,j,none⟩) hB).trans (h j hj).2⟩

theorem RowT.texts {w:World} {B:Nat} {u:List (List UInt8)} (h:RowT w B u) (hB:B < w.heap.size) (hl:u.length≤4294967296):Texts w (.slice (some ⟨B,0,none⟩) u.length u.length) u :=
 ⟨_,u.length,rfl,Nat.le_refl _,by unfold maxLen; omega,(fun e => by cases e),.inr ⟨B,0,rfl,hB,fun i hi => by rw [Nat.zero_add]; exact (h i hi).1⟩⟩

def ctsAt (t:List Row) (k:Nat):List (List UInt8):=(cts t).take k ++ List.replicate (t.length - k) []

theorem madeTexts (n:Nat):(madeCells (Value.string ⟨#[]⟩).cells (n * 1)).toList=List.replicate n (encS []):=by
 rw [Nat.mul_one]
 exact toList_madeCells_one _ n

theorem wpList_make_texts {w:World} {ops:Array Oper} {rest:List Oper} {o:Oper} {a:Act} {Q:Exit→Act→World→Prop}
  (hg:o.guard=none) (l c:Operand) (hop:o.op=Op.makeSlice 183 l c)
  (L C:Int) (n:Nat) (hl:a.eval l=.int .i64 L) (hc:a.eval c=.int .i64 C) (hL:L=(n:Int)) (hC:C=(n:Int)) (hn:n≤4294967296)
  (hK:∀ w',RowT w' w.heap.size (List.replicate n [])→Below w.heap.size w w'→w.heap.size < w'.heap.size→wpList Tryz.prog ops Q rest (a.put o.dst (.slice (some ⟨w.heap.size,0,none⟩) n n)) w') :
  wpList Tryz.prog ops Q (o :: rest) a w:=by
 obtain⟨i,hi,hz,hsize,hby⟩:=info_parts Tryz.infoStr
 refine wpList_make_full w hg l c _ hop w.heap.size 9 i _ 1 Tryz.underlying183 hi hz hsize .i64 .i64 L C n hl hc hL hC (by rw [hby]; omega) (by unfold maxLen; omega) (Nat.le_refl _) ?_
 intro w' hown hgrow
 refine hK w' (fun j hj => ?_) ((Below.refl _ _).grown hgrow (Nat.le_refl _) (fun k hk => by simp at hk)) (hown.lt w.heap.size rfl).2
 have hj':j < n:=by simpa using hj
 refine ⟨?_,hown.frozenAt j⟩
 rw [hown.cellAt j (by omega),madeTexts]
 simp [List.getD,hj']
end
section
open Go.RowKit

theorem OwnR.drew {w:World} {base:Nat} {v:Value} {t:List Row} (h:OwnR w base v t):OwnR w.drew base v t:=World.ownsRow.drew h

theorem own_apart {w:World} {base B:Nat} {v:Value} {t:List Row} (h:OwnR w base v t) (hB:w.heap.size≤B):∀ g n c,v=.slice (some ⟨g,0,none⟩) n c→B ≠ g:=by
 intro g n c e
 subst e
 have:=h.head.2.2.1
 omega

theorem insert_any {w:World} {base:Nat} {v:Value} {t:List Row} (ho:OwnR w base v t) (hbase:base≤w.heap.size) (hl:t.length≤1000) {i:Nat} (hi:i≤t.length) {B:Nat} {r:Row} (hr:Lone w B r) (hne:∀ g n c,v=.slice (some ⟨g,0,none⟩) n c→B ≠ g) :
  Calls Tryz.prog 167 #[v,.int .i64 i,.slice (some ⟨B,0,none⟩) 1 1] w fun e w' => ∃ u,e=.returned u∧OwnR w' base u (put1 t i r)∧Below base w w':=by
 by_cases h:i=t.length
 ·subst h
  exact insert_end ho hbase hl hr
 ·have hi':i < t.length:=by omega
  rcases ho.2 with ⟨rfl,h0⟩ | ⟨g,cap,cur,rfl,_,_,hnc,hcm,_⟩
  ·omega
  ·by_cases hc:cap=t.length
   ·exact insert_grow ho hbase hl hi' hc hr
   ·unfold maxLen at hcm
    exact insert_room ho hl hi' (by omega) (by omega) hr (hne _ _ _ rfl)

def chgAgg (c:Chg):Value:=.agg #[.string ⟨c.c.toArray⟩,.bool c.on,.int .i64 c.v.sh,.int .i64 c.v.pr,.int .i64 c.v.si,.string ⟨c.v.st.toArray⟩]

theorem six_cells (w:World) (a b c d e f:Value) (t:TypeId):(w.alloc (.cells #[a,b,c,d,e,f] t)).cell? ⟨w.heap.size,0,none⟩=some a∧(w.alloc (.cells #[a,b,c,d,e,f] t)).cell? ⟨w.heap.size,1,none⟩=some b∧(w.alloc (.cells #[a,b,c,d,e,f] t)).cell? ⟨w.heap.size,2,none⟩=some c∧(w.alloc (.cells #[a,b,c,d,e,f] t)).cell? ⟨w.heap.size,3,none⟩=some d∧(w.alloc (.cells #[a,b,c,d,e,f] t)).cell? ⟨w.heap.size,4,none⟩=some e∧(w.alloc (.cells #[a,b,c,d,e,f] t)).cell? ⟨w.heap.size,5,none⟩=some f :=
 ⟨by rw [World.cell?_alloc_at _ _ _ _ rfl]; rfl,by rw [World.cell?_alloc_at _ _ _ _ rfl]; rfl,by rw [World.cell?_alloc_at _ _ _ _ rfl]; rfl,by rw [World.cell?_alloc_at _ _ _ _ rfl]; rfl,by rw [World.cell?_alloc_at _ _ _ _ rfl]; rfl,by rw [World.cell?_alloc_at _ _ _ _ rfl]; rfl⟩

theorem keep5b {w w':World} {B C:Nat} {a b c d e:Value} (hb:Below B w w') (hC:C < B)
  (h:w.cell? ⟨C,0,none⟩=some a∧w.cell? ⟨C,2,none⟩=some b∧w.cell? ⟨C,3,none⟩=some c∧w.cell? ⟨C,4,none⟩=some d∧w.cell? ⟨C,5,none⟩=some e) :
  w'.cell? ⟨C,0,none⟩=some a∧w'.cell? ⟨C,2,none⟩=some b∧w'.cell? ⟨C,3,none⟩=some c∧w'.cell? ⟨C,4,none⟩=some d∧w'.cell? ⟨C,5,none⟩=some e :=
 ⟨(hb.cell (p:=⟨C,0,none⟩) hC).trans h.1,(hb.cell (p:=⟨C,2,none⟩) hC).trans h.2.1,(hb.cell (p:=⟨C,3,none⟩) hC).trans h.2.2.1,(hb.cell (p:=⟨C,4,none⟩) hC).trans h.2.2.2.1,(hb.cell (p:=⟨C,5,none⟩) hC).trans h.2.2.2.2⟩

theorem diSet_off {t:List Row} {c:Chg} (h:c.on=false):diSet t c=diRest t c.c:=by unfold diSet; rw [if_neg (by rw [h]; decide)]
theorem diSet_on {t:List Row} {c:Chg} (h:c.on=true):diSet t c=put1 (diRest t c.c) (diPlace (diRest t c.c) c.c) ⟨c.c,c.v⟩:=by unfold diSet; rw [if_pos h]; rfl

theorem diRest_len (t:List Row) (x:List UInt8):(diRest t x).length≤t.length:=by unfold diRest; exact List.length_filter_le _ _

set_option maxRecDepth 1000000 in
theorem set_any {w:World} {v:Value} {t:List Row} (hv:Tab w v t) (hl:t.length≤1000) (c:Chg) :
  Calls Tryz.prog 152 #[v,chgAgg c] w fun e w' => ∃ u,e=.returned u∧OwnR w' w.heap.size u (diSet t c)∧Below w.heap.size w w':=by
 obtain⟨x,on,sh,pr,si,st⟩:=c
 have HW:=hZq (without_any (hv.later ((Below.refl _ _).alloc (Nat.le_refl _) (.cells #[.string ⟨x.toArray⟩,.bool on,.int .i64 sh,.int .i64 pr,.int .i64 si,.string ⟨st.toArray⟩] 105))) (by omega) x)
 have hrl:=diRest_len t x
 obtain⟨a,cap,rfl,_⟩:=hv.open'
 unfold chgAgg
 obtain⟨k0,k1,k2,k3,k4,k5⟩:=six_cells w (.string ⟨x.toArray⟩) (.bool on) (.int .i64 sh) (.int .i64 pr) (.int .i64 si) (.string ⟨st.toArray⟩) 105
 have K0:=hZq k0
 have K1:=hZq k1
 have K2:=hZq k2
 have K3:=hZq k3
 have K4:=hZq k4
 have K5:=hZq k5
 clear hv k0 k1 k2 k3 k4 k5
 go_enter Tryz.func152,Tryz.ntmps152
 go_wp2_with fail
 refine HW.out.mono ?_
 rintro e w1 ⟨u,rfl,ho1,hb1,hz1⟩
 have k0:=cell_later K0.out hb1
 have k1:=cell_later K1.out hb1
 have k2:=cell_later K2.out hb1
 have k3:=cell_later K3.out hb1
 have k4:=cell_later K4.out hb1
 have k5:=cell_later K5.out hb1
 have hsz:w.heap.size+1 < w1.heap.size:=by simpa using hz1
 have B1:Hid (Below w.heap.size w w1):=below2' ((Below.refl _ _).alloc (Nat.le_refl _) _) hb1
 have O1:Hid (OwnR w1 (w.heap.size+1) u (diRest t x)):=ownR_low ho1 (by simp)
 clear HW K0 K1 K2 K3 K4 K5 hb1 ho1 hz1
 cases on with
 | false =>
  have HE:=hZq (diSet_off (t:=t) (c:=⟨x,false,⟨sh,pr,si,st⟩⟩) rfl)
  go_wp2_with fail
  go_ret
  exact⟨_,rfl,by rw [HE.out]; exact ownR_low O1.out (Nat.le_succ _),B1.out⟩
 | true =>
  have HE:=hZq (diSet_on (t:=t) (c:=⟨x,true,⟨sh,pr,si,st⟩⟩) rfl)
  have hpl:diPlace (diRest t x) x≤(diRest t x).length:=plc_le _ _ _
  go_wp2_with fail
  go_region_held (fun W => W.cell? ⟨w.heap.size,0,none⟩=some (.string ⟨x.toArray⟩)∧W.cell? ⟨w.heap.size,2,none⟩=some (.int .i64 sh)∧W.cell? ⟨w.heap.size,3,none⟩=some (.int .i64 pr)∧W.cell? ⟨w.heap.size,4,none⟩=some (.int .i64 si)∧W.cell? ⟨w.heap.size,5,none⟩=some (.string ⟨st.toArray⟩))
   (first | (with_reducible exact keep5b (by assumption) (Nat.lt_succ_self _) (by assumption)) | go_keep)
   ((first
    | (go_at_call 168; go_loud (refine (diplace_any (v:=u) (t:=diRest t x) (by first | exact O1.out.drew.tab | exact (O1.out.drew.alloc _).tab) x).mono ?_; rintro e w2 ⟨rfl,hb2⟩; (have O2:Hid (OwnR w2 (w.heap.size+1) u (diRest t x)):=hZq (by first | exact O1.out.drew.later hb2 | exact (O1.out.drew.alloc _).later hb2)); (have hs2:w.heap.size+1 < w2.heap.size:=by (have:=hb2.size; first | exact Nat.lt_of_lt_of_le hsz this | (simp at this; omega))); (try (refine mpr2 (p:=Lone w2 w1.heap.size ⟨x,⟨sh,pr,si,st⟩⟩) ?_ ?_; (· exact (lone_new w1.drew ⟨x,⟨sh,pr,si,st⟩⟩).later hb2); intro hL2; (have L2:=hZq hL2); clear hL2)); (have B2:Hid (Below w.heap.size w w2):=hZq (by first | exact below2' B1.out.drew hb2 | exact below2' (bl_alloc B1.out.drew _) hb2)); (have hS2:Below (w.heap.size+1) _ w2:=hb2.mono (by first | exact Nat.le_of_lt hsz | (simp; omega))); clear hb2))
    | (go_at_call 167; go_loud (refine (insert_any (base:=w.heap.size+1) (t:=diRest t x) (i:=diPlace (diRest t x) x) (r:=⟨x,⟨sh,pr,si,st⟩⟩) (by first | exact O2.out | exact O2.out.alloc _) (by first | exact Nat.le_of_lt hs2 | (simp; omega)) (by omega) hpl (by first | exact L2.out | exact lone_new w2 ⟨x,⟨sh,pr,si,st⟩⟩) (by first | exact own_apart O1.out (Nat.le_refl _) | exact own_apart (w:=w2) O2.out (Nat.le_refl _) | exact own_apart (O2.out.alloc _) (by simp))).mono ?_; rintro e w3 ⟨u3,rfl,ho3,hb3⟩; (have O3:=hZq ho3); (have B3:Hid (Below w.heap.size w w3):=hZq (by first | exact B2.out.trans (hb3.mono (Nat.le_succ _)) | exact (bl_alloc B2.out _).trans (hb3.mono (Nat.le_succ _)))); clear ho3))))
  all_goals
   go_wp2_with fail
   go_ret
   exact⟨_,rfl,by rw [HE.out]; exact ownR_low O3.out (Nat.le_succ _),B3.out⟩
end
section
open Go.ChangeShapes Go.WideShapes Go.ChangeAt Go.RowKit Go.Deep

section
variable {H:Type} {enc:TypeId × Value→H} {w:World} {base:Nat} {spare:Nat→Bool} {held:Bool}

theorem trod_int1 {fuel:Nat} {cs:List Value} {x:DataW H × List MemPlace} (h:DataW.trod enc Tryz.prog w base spare held fuel 3 cs=some x):∃ z,cs=[.int .i64 z]:=by
 obtain⟨z,e,_,_⟩:=DataW.trod_int Tryz.underlying3 h
 exact⟨z,e⟩

theorem trod_text {fuel:Nat} {cs:List Value} {x:DataW H × List MemPlace} (h:DataW.trod enc Tryz.prog w base spare held fuel 9 cs=some x):∃ l:List UInt8,cs=[.string ⟨l.toArray⟩]∧l.length≤maxLen:=by
 obtain⟨s,e,_,ws⟩:=DataW.trod_string Tryz.underlying9 h
 exact⟨s.data.toList,by rw [e],Nat.le_trans (Nat.le_of_eq (Array.length_toList (xs:=s.data))) ws⟩

theorem trod_truth {fuel:Nat} {cs:List Value} {x:DataW H × List MemPlace} (h:DataW.trod enc Tryz.prog w base spare held fuel 4 cs=some x):∃ b,cs=[.bool b]:=by
 obtain⟨b,e,_⟩:=DataW.trod_bool Tryz.underlying4 h
 exact⟨b,e⟩

theorem list4 {α:Type} {l:List α} (h:l.length=4):∃ a b c d,l=[a,b,c,d]:=by
 match l,h with
 | [a,b,c,d],_ => exact⟨a,b,c,d,rfl⟩
theorem list5 {α:Type} {l:List α} (h:l.length=5):∃ a b c d e,l=[a,b,c,d,e]:=by
 match l,h with
 | [a,b,c,d,e],_ => exact⟨a,b,c,d,e,rfl⟩
theorem list6 {α:Type} {l:List α} (h:l.length=6):∃ a b c d e f,l=[a,b,c,d,e,f]:=by
 match l,h with
 | [a,b,c,d,e,f],_ => exact⟨a,b,c,d,e,f,rfl⟩

theorem trod_value {fuel:Nat} {cs:List Value} {x:DataW H × List MemPlace} (h:DataW.trod enc Tryz.prog w base spare held fuel 53 cs=some x) :
  ∃ v:Val,cs=[.int .i64 v.sh,.int .i64 v.pr,.int .i64 v.si,.string ⟨v.st.toArray⟩]∧v.st.length≤maxLen:=by
 obtain⟨xs,n,_,_,hl,hx,hf⟩:=DataW.trod_struct Tryz.underlying53 h
 have c35:Tryz.prog.cellsOf 53=4:=by kernel_rfl
 have c3:Tryz.prog.cellsOf 3=1:=by kernel_rfl
 have c9:Tryz.prog.cellsOf 9=1:=by kernel_rfl
 rw [c35] at hl
 obtain⟨a,b,c,d,rfl⟩:=list4 hl
 have get:∀ i,i < 4→xs[i]?=some (xs.getD i (.nil,[])):=fun i hi => by
  have:i < xs.length:=by rw [hx]; exact hi
  simp [List.getD,List.getElem?_eq_getElem this]
 have f0:DataW.trod enc Tryz.prog w base spare held n 3 (([a,b,c,d].drop 0).take (Tryz.prog.cellsOf 3))=some (xs.getD 0 (.nil,[])):=(hf 0 _ rfl).trans (get 0 (by omega))
 have f1:DataW.trod enc Tryz.prog w base spare held n 3 (([a,b,c,d].drop 1).take (Tryz.prog.cellsOf 3))=some (xs.getD 1 (.nil,[])):=(hf 1 _ rfl).trans (get 1 (by omega))
 have f2:DataW.trod enc Tryz.prog w base spare held n 3 (([a,b,c,d].drop 2).take (Tryz.prog.cellsOf 3))=some (xs.getD 2 (.nil,[])):=(hf 2 _ rfl).trans (get 2 (by omega))
 have f3:DataW.trod enc Tryz.prog w base spare held n 9 (([a,b,c,d].drop 3).take (Tryz.prog.cellsOf 9))=some (xs.getD 3 (.nil,[])):=(hf 3 _ rfl).trans (get 3 (by omega))
 rw [c3] at f0 f1 f2
 rw [c9] at f3
 obtain⟨z0,e0⟩:=trod_int1 f0
 obtain⟨z1,e1⟩:=trod_int1 f1
 obtain⟨z2,e2⟩:=trod_int1 f2
 obtain⟨l,e3,w3⟩:=trod_text f3
 simp at e0 e1 e2 e3
 subst e0 e1 e2 e3
 exact⟨⟨z0,z1,z2,l⟩,rfl,w3⟩

theorem trod_row {fuel:Nat} {cs:List Value} {x:DataW H × List MemPlace} (h:DataW.trod enc Tryz.prog w base spare held fuel 73 cs=some x) :
  ∃ r:Row,cs=rowVals r∧r.c.length≤maxLen∧r.v.st.length≤maxLen:=by
 obtain⟨xs,n,_,_,hl,hx,hf⟩:=DataW.trod_struct Tryz.underlying73 h
 have c48:Tryz.prog.cellsOf 73=5:=by kernel_rfl
 have c35:Tryz.prog.cellsOf 53=4:=by kernel_rfl
 have c9:Tryz.prog.cellsOf 9=1:=by kernel_rfl
 rw [c48] at hl
 obtain⟨a,b,c,d,e,rfl⟩:=list5 hl
 have get:∀ i,i < 2→xs[i]?=some (xs.getD i (.nil,[])):=fun i hi => by
  have:i < xs.length:=by rw [hx]; exact hi
  simp [List.getD,List.getElem?_eq_getElem this]
 have f0:DataW.trod enc Tryz.prog w base spare held n 9 (([a,b,c,d,e].drop 0).take (Tryz.prog.cellsOf 9))=some (xs.getD 0 (.nil,[])):=(hf 0 _ rfl).trans (get 0 (by omega))
 have f1:DataW.trod enc Tryz.prog w base spare held n 53 (([a,b,c,d,e].drop 1).take (Tryz.prog.cellsOf 53))=some (xs.getD 1 (.nil,[])):=(hf 1 _ rfl).trans (get 1 (by omega))
 rw [c9] at f0
 rw [c35] at f1
 obtain⟨l,e0,w0⟩:=trod_text f0
 obtain⟨v,e1,w1⟩:=trod_value f1
 simp at e0 e1
 obtain⟨e1,e2,e3,e4⟩:=e1
 subst e0 e1 e2 e3 e4
 exact⟨⟨l,v⟩,rfl,w0,w1⟩

theorem trod_chg {fuel:Nat} {cs:List Value} {x:DataW H × List MemPlace} (h:DataW.trod enc Tryz.prog w base spare held fuel 105 cs=some x) :
  ∃ c:Chg,cs=[.string ⟨c.c.toArray⟩,.bool c.on,.int .i64 c.v.sh,.int .i64 c.v.pr,.int .i64 c.v.si,.string ⟨c.v.st.toArray⟩]∧c.c.length≤maxLen∧c.v.st.length≤maxLen:=by
 obtain⟨xs,n,_,_,hl,hx,hf⟩:=DataW.trod_struct Tryz.underlying105 h
 have c37:Tryz.prog.cellsOf 105=6:=by kernel_rfl
 have c35:Tryz.prog.cellsOf 53=4:=by kernel_rfl
 have c9:Tryz.prog.cellsOf 9=1:=by kernel_rfl
 have c4:Tryz.prog.cellsOf 4=1:=by kernel_rfl
 rw [c37] at hl
 obtain⟨a,b,c,d,e,f,rfl⟩:=list6 hl
 have get:∀ i,i < 3→xs[i]?=some (xs.getD i (.nil,[])):=fun i hi => by
  have:i < xs.length:=by rw [hx]; exact hi
  simp [List.getD,List.getElem?_eq_getElem this]
 have f0:DataW.trod enc Tryz.prog w base spare held n 9 (([a,b,c,d,e,f].drop 0).take (Tryz.prog.cellsOf 9))=some (xs.getD 0 (.nil,[])):=(hf 0 _ rfl).trans (get 0 (by omega))
 have f1:DataW.trod enc Tryz.prog w base spare held n 4 (([a,b,c,d,e,f].drop 1).take (Tryz.prog.cellsOf 4))=some (xs.getD 1 (.nil,[])):=(hf 1 _ rfl).trans (get 1 (by omega))
 have f2:DataW.trod enc Tryz.prog w base spare held n 53 (([a,b,c,d,e,f].drop 2).take (Tryz.prog.cellsOf 53))=some (xs.getD 2 (.nil,[])):=(hf 2 _ rfl).trans (get 2 (by omega))
 rw [c9] at f0
 rw [c4] at f1
 rw [c35] at f2
 obtain⟨l,e0,w0⟩:=trod_text f0
 obtain⟨o,e5⟩:=trod_truth f1
 obtain⟨v,e1,w1⟩:=trod_value f2
 simp at e0 e1 e5
 obtain⟨e1,e2,e3,e4⟩:=e1
 subst e0 e1 e2 e3 e4 e5
 exact⟨⟨l,o,v⟩,rfl,w0,w1⟩

theorem choose_rows {n:Nat} {Q:Nat→Row→Prop} (h:∀ i,i < n→∃ r,Q i r):∃ t:List Row,t.length=n∧∀ i,i < n→Q i (t.getD i Row.zero):=by
 induction n with
 | zero => exact⟨[],rfl,fun i hi => absurd hi (by omega)⟩
 | succ n ih =>
  obtain⟨t,hl,ht⟩:=ih fun i hi => h i (by omega)
  obtain⟨r,hr⟩:=h n (by omega)
  refine ⟨t ++ [r],by simp [hl],fun i hi => ?_⟩
  by_cases hin:i < n
  ·have:=ht i hin
   simp only [List.getD] at this ⊢
   rwa [List.getElem?_append_left (by omega)]
  ·obtain rfl:i=n:=by omega
   simp only [List.getD]
   rw [List.getElem?_append_right (by omega),hl]
   simpa using hr

end
end
section

def c1 (x:Nat):Nat:=if x % 2=1 then x / 2 ^^^ 3988292384 else x / 2

def cN:Nat→Nat→Nat
 | 0,x => x
 | k+1,x => cN k (c1 x)

def cstep (c b:Nat):Nat:=cN 8 (c ^^^ b)

def cfold (c:Nat) (l:List UInt8):Nat:=l.foldl (fun c b => cstep c b.toNat) c

def csum (l:List UInt8):Nat:=cfold 4294967295 l ^^^ 4294967295

def low4 (n:Nat):List UInt8:=[u8of (n % 256),u8of (n / 256 % 256),u8of (n / 65536 % 256),u8of (n / 16777216 % 256)]

def cseal (l:List UInt8):List UInt8:=l ++ low4 (csum l)

def copen (t:List UInt8):List UInt8 × Nat :=
 if t.length < 4 then ([],2) else if t.drop (t.length - 4)=low4 (csum (t.take (t.length - 4))) then (t.take (t.length - 4),0) else ([],4)

theorem c1_lt {x:Nat} (h:x < 4294967296):c1 x < 4294967296:=by
 unfold c1
 split
 ·exact Nat.xor_lt_two_pow (n:=32) (by omega) (by omega)
 ·omega

theorem cN_lt:∀ (k:Nat) {x:Nat},x < 4294967296→cN k x < 4294967296
 | 0,_,h => h
 | k+1,_,h => cN_lt k (c1_lt h)

theorem cstep_lt {c b:Nat} (hc:c < 4294967296) (hb:b < 4294967296):cstep c b < 4294967296:=cN_lt 8 (Nat.xor_lt_two_pow (n:=32) hc hb)

theorem cfold_lt:∀ (l:List UInt8) {c:Nat},c < 4294967296→cfold c l < 4294967296
 | [],_,h => h
 | b :: l,_,h => cfold_lt l (cstep_lt h (by have:=b.toNat_lt; omega))

theorem cfold_append (c:Nat) (a b:List UInt8):cfold c (a ++ b)=cfold (cfold c a) b:=by unfold cfold; exact List.foldl_append

theorem csum_lt (l:List UInt8):csum l < 4294967296:=Nat.xor_lt_two_pow (n:=32) (cfold_lt l (by decide)) (by decide)

def cK:Nat:=cN 32 4294967295

theorem copen_seal (s:List UInt8):copen (cseal s)=(s,0):=by
 have hl:(cseal s).length=s.length+4:=by simp [cseal,low4]
 unfold copen
 rw [if_neg (by omega),hl,Nat.add_sub_cancel]
 have e1:(cseal s).take s.length=s:=by simp [cseal]
 have e2:(cseal s).drop s.length=low4 (csum s):=by simp [cseal]
 rw [e1,e2,if_pos rfl]

theorem copen_ok {t s:List UInt8} (h:copen t=(s,0)):cseal s=t:=by
 unfold copen at h
 split at h
 ·simp at h
 ·split at h
  ·rename_i h4 hd
   simp only [Prod.mk.injEq,and_true] at h
   subst h
   unfold cseal
   rw [← hd,List.take_append_drop]
  ·simp at h
end
section

structure Frm where
 k:Int
 s:Int
 on:Bool
 c:List UInt8
 v:Val
 sum:Nat
 t:List Row

def Frm.zero:Frm:=⟨0,0,false,[],Val.zero,0,[]⟩

def frRest (f:Frm):Bool :=
 if f.k=1 then decide (f.sum=0) && (decide (f.t.length=0) && (idIs f.c && (if f.on=true then vaMay f.v else vSame f.v Val.zero)))
 else if f.k=2 then (!f.on && (f.c == [] && vSame f.v Val.zero)) && decide (f.t.length=0)
 else if f.k=3 then (!f.on && (f.c == [] && vSame f.v Val.zero)) && (decide (f.sum=0) && diMay f.t)
 else (!f.on && (f.c == [] && vSame f.v Val.zero)) && (decide (f.sum=0) && decide (f.t.length=0))

def frMay (f:Frm):Bool:=(decide (1≤f.k) && decide (f.k≤4)) && ((decide (0≤f.s) && decide (f.s≤1099511627776)) && frRest f)

def be8 (n:Nat):List UInt8:=[u8of (n / 72057594037927936 % 256),u8of (n / 281474976710656 % 256),u8of (n / 1099511627776 % 256),u8of (n / 4294967296 % 256),u8of (n / 16777216 % 256),u8of (n / 65536 % 256),u8of (n / 256 % 256),u8of (n % 256)]

def frBody (f:Frm):List UInt8 :=
 if f.k=1 then (if f.on=true then 1 :: ((idPut f.c).1 ++ vaBytes f.v) else 0 :: (idPut f.c).1)
 else if f.k=2 then be8 f.sum
 else if f.k=3 then (diPut f.t).1
 else []

def frPlain (f:Frm):List UInt8:=u8of f.k.toNat :: (vput f.s.toNat ++ frBody f)

def frEnc (f:Frm):List UInt8 × Nat:=if frMay f=true then (cseal (frPlain f),0) else ([],1)

def sum8 (l:List UInt8):Nat:=l.foldl (fun a b => a * 256+b.toNat) 0

def frTakeBody (k : Nat) (s : Nat) (b : List UInt8) : Option Frm :=
  if k = 1 then
    (if b.length = 0 then none
     else if (idTake b 1).2.2 ≠ 0 then none
     else if b.getD 0 0 = 0 then some ⟨1, s, false, (idTake b 1).1, Val.zero, 0, []⟩
     else if (vaTake b (idTake b 1).2.1).2.2 ≠ 0 then none
     else some ⟨1, s, true, (idTake b 1).1, (vaTake b (idTake b 1).2.1).1, 0, []⟩)
  else if k = 2 then (if b.length < 8 then none else some ⟨2, s, false, [], Val.zero, sum8 (b.take 8), []⟩)
  else if k = 3 then (if (diTake b 0).2.2 ≠ 0 then none else some ⟨3, s, false, [], Val.zero, 0, (diTake b 0).1⟩)
  else some ⟨k, s, false, [], Val.zero, 0, []⟩

def frTake (l:List UInt8):Option Frm :=
 match l with
 | [] => none
 | x :: r => if x.toNat < 1∨4 < x.toNat then none else if (vget (x :: r) 1).2.2 ≠ 0 then none else frTakeBody x.toNat (vget (x :: r) 1).1 ((x :: r).drop (vget (x :: r) 1).2.1)

theorem sum8_be8 (n:Nat) (h:n < 18446744073709551616):sum8 (be8 n)=n:=by
 unfold sum8 be8
 simp only [List.foldl_cons,List.foldl_nil]
 rw [u8of_toNat (by omega),u8of_toNat (by omega),u8of_toNat (by omega),u8of_toNat (by omega),u8of_toNat (by omega),u8of_toNat (by omega),u8of_toNat (by omega),u8of_toNat (by omega)]
 omega

structure FrOk (f:Frm):Prop where
 k1:1≤f.k
 k4:f.k≤4
 s0:0≤f.s
 s1:f.s≤1099511627776
 rest:frRest f=true

theorem frMay_iff {f:Frm}:frMay f=true ↔ FrOk f:=by
 unfold frMay
 simp only [Bool.and_eq_true,decide_eq_true_eq]
 exact⟨fun ⟨⟨a,b⟩,⟨c,d⟩,e⟩ => ⟨a,b,c,d,e⟩,fun ⟨a,b,c,d,e⟩ => ⟨⟨a,b⟩,⟨c,d⟩,e⟩⟩

theorem frTakeBody_body {f:Frm} (h:FrOk f) (hs:f.sum < 18446744073709551616):frTakeBody f.k.toNat f.s.toNat (frBody f)=some f:=by
 obtain⟨k,s,on,c,v,sum,t⟩:=f
 obtain⟨h1,h2,h3,h4,h5⟩:=h
 simp only at h1 h2 h3 h4 hs
 obtain⟨s,rfl⟩:=Int.eq_ofNat_of_zero_le h3
 have hk:k=1∨k=2∨k=3∨k=4:=by omega
 unfold frRest at h5
 simp only at h5
 rcases hk with rfl | rfl | rfl | rfl
 ·simp only [if_true,Bool.and_eq_true,decide_eq_true_eq,List.length_eq_zero_iff] at h5
  obtain⟨rfl,rfl,hc,hv⟩:=h5
  have hp:(idPut c).1=vput c.length ++ c:=by unfold idPut; rw [if_pos hc]
  cases on with
  | false =>
   simp only [Bool.false_eq_true,if_false] at hv
   obtain rfl:=vSame_iff.1 hv
   have e:=idTake_at hc [0] []
   simp only [List.append_nil,List.length_singleton,List.cons_append,List.nil_append] at e
   have e':idTake (0 :: (vput c.length ++ c)) 1=(c,1+(vput c.length ++ c).length,0):=e
   unfold frTakeBody frBody
   simp [hp,e']
  | true =>
   simp only [if_true] at hv
   have e:=idTake_at hc [1] (vaBytes v)
   simp only [List.length_singleton,List.cons_append,List.nil_append] at e
   have e':idTake (1 :: ((vput c.length ++ c) ++ vaBytes v)) 1=(c,1+(vput c.length ++ c).length,0):=e
   have g:=vaTake_put hv (1 :: (vput c.length ++ c)) []
   rw [List.append_nil,List.cons_append] at g
   have g':vaTake (1 :: ((vput c.length ++ c) ++ vaBytes v)) ((1+(vput c.length ++ c).length:Nat):Int)=(v,(1 :: (vput c.length ++ c)).length+(vaBytes v).length,0):=by
    rw [← g]
    congr 1
    simp only [List.length_cons]
    omega
   unfold frTakeBody frBody
   simp only [if_true,hp,e',g']
   simp
 ·simp only [show ¬ (2:Int)=1 by omega,if_false,if_true,Bool.and_eq_true,decide_eq_true_eq,List.length_eq_zero_iff,Bool.not_eq_true',beq_iff_eq] at h5
  obtain⟨⟨rfl,rfl,hv⟩,rfl⟩:=h5
  obtain rfl:=vSame_iff.1 hv
  unfold frTakeBody frBody
  simp [be8]
  exact sum8_be8 sum hs
 ·simp only [show ¬ (3:Int)=1 by omega,show ¬ (3:Int)=2 by omega,if_false,if_true,Bool.and_eq_true,decide_eq_true_eq,Bool.not_eq_true',beq_iff_eq] at h5
  obtain⟨⟨rfl,rfl,hv⟩,rfl,ht⟩:=h5
  obtain rfl:=vSame_iff.1 hv
  have e:=diTake_put ht [] []
  simp only [List.nil_append,List.append_nil,List.length_nil] at e
  have e':diTake (diBytes t) 0=(t,0+(diBytes t).length,0):=e
  have hp:(diPut t).1=diBytes t:=by unfold diPut; rw [if_pos ht]
  unfold frTakeBody frBody
  simp [hp,e']
 ·simp only [show ¬ (4:Int)=1 by omega,show ¬ (4:Int)=2 by omega,show ¬ (4:Int)=3 by omega,if_false,Bool.and_eq_true,decide_eq_true_eq,List.length_eq_zero_iff,Bool.not_eq_true',beq_iff_eq] at h5
  obtain⟨⟨rfl,rfl,hv⟩,rfl,rfl⟩:=h5
  obtain rfl:=vSame_iff.1 hv
  unfold frTakeBody frBody
  simp

theorem frTake_plain {f:Frm} (h:frMay f=true) (hs:f.sum < 18446744073709551616):frTake (frPlain f)=some f:=by
 have ho:=frMay_iff.1 h
 have hk1:=ho.k1
 have hk4:=ho.k4
 have hs1:=ho.s1
 have hb:=frTakeBody_body ho hs
 have hx:(u8of f.k.toNat).toNat=f.k.toNat:=u8of_toNat (by omega)
 have hg:=vget_vput f.s.toNat (by omega) [u8of f.k.toNat] (frBody f)
 simp only [List.length_singleton,List.cons_append,List.nil_append] at hg
 have hg':vget (u8of f.k.toNat :: (vput f.s.toNat ++ frBody f)) 1=(f.s.toNat,1+(vput f.s.toNat).length,0):=hg
 unfold frPlain frTake
 simp only [hg',hx]
 rw [if_neg (by omega),if_neg (by simp)]
 have hd:(u8of f.k.toNat :: (vput f.s.toNat ++ frBody f)).drop (1+(vput f.s.toNat).length)=frBody f:=by
  rw [Nat.add_comm,List.drop_succ_cons,List.drop_left' rfl]
 rw [hd,hb]
end
section
open Go.ChangeShapes Go.WideShapes Go.ChangeAt Go.RowKit Go.Deep

section
variable {H:Type} {enc:TypeId × Value→H} {w:World} {base:Nat} {spare:Nat→Bool} {held:Bool}

theorem trod_tabF {fuel:Nat} {cs:List Value} {z:DataW H × List MemPlace} (hf:DataW.trod enc Tryz.prog w base spare held fuel 31 cs=some z) :
  ∃ v,cs=[v]∧∃ t:List Row,Tab w v t:=by
 rcases open_slice Tryz.underlying31 hf with ⟨hcs,_⟩ | ⟨x,len,cap,m,n,D',Pl,hcs,_,hl,hm,hmm,_,hi⟩
 ·exact⟨_,hcs,[],tab_nil w⟩
 ·refine ⟨_,hcs,?_⟩
  have hlm:len≤m:=by rw [hmm]; split <;> omega
  rw [show Tryz.prog.cellsOf 73=5 from by kernel_rfl] at hi
  obtain⟨t,htl,ht⟩:=choose_rows (n:=len) (Q:=fun i r => ∀ j u,(rowVals r)[j]?=some u→w.cell? ((x.add (i * 5)).add j)=some u) (fun i hil => by
   obtain⟨cs',hc,htr⟩:=hi i (by omega)
   obtain⟨_,hcl,hat⟩:=World.cells?_some hc
   obtain⟨r,rfl,_,_⟩:=trod_row htr
   refine ⟨r,fun j u hu => ?_⟩
   have hj:j < 5:=by have:=(List.getElem?_eq_some_iff.1 hu).1; rwa [rowVals_len] at this
   rw [hat j hj,hu])
  refine ⟨t,⟨some x,cap,by rw [htl],by omega,by omega,(fun e => by cases e),?_⟩⟩
  by_cases h0:len=0
  ·exact .inl (List.length_eq_zero_iff.1 (by omega))
  ·obtain⟨b,off,spot⟩:=x
   have hc:=ht 0 (by omega) 0 _ rfl
   have hspot:spot=none:=by simpa [Addr.add] using World.cell?_spot hc
   subst hspot
   refine .inr ⟨b,off,rfl,?_,fun i hil => cells5_of fun j u hu => ?_⟩
   ·have:=World.block_lt_of_cell? w _ hc
    simpa [Addr.add] using this
   ·have:=ht i (by omega) j u hu
    rwa [Addr.add_lit,Addr.add_lit] at this

theorem list10F {α:Type} {l:List α} (h:l.length=10):∃ c0 c1 c2 c3 c4 c5 c6 c7 c8 c9,l=[c0,c1,c2,c3,c4,c5,c6,c7,c8,c9]:=by
 match l,h with
 | [c0,c1,c2,c3,c4,c5,c6,c7,c8,c9],_ => exact⟨c0,c1,c2,c3,c4,c5,c6,c7,c8,c9,rfl⟩

theorem trod_u64F {fuel:Nat} {cs:List Value} {x:DataW H × List MemPlace} (h:DataW.trod enc Tryz.prog w base spare held fuel 54 cs=some x):∃ z:Nat,cs=[.int .u64 z]∧z < 18446744073709551616:=by
 obtain⟨z,e,_,hw⟩:=DataW.trod_int Tryz.underlying54 h
 have hw2:0≤z∧z < 18446744073709551616:=by
  simp [Lit.wf,IntKind.min,IntKind.max,IntKind.signed,IntKind.bits] at hw
  omega
 obtain⟨n,rfl⟩:=Int.eq_ofNat_of_zero_le hw2.1
 exact⟨n,e,by omega⟩

theorem trod_frame {fuel:Nat} {cs:List Value} {x:DataW H × List MemPlace} (h:DataW.trod enc Tryz.prog w base spare held fuel 56 cs=some x) :
  ∃ (f:Frm) (v:Value),cs=[.int .i64 f.k,.int .i64 f.s,.bool f.on,.string ⟨f.c.toArray⟩,.int .i64 f.v.sh,.int .i64 f.v.pr,.int .i64 f.v.si,.string ⟨f.v.st.toArray⟩,.int .u64 f.sum,v]∧f.c.length≤maxLen∧f.v.st.length≤maxLen∧f.sum < 18446744073709551616∧Tab w v f.t:=by
 obtain⟨xs,n,_,_,hl,hx,hf⟩:=DataW.trod_struct Tryz.underlying56 h
 have cc:Tryz.prog.cellsOf 56=10:=by kernel_rfl
 have ci:Tryz.prog.cellsOf 3=1:=by kernel_rfl
 have cb:Tryz.prog.cellsOf 4=1:=by kernel_rfl
 have cx:Tryz.prog.cellsOf 9=1:=by kernel_rfl
 have cv:Tryz.prog.cellsOf 53=4:=by kernel_rfl
 have cu:Tryz.prog.cellsOf 54=1:=by kernel_rfl
 have cr:Tryz.prog.cellsOf 31=1:=by kernel_rfl
 rw [cc] at hl
 obtain⟨c0,c1,c2,c3,c4,c5,c6,c7,c8,c9,rfl⟩:=list10F hl
 have get:∀ i,i < 7→xs[i]?=some (xs.getD i (.nil,[])):=fun i hi => by
  have:i < xs.length:=by rw [hx]; exact hi
  simp [List.getD,List.getElem?_eq_getElem this]
 have f0:DataW.trod enc Tryz.prog w base spare held n 3 (([c0,c1,c2,c3,c4,c5,c6,c7,c8,c9].drop 0).take (Tryz.prog.cellsOf 3))=some (xs.getD 0 (.nil,[])):=(hf 0 _ rfl).trans (get 0 (by omega))
 rw [ci] at f0
 have f1:DataW.trod enc Tryz.prog w base spare held n 3 (([c0,c1,c2,c3,c4,c5,c6,c7,c8,c9].drop 1).take (Tryz.prog.cellsOf 3))=some (xs.getD 1 (.nil,[])):=(hf 1 _ rfl).trans (get 1 (by omega))
 rw [ci] at f1
 have f2:DataW.trod enc Tryz.prog w base spare held n 4 (([c0,c1,c2,c3,c4,c5,c6,c7,c8,c9].drop 2).take (Tryz.prog.cellsOf 4))=some (xs.getD 2 (.nil,[])):=(hf 2 _ rfl).trans (get 2 (by omega))
 rw [cb] at f2
 have f3:DataW.trod enc Tryz.prog w base spare held n 9 (([c0,c1,c2,c3,c4,c5,c6,c7,c8,c9].drop 3).take (Tryz.prog.cellsOf 9))=some (xs.getD 3 (.nil,[])):=(hf 3 _ rfl).trans (get 3 (by omega))
 rw [cx] at f3
 have f4:DataW.trod enc Tryz.prog w base spare held n 53 (([c0,c1,c2,c3,c4,c5,c6,c7,c8,c9].drop 4).take (Tryz.prog.cellsOf 53))=some (xs.getD 4 (.nil,[])):=(hf 4 _ rfl).trans (get 4 (by omega))
 rw [cv] at f4
 have f5:DataW.trod enc Tryz.prog w base spare held n 54 (([c0,c1,c2,c3,c4,c5,c6,c7,c8,c9].drop 8).take (Tryz.prog.cellsOf 54))=some (xs.getD 5 (.nil,[])):=(hf 5 _ rfl).trans (get 5 (by omega))
 rw [cu] at f5
 have f6:DataW.trod enc Tryz.prog w base spare held n 31 (([c0,c1,c2,c3,c4,c5,c6,c7,c8,c9].drop 9).take (Tryz.prog.cellsOf 31))=some (xs.getD 6 (.nil,[])):=(hf 6 _ rfl).trans (get 6 (by omega))
 rw [cr] at f6
 obtain⟨z0,e0⟩:=trod_int1 f0
 obtain⟨z1,e1⟩:=trod_int1 f1
 obtain⟨z2,e2⟩:=trod_truth f2
 obtain⟨z3,e3,w3⟩:=trod_text f3
 obtain⟨z4,e4,w4⟩:=trod_value f4
 obtain⟨z5,e5,w5⟩:=trod_u64F f5
 obtain⟨z6,e6,t6,w6⟩:=trod_tabF f6
 simp at e0 e1 e2 e3 e4 e5 e6
 obtain⟨g1,g2,g3,g4⟩:=e4
 subst e0 e1 e2 e3 g1 g2 g3 g4 e5 e6
 exact⟨⟨z0,z1,z2,z3,z4,z5,t6⟩,_,rfl,w3,w4,w5,w6⟩

end
end
section
open Go.ChangeShapes Go.WideShapes Go.ChangeAt Go.RowKit Go.Deep

section
variable {H:Type} {enc:TypeId × Value→H} {w:World} {base:Nat} {spare:Nat→Bool} {held:Bool}

theorem trod_intW {fuel:Nat} {cs:List Value} {x:DataW H × List MemPlace} (h:DataW.trod enc Tryz.prog w base spare held fuel 3 cs=some x):∃ z:Int,cs=[.int .i64 z]∧(Lit.int .i64 z).wf=true:=by
 obtain⟨z,e,_,hw⟩:=DataW.trod_int Tryz.underlying3 h
 exact⟨z,e,hw⟩

theorem trod_frameW {fuel:Nat} {cs:List Value} {x:DataW H × List MemPlace} (h:DataW.trod enc Tryz.prog w base spare held fuel 56 cs=some x) :
  ∃ (f:Frm) (v:Value),cs=[.int .i64 f.k,.int .i64 f.s,.bool f.on,.string ⟨f.c.toArray⟩,.int .i64 f.v.sh,.int .i64 f.v.pr,.int .i64 f.v.si,.string ⟨f.v.st.toArray⟩,.int .u64 f.sum,v]∧(f.c.length≤maxLen∧f.v.st.length≤maxLen∧f.sum < 18446744073709551616∧(Lit.int .i64 f.k).wf=true)∧Tab w v f.t:=by
 obtain⟨f,v,hc,h1,h2,h3,h4⟩:=trod_frame h
 obtain⟨xs,n,_,_,hl,hx,hf⟩:=DataW.trod_struct Tryz.underlying56 h
 have ci:Tryz.prog.cellsOf 3=1:=by kernel_rfl
 have f0:DataW.trod enc Tryz.prog w base spare held n 3 ((cs.drop 0).take (Tryz.prog.cellsOf 3))=some (xs.getD 0 (.nil,[])):=(hf 0 _ rfl).trans (by
  have:0 < xs.length:=by rw [hx]; decide
  simp [List.getD,List.getElem?_eq_getElem this])
 rw [ci,hc] at f0
 obtain⟨z,e,hw⟩:=trod_intW f0
 simp only [List.drop_zero,List.take_succ_cons,List.take_zero,List.cons.injEq,Value.int.injEq,and_true,true_and] at e
 rw [← e] at hw
 exact⟨f,v,hc,⟨h1,h2,h3,hw⟩,h4⟩

theorem open_framew {r:Reach} {b0:Nat} {v:Value} {d:DataW H} {p:List MemPlace} (hv:Value.okWide Tryz.prog w r b0 56 v) (h:DataW.Trod enc Tryz.prog w base spare held 56 v d p) :
  ∃ (f:Frm) (t:Value),v=.agg #[.int .i64 f.k,.int .i64 f.s,.bool f.on,.string ⟨f.c.toArray⟩,.int .i64 f.v.sh,.int .i64 f.v.pr,.int .i64 f.v.si,.string ⟨f.v.st.toArray⟩,.int .u64 f.sum,t]∧(f.c.length≤maxLen∧f.v.st.length≤maxLen∧f.sum < 18446744073709551616∧(Lit.int .i64 f.k).wf=true)∧Tab w t f.t:=by
 obtain⟨cs,rfl,_⟩:=okWide_struct Tryz.underlying56 hv
 obtain⟨fuel,hf⟩:=h
 obtain⟨f,t,hc,ww⟩:=trod_frameW hf
 refine ⟨f,t,?_,ww⟩
 obtain⟨l⟩:=cs
 simp only [Value.cells] at hc
 rw [hc]

end
end
section

structure Que where
 l:List Chg
 la:Bool

def Chg.nought:Chg:=⟨[],false,Val.zero⟩

def quOne (c:Chg):Bool:=idIs c.c && (if c.on=true then vaMay c.v else vSame c.v Val.zero)
def quAt (l:List Chg) (x:List UInt8):Nat:=l.findIdx fun c => c.c == x
def quHas (l:List Chg) (x:List UInt8):Bool:=decide (quAt l x < l.length)
def quNo2 (l:List Chg):Prop:=(l.map (·.c)).Nodup
instance (l:List Chg):Decidable (quNo2 l):=by unfold quNo2; infer_instance
def quMay (q:Que) (room:Int):Bool:=decide ((q.l.length:Int)≤room) && !(q.la && decide (0 < q.l.length)) && q.l.all quOne && decide (quNo2 q.l)
def quEmpty (q:Que):Bool:=decide (q.l.length=0) && !q.la
def quFind (q:Que) (x:List UInt8):Chg × Bool:=if quHas q.l x=true then (q.l.getD (quAt q.l x) Chg.nought,true) else (Chg.nought,false)
def quPush (q:Que) (c:Chg) (room:Int):Que :=
 if q.la=true then q else if quHas q.l c.c=true then ⟨q.l.set (quAt q.l c.c) c,false⟩ else if (q.l.length:Int) < room then ⟨q.l ++ [c],false⟩ else ⟨[],true⟩
def quPop (q:Que):Chg × Que × Bool:=match q.l with
 | [] => (Chg.nought,q,false)
 | c :: l => (c,⟨l,q.la⟩,true)

/-! ### each text once -/
theorem nodup_sub:∀ (a b:List (List UInt8)),a.Nodup→(∀ x ∈ a,x ∈ b)→a.length≤b.length
 | [],_,_,_ => Nat.zero_le _
 | x :: a,b,h,hs => by
  have h':=List.nodup_cons.1 h
  have hx:x ∈ b:=hs x (by simp)
  have:=nodup_sub a (b.erase x) h'.2 fun y hy => (List.mem_erase_of_ne (fun e => h'.1 (by rw [← e]; exact hy))).2 (hs y (by simp [hy]))
  rw [List.length_erase_of_mem hx] at this
  have hpos:0 < b.length:=List.length_pos_iff.2 (fun e => by rw [e] at hx; cases hx)
  simp only [List.length_cons]
  omega

theorem nodup_less:∀ (l a:List (List UInt8)),a.Nodup→(∀ x ∈ a,x ∈ l)→¬ l.Nodup→a.length < l.length
 | [],_,_,_,hn => absurd List.nodup_nil hn
 | x :: l,a,ha,hs,hn => by
  by_cases hx:x ∈ l
  ·have:=nodup_sub a l ha fun y hy => by
    rcases List.mem_cons.1 (hs y hy) with e | h
    ·rw [e]; exact hx
    ·exact h
   simp only [List.length_cons]
   omega
  ·have hl:¬ l.Nodup:=fun h => hn (List.nodup_cons.2 ⟨hx,h⟩)
   have:=nodup_less l (a.erase x) (ha.sublist List.erase_sublist) (fun y hy => by
    have hy':=(List.Nodup.mem_erase_iff ha).1 hy
    exact (List.mem_cons.1 (hs y hy'.2)).resolve_left hy'.1) hl
   have h1:a.length≤(a.erase x).length+1:=by
    by_cases hm:x ∈ a
    ·rw [List.length_erase_of_mem hm]; omega
    ·rw [List.erase_of_not_mem hm]; omega
   simp only [List.length_cons]
   omega

theorem rising_nodup {l:List (List UInt8)} (h:Rising l):l.Nodup:=by
 unfold Rising at h
 refine h.imp fun {a b} hab e => ?_
 rw [e,idLess_irrefl] at hab
 cases hab

theorem mrg_full (l:List (List UInt8)):(mrg l).length=l.length ↔ l.Nodup:=by
 have hr:=rising_nodup (mrg_rising l)
 constructor
 ·intro h
  refine Classical.byContradiction fun hn => ?_
  have:=nodup_less l (mrg l) hr (fun x hx => (mrg_mem l x).1 hx) hn
  omega
 ·intro h
  have h1:=nodup_sub (mrg l) l hr fun x hx => (mrg_mem l x).1 hx
  have h2:=nodup_sub l (mrg l) h fun x hx => (mrg_mem l x).2 hx
  omega

/-! ### what is pushed -/
theorem quMay_iff {q:Que} {room:Int}:quMay q room=true ↔ (q.l.length:Int)≤room∧(q.la=true→q.l=[])∧(∀ c ∈ q.l,quOne c=true)∧quNo2 q.l:=by
 unfold quMay
 simp only [Bool.and_eq_true,decide_eq_true_eq,Bool.not_eq_true',Bool.and_eq_false_iff,decide_eq_false_iff_not,List.all_eq_true]
 constructor
 ·rintro ⟨⟨⟨h1,h2⟩,h3⟩,h4⟩
  refine ⟨h1,fun hl => ?_,h3,h4⟩
  rcases h2 with h2 | h2
  ·rw [hl] at h2; cases h2
  ·exact List.length_eq_zero_iff.1 (by omega)
 ·rintro ⟨h1,h2,h3,h4⟩
  refine ⟨⟨⟨h1,?_⟩,h3⟩,h4⟩
  cases hl:q.la
  ·exact .inl rfl
  ·right; rw [h2 hl]; simp

theorem quNo2_tail {c:Chg} {l:List Chg} (h:quNo2 (c :: l)):quNo2 l:=by
 unfold quNo2 at h ⊢
 rw [List.map_cons] at h
 exact (List.nodup_cons.1 h).2
end
section
open Go.RowKit Go.ChangeMaps Go.MapKept

def seenData (r:Row):DataW Unit:=.agg [.lit (.string r.c),.lit (.int .i64 r.v.sh),.lit (.int .i64 r.v.pr),.lit (.int .i64 r.v.si),.lit (.string r.v.st)]

def seenElem:Value→Option (DataW Unit × List MemPlace)
 | .agg cs => match cs.toList with
  | [.string c,.int .i64 x,.int .i64 y,.int .i64 z,.string s] => some (seenData ⟨c.data.toList,x,y,z,s.data.toList⟩,[])
  | _ => none
 | _ => none

def firstRow (t:List Row) (x:List UInt8):Row:=if (diGet t x).2=true then ⟨x,(diGet t x).1⟩ else Row.zero

def FirstsAt (w:World) (B:Nat) (t:List Row):Prop :=
 ∃ n,∃ D:DataW Unit,n≤t.length∧w.ownsMap Tryz.prog 9 seenElem B n D ∧
  ∀ x:List UInt8,Maps.has D (.string x)=(diGet t x).2∧D.atKey (.string x) (seenData Row.zero)=seenData (firstRow t x)

theorem FirstsAt.lt {w:World} {B:Nat} {t:List Row} (h:FirstsAt w B t):B < w.heap.size:=by
 obtain⟨_,_,_,h,_⟩:=h
 exact h.lt

theorem FirstsAt.later {w w':World} {B:Nat} {t:List Row} (h:FirstsAt w B t) (hb:Below w.heap.size w w'):FirstsAt w' B t:=by
 have hlt:=h.lt
 obtain⟨n,D,h1,⟨es,clock,h2,h3,h4,h5⟩,h6⟩:=h
 exact⟨n,D,h1,⟨es,clock,(hb.block B hlt).trans h2,h3,h4,h5⟩,h6⟩

theorem diGet_snoc (t:List Row) (r:Row) (x:List UInt8):diGet (t ++ [r]) x=if (diGet t x).2=true then diGet t x else (if r.c=x then (r.v,true) else (Val.zero,false)):=by
 rw [diGet_append]
 rfl

theorem FirstsAt.old {w:World} {B:Nat} {t:List Row} (h:FirstsAt w B t) (r:Row) (hr:(diGet t r.c).2=true):FirstsAt w B (t ++ [r]):=by
 obtain⟨n,D,h1,h2,h3⟩:=h
 have key:∀ x,diGet (t ++ [r]) x=diGet t x:=fun x => by
  rw [diGet_snoc]
  by_cases hx:(diGet t x).2=true
  ·rw [if_pos hx]
  ·rw [if_neg hx]
   have:¬ r.c=x:=fun e => hx (by rw [← e]; exact hr)
   rw [if_neg this]
   exact ((diGet_zero t x).resolve_left hx).symm
 refine ⟨n,D,by simp; omega,h2,fun x => ?_⟩
 unfold firstRow
 rw [key x]
 exact h3 x
end
section
open Go.RowKit

def Chg.zero:Chg:=⟨[],false,Val.zero⟩

def chgVals (r:Chg):List Value:=[.string ⟨r.c.toArray⟩,.bool r.on,.int .i64 r.v.sh,.int .i64 r.v.pr,.int .i64 r.v.si,.string ⟨r.v.st.toArray⟩]

def Cells6 (w:World) (b o:Nat) (r:Chg):Prop :=
 w.cell? ⟨b,o,none⟩=some (.string ⟨r.c.toArray⟩)∧w.cell? ⟨b,o+1,none⟩=some (.bool r.on)∧w.cell? ⟨b,o+2,none⟩=some (.int .i64 r.v.sh)∧w.cell? ⟨b,o+3,none⟩=some (.int .i64 r.v.pr) ∧
  w.cell? ⟨b,o+4,none⟩=some (.int .i64 r.v.si)∧w.cell? ⟨b,o+5,none⟩=some (.string ⟨r.v.st.toArray⟩)

theorem Cells6.later {w w':World} {b o:Nat} {r:Chg} (h:Cells6 w b o r) (hb:Below w.heap.size w w') (hlt:b < w.heap.size):Cells6 w' b o r:=by
 obtain⟨h0,h1,h2,h3,h4,h5⟩:=h
 have k:∀ o,w'.cell? ⟨b,o,none⟩=w.cell? ⟨b,o,none⟩:=fun o => hb.cell (p:=⟨b,o,none⟩) hlt
 exact⟨(k _).trans h0,(k _).trans h1,(k _).trans h2,(k _).trans h3,(k _).trans h4,(k _).trans h5⟩

def Chgs (w:World) (v:Value) (t:List Chg):Prop :=
 ∃ a cap,v=.slice a t.length cap∧t.length≤cap∧cap≤maxLen∧(a=none→cap=0) ∧
  (t=[]∨∃ b off,a=some ⟨b,off,none⟩∧b < w.heap.size∧∀ i,i < t.length→Cells6 w b (off+i * 6) (t.getD i Chg.zero))

theorem Chgs.later {w w':World} {v:Value} {t:List Chg} (h:Chgs w v t) (hb:Below w.heap.size w w'):Chgs w' v t:=by
 obtain⟨a,cap,h1,h2,h3,h4,h5⟩:=h
 refine ⟨a,cap,h1,h2,h3,h4,?_⟩
 rcases h5 with h5 | ⟨b,off,e,hlt,hc⟩
 ·exact .inl h5
 ·exact .inr ⟨b,off,e,Nat.lt_of_lt_of_le hlt hb.size,fun i hi => (hc i hi).later hb hlt⟩

theorem chgs_nil (w:World):Chgs w (.slice none 0 0) []:=⟨none,0,rfl,by simp,by simp,fun _ => rfl,.inl rfl⟩

theorem Chgs.row {w wr:World} {a:Option Addr} {n cap:Nat} {t:List Chg} (h:Chgs w (.slice a n cap) t) (hb:Below w.heap.size w wr) (k:Nat) (hk:k < t.length) :
  ∃ b off,a=some ⟨b,off,none⟩∧Cells6 wr b (off+k * 6) (t.getD k Chg.zero):=by
 obtain⟨a',cap',e,_,_,_,h⟩:=h.later hb
 simp only [Value.slice.injEq] at e
 rcases h with h | ⟨b,off,e',_,hc⟩
 ·rw [h] at hk; simp at hk
 ·exact⟨b,off,e.1.trans e',hc k hk⟩

theorem Chgs.open' {w:World} {v:Value} {t:List Chg} (h:Chgs w v t):∃ a cap,v=.slice a t.length cap∧t.length≤9223372036854775807:=by
 obtain⟨a,cap,e,h1,h2,_⟩:=h
 unfold maxLen at h2
 exact⟨a,cap,e,by omega⟩

def cellsOfC (t:List Chg):List Value:=(t.map chgVals).flatten

theorem cellsOfC_cons (r:Chg) (t:List Chg):cellsOfC (r :: t)=chgVals r ++ cellsOfC t:=rfl
theorem chgVals_len (r:Chg):(chgVals r).length=6:=rfl

theorem cellsOfC_at:∀ (t:List Chg) (i j:Nat),i < t.length→j < 6→(cellsOfC t)[i * 6+j]?=(chgVals (t.getD i Chg.zero))[j]?
 | [],i,j,h,_ => by simp at h
 | r :: t,0,j,_,hj => by
  rw [cellsOfC_cons,Nat.zero_mul,Nat.zero_add,List.getElem?_append_left (by rw [chgVals_len]; exact hj)]
  rfl
 | r :: t,i+1,j,h,hj => by
  rw [cellsOfC_cons,List.getElem?_append_right (by rw [chgVals_len]; omega),chgVals_len,show (i+1) * 6+j - 6=i * 6+j by omega,cellsOfC_at t i j (by simpa using h) hj]
  rfl

theorem cells6_of {w:World} {b o:Nat} {r:Chg} (h:∀ j u,(chgVals r)[j]?=some u→w.cell? ⟨b,o+j,none⟩=some u):Cells6 w b o r :=
 ⟨h 0 _ rfl,h 1 _ rfl,h 2 _ rfl,h 3 _ rfl,h 4 _ rfl,h 5 _ rfl⟩

def OwnC (w:World) (base:Nat) (v:Value) (t:List Chg):Prop:=w.ownsRow base 105 6 v t.length (cellsOfC t)

theorem OwnC.alloc {w:World} {base:Nat} {v:Value} {t:List Chg} (h:OwnC w base v t) (o:Obj):OwnC (w.alloc o) base v t:=World.ownsRow.alloc h o

theorem OwnC.later {w w':World} {base:Nat} {v:Value} {t:List Chg} (h:OwnC w base v t) (hb:Below w.heap.size w w'):OwnC w' base v t:=by
 refine ⟨h.1,?_⟩
 rcases h.2 with h' | ⟨g,cap,cur,h1,h2,h3,h4⟩
 ·exact .inl h'
 ·exact .inr ⟨g,cap,cur,h1,h2,by rw [hb.block g (Array.getElem?_eq_some_iff.1 h3).1]; exact h3,h4⟩

theorem OwnC.chgs {w:World} {base:Nat} {v:Value} {t:List Chg} (h:OwnC w base v t):Chgs w v t:=by
 rcases h with ⟨_,⟨rfl,h0⟩ | ⟨g,cap,cur,rfl,hb,hg,hn,hc,hsz,htk⟩⟩
 ·obtain rfl:t=[]:=List.length_eq_zero_iff.1 h0
  exact chgs_nil w
 ·refine ⟨some ⟨g,0,none⟩,cap,rfl,hn,hc,(fun e => by cases e),.inr ⟨g,0,rfl,(Array.getElem?_eq_some_iff.1 hg).1,fun i hi => ?_⟩⟩
  refine cells6_of fun j u hu => ?_
  have hj:j < 6:=by have:=(List.getElem?_eq_some_iff.1 hu).1; rwa [chgVals_len] at this
  rw [Nat.zero_add,cell_of_row w g (i * 6+j) cur _ (0,0) hg]
  have h1:cur.toList[i * 6+j]?=(cellsOfC t)[i * 6+j]?:=by
   rw [← htk,List.getElem?_take,if_pos (by omega)]
  rw [← hu,← cellsOfC_at t i j hi hj,← h1]
  simp

theorem Tryz.infoChange:(Tryz.prog.info? 105).map (fun i => (i.zero,i.size,i.bytes))=some (some (.agg #[.string ⟨#[]⟩,.bool false,.int .i64 0,.int .i64 0,.int .i64 0,.string ⟨#[]⟩]),6,64):=by kernel_rfl
end
section
open Go.RowKit

def cellsS {α:Type} (vals:α→List Value) (t:List α):List Value:=(t.map vals).flatten

structure RowOK {α:Type} (P:Program) (vals:α→List Value) (sz:Nat) (zero:α) (T S:TypeId) (Z:Value) (bytes:Nat):Prop where
 len:∀ a,(vals a).length=sz
 one:∀ a,∀ u ∈ vals a,u.oneCell'=true
 pos:0 < sz
 small:sz≤100
 under:P.underlying S=some (.slice T)
 info:(P.info? T).map (fun i => (i.zero,i.size,i.bytes))=some (some Z,sz,bytes)
 zvals:Z.cells.toList=vals zero
 fits:bytes≤4096

section pure
variable {α:Type} {vals:α→List Value} {sz:Nat}

theorem cellsS_nil:cellsS vals []=[]:=rfl
theorem cellsS_cons (r:α) (t:List α):cellsS vals (r :: t)=vals r ++ cellsS vals t:=rfl
theorem cellsS_append (a b:List α):cellsS vals (a ++ b)=cellsS vals a ++ cellsS vals b:=by simp [cellsS]
theorem cellsS_one (r:α):cellsS vals [r]=vals r:=by simp [cellsS]

theorem cellsS_len (hl:∀ a,(vals a).length=sz):∀ t:List α,(cellsS vals t).length=t.length * sz
 | [] => by simp [cellsS]
 | r :: t => by rw [cellsS_cons,List.length_append,hl,cellsS_len hl t,List.length_cons,Nat.add_mul,Nat.one_mul,Nat.add_comm]

theorem cellsS_at (hl:∀ a,(vals a).length=sz) (zero:α):∀ (t:List α) (i j:Nat),i < t.length→j < sz→(cellsS vals t)[i * sz+j]?=(vals (t.getD i zero))[j]?
 | [],i,j,h,_ => by simp at h
 | r :: t,0,j,_,hj => by
  rw [cellsS_cons,Nat.zero_mul,Nat.zero_add,List.getElem?_append_left (by rw [hl]; exact hj)]
  rfl
 | r :: t,i+1,j,h,hj => by
  rw [cellsS_cons,List.getElem?_append_right (by rw [hl,Nat.add_mul]; omega),hl,show (i+1) * sz+j - sz=i * sz+j by rw [Nat.add_mul]; omega,cellsS_at hl zero t i j (by simpa using h) hj]
  rfl

theorem cellsS_single (ho:∀ a,∀ u ∈ vals a,u.oneCell'=true) (t:List α):∀ u ∈ cellsS vals t,u.oneCell'=true:=by
 intro u hu
 obtain⟨l,hl,hu⟩:=List.mem_flatten.1 hu
 obtain⟨r,_,rfl⟩:=List.mem_map.1 hl
 exact ho r u hu

theorem cellsS_take (hl:∀ a,(vals a).length=sz) (u:List α) (o:Nat):(cellsS vals u).take (o * sz)=cellsS vals (u.take o):=by
 have h:=cellsS_append (vals:=vals) (u.take o) (u.drop o)
 rw [List.take_append_drop] at h
 rw [h]
 by_cases ho:o≤u.length
 ·rw [List.take_left' (by rw [cellsS_len hl,List.length_take,Nat.min_eq_left ho])]
 ·have e1:u.drop o=[]:=List.drop_of_length_le (by omega)
  have e2:u.take o=u:=List.take_of_length_le (by omega)
  rw [e1,e2,cellsS_nil,List.append_nil,List.take_of_length_le (by rw [cellsS_len hl]; exact Nat.mul_le_mul_right _ (by omega))]

theorem cellsS_drop (hl:∀ a,(vals a).length=sz) (u:List α) (o:Nat):(cellsS vals u).drop (o * sz)=cellsS vals (u.drop o):=by
 have h:=cellsS_append (vals:=vals) (u.take o) (u.drop o)
 rw [List.take_append_drop] at h
 by_cases ho:o≤u.length
 ·rw [h,List.drop_left' (by rw [cellsS_len hl,List.length_take,Nat.min_eq_left ho])]
 ·have e1:u.drop o=[]:=List.drop_of_length_le (by omega)
  rw [e1,cellsS_nil,List.drop_of_length_le (by rw [cellsS_len hl]; exact Nat.mul_le_mul_right _ (by omega))]

def layS {β:Type} (u:List β) (o:Nat) (ms:List β):List β:=u.take o ++ (ms ++ u.drop (o+ms.length))

def putS {β:Type} (t:List β) (i:Nat) (r:β):List β:=t.take i ++ ([r] ++ t.drop i)

end pure

section rows
variable {α:Type} {P:Program} {vals:α→List Value} {sz:Nat} {zero:α} {T S:TypeId} {Z:Value} {bytes:Nat}

def OwnS (vals:α→List Value) (sz:Nat) (T:TypeId) (w:World) (base:Nat) (v:Value) (t:List α):Prop:=w.ownsRow base T sz v t.length (cellsS vals t)

def OwnCS (sz:Nat) (T:TypeId) (w:World) (base g n cap:Nat) (xs:List Value):Prop:=w.ownsRow base T sz (.slice (some ⟨g,0,none⟩) n cap) n xs

def SrcS (vals:α→List Value) (w:World) (ad:Addr) (ms:List α):Prop:=∀ j u,(cellsS vals ms)[j]?=some u→w.cell? (ad.add j)=some u

def CellsAt (w:World) (b o:Nat) (vs:List Value):Prop:=∀ j u,vs[j]?=some u→w.cell? ⟨b,o+j,none⟩=some u

theorem CellsAt.later {w w':World} {b o:Nat} {vs:List Value} (h:CellsAt w b o vs) (hb:Below w.heap.size w w'):CellsAt w' b o vs:=by
 intro j u hu
 have:=h j u hu
 rw [hb.cell (World.block_lt_of_cell? w _ this)]
 exact this

def RdS (vals:α→List Value) (sz:Nat) (zero:α) (w:World) (v:Value) (l:List α):Prop :=
 ∃ a cap,v=.slice a l.length cap∧l.length≤cap∧cap≤maxLen∧(a=none→cap=0) ∧
  (l=[]∨∃ b off,a=some ⟨b,off,none⟩∧b < w.heap.size∧∀ i,i < l.length→CellsAt w b (off+i * sz) (vals (l.getD i zero)))

theorem RdS.later {w w':World} {v:Value} {l:List α} (h:RdS vals sz zero w v l) (hb:Below w.heap.size w w'):RdS vals sz zero w' v l:=by
 obtain⟨a,cap,h1,h2,h3,h4,h5⟩:=h
 refine ⟨a,cap,h1,h2,h3,h4,?_⟩
 rcases h5 with h5 | ⟨b,off,e,hlt,hc⟩
 ·exact .inl h5
 ·exact .inr ⟨b,off,e,Nat.lt_of_lt_of_le hlt hb.size,fun i hi => (hc i hi).later hb⟩

theorem rdS_nil (w:World):RdS vals sz zero w (.slice none 0 0) []:=⟨none,0,rfl,by simp,by simp,fun _ => rfl,.inl rfl⟩

theorem RdS.row {w wr:World} {a:Option Addr} {n cap:Nat} {l:List α} (h:RdS vals sz zero w (.slice a n cap) l) (hb:Below w.heap.size w wr) (k:Nat) (hk:k < l.length) :
  ∃ b off,a=some ⟨b,off,none⟩∧CellsAt wr b (off+k * sz) (vals (l.getD k zero)):=by
 obtain⟨a',cap',e,_,_,_,h⟩:=h.later hb
 simp only [Value.slice.injEq] at e
 rcases h with h | ⟨b,off,e',_,hc⟩
 ·rw [h] at hk; simp at hk
 ·exact⟨b,off,e.1.trans e',hc k hk⟩

theorem RdS.open' {w:World} {v:Value} {l:List α} (h:RdS vals sz zero w v l):∃ a cap,v=.slice a l.length cap∧l.length≤9223372036854775807:=by
 obtain⟨a,cap,e,h1,h2,_⟩:=h
 unfold maxLen at h2
 exact⟨a,cap,e,by omega⟩

theorem OwnS.alloc {w:World} {base:Nat} {v:Value} {t:List α} (h:OwnS vals sz T w base v t) (o:Obj):OwnS vals sz T (w.alloc o) base v t:=World.ownsRow.alloc h o

theorem OwnS.drew {w:World} {base:Nat} {v:Value} {t:List α} (h:OwnS vals sz T w base v t):OwnS vals sz T w.drew base v t:=World.ownsRow.drew h

theorem ownS_nil (w:World) (base:Nat):OwnS vals sz T w base (.slice none 0 0) []:=World.ownsRow_nil w base _ _

theorem ownS_made (w:World):OwnS vals sz T (w.alloc (.cells #[] T)) w.heap.size (.slice (some ⟨w.heap.size,0,none⟩) 0 0) [] :=
 World.ownsRow_made w #[] 0 (Nat.le_refl _) (by decide) (by simp)

theorem OwnS.later {w w':World} {base:Nat} {v:Value} {t:List α} (h:OwnS vals sz T w base v t) (hb:Below w.heap.size w w'):OwnS vals sz T w' base v t:=by
 refine ⟨h.1,?_⟩
 rcases h.2 with h' | ⟨g,cap,cur,h1,h2,h3,h4⟩
 ·exact .inl h'
 ·exact .inr ⟨g,cap,cur,h1,h2,by rw [hb.block g (Array.getElem?_eq_some_iff.1 h3).1]; exact h3,h4⟩

theorem ownS_low {w:World} {base base':Nat} {v:Value} {t:List α} (h:OwnS vals sz T w base v t) (hb:base'≤base):OwnS vals sz T w base' v t:=by
 refine ⟨h.1,?_⟩
 rcases h.2 with h' | ⟨g,cap,cur,h1,h2,h3⟩
 ·exact .inl h'
 ·exact .inr ⟨g,cap,cur,h1,by omega,h3⟩

theorem ltS {i n j sz:Nat} (hi:i < n) (hj:j < sz):i * sz+j < n * sz:=by
 have:=Nat.mul_le_mul_right sz (show i+1≤n by omega)
 rw [Nat.add_mul,Nat.one_mul] at this
 omega

theorem OwnS.rd (D:RowOK P vals sz zero T S Z bytes) {w:World} {base:Nat} {v:Value} {t:List α} (h:OwnS vals sz T w base v t):RdS vals sz zero w v t:=by
 rcases h with ⟨_,⟨rfl,h0⟩ | ⟨g,cap,cur,rfl,hb,hg,hn,hc,hsz,htk⟩⟩
 ·obtain rfl:t=[]:=List.length_eq_zero_iff.1 h0
  exact rdS_nil w
 ·refine ⟨some ⟨g,0,none⟩,cap,rfl,hn,hc,(fun e => by cases e),.inr ⟨g,0,rfl,(Array.getElem?_eq_some_iff.1 hg).1,fun i hi => ?_⟩⟩
  intro j u hu
  have hj:j < sz:=by have:=(List.getElem?_eq_some_iff.1 hu).1; rwa [D.len] at this
  rw [Nat.zero_add,cell_of_row w g (i * sz+j) cur _ (0,0) hg]
  have h1:cur.toList[i * sz+j]?=(cellsS vals t)[i * sz+j]?:=by
   rw [← htk,List.getElem?_take,if_pos (ltS hi hj)]
  rw [← hu,← cellsS_at D.len zero t i j hi hj,← h1]
  simp

theorem OwnS.head {w:World} {base g n cap:Nat} {u:List α} (h:OwnS vals sz T w base (.slice (some ⟨g,0,none⟩) n cap) u):n=u.length∧base≤g∧g < w.heap.size∧n≤cap∧cap≤maxLen∧∃ cur:Array Value,w.heap[g]?=some (.cells cur T (0,0))∧cur.size=cap * sz:=by
 rcases h with ⟨_,⟨h',_⟩ | ⟨g',cap',cur,h',hb,hg,hnc,hcm,hcs,_⟩⟩
 ·simp at h'
 ·simp only [Value.slice.injEq,Option.some.injEq,Addr.mk.injEq,and_true] at h'
  obtain⟨rfl,h2,rfl⟩:=h'
  exact⟨h2,hb,(Array.getElem?_eq_some_iff.1 hg).1,by omega,hcm,cur,hg,hcs⟩

theorem OwnS.cellAt (_D:RowOK P vals sz zero T S Z bytes) {w:World} {base g n cap:Nat} {u:List α} (h:OwnS vals sz T w base (.slice (some ⟨g,0,none⟩) n cap) u) (j:Nat) (hj:j < u.length * sz):w.cell? ⟨g,j,none⟩=(cellsS vals u)[j]?:=by
 have hn:=h.head.1
 subst hn
 exact World.ownsRow.cellAt h j hj

theorem OwnS.frozenAt {w:World} {base g n cap:Nat} {u:List α} (h:OwnS vals sz T w base (.slice (some ⟨g,0,none⟩) n cap) u) (j:Nat):w.frozen? ⟨g,j,none⟩=false:=by
 have hn:=h.head.1
 subst hn
 exact World.ownsRow.frozenAt h j

theorem OwnS.someAt (D:RowOK P vals sz zero T S Z bytes) {w:World} {base g n cap:Nat} {u:List α} (h:OwnS vals sz T w base (.slice (some ⟨g,0,none⟩) n cap) u) (j:Nat) (hj:j < u.length * sz):(w.cell? ⟨g,j,none⟩).isSome=true:=by
 rw [h.cellAt D j hj,List.getElem?_eq_getElem (by rw [cellsS_len D.len]; exact hj)]
 rfl

theorem OwnS.row (D:RowOK P vals sz zero T S Z bytes) {w:World} {base g n cap:Nat} {u:List α} (h:OwnS vals sz T w base (.slice (some ⟨g,0,none⟩) n cap) u) {k:Nat} (hk:k < u.length):CellsAt w g (k * sz) (vals (u.getD k zero)):=by
 intro j x hx
 have hj:j < sz:=by have:=(List.getElem?_eq_some_iff.1 hx).1; rwa [D.len] at this
 rw [h.cellAt D _ (ltS hk hj),cellsS_at D.len zero u k j hk hj,hx]

theorem OwnS.src (D:RowOK P vals sz zero T S Z bytes) {w:World} {base g n cap:Nat} {u:List α} (h:OwnS vals sz T w base (.slice (some ⟨g,0,none⟩) n cap) u) (o k:Nat) (hk:o+k≤u.length):SrcS vals w ⟨g,o * sz,none⟩ ((u.drop o).take k):=by
 intro j x hx
 have hj:=(List.getElem?_eq_some_iff.1 hx).1
 rw [cellsS_len D.len,List.length_take,List.length_drop] at hj
 have h1:min k (u.length - o) * sz≤k * sz:=Nat.mul_le_mul_right _ (Nat.min_le_left _ _)
 have h2:o * sz+k * sz≤u.length * sz:=by rw [← Nat.add_mul]; exact Nat.mul_le_mul_right _ hk
 rw [Addr.add_lit,h.cellAt D _ (by omega),← hx]
 rw [← cellsS_take D.len,← cellsS_drop D.len,List.getElem?_take,if_pos (by omega),List.getElem?_drop]

theorem RdS.src (D:RowOK P vals sz zero T S Z bytes) {w:World} {ad:Addr} {n cap:Nat} {t:List α} (h:RdS vals sz zero w (.slice (some ad) n cap) t):SrcS vals w ad t:=by
 obtain⟨a',cap',e,_,_,_,h⟩:=h
 simp only [Value.slice.injEq] at e
 intro j u hu
 have hj:=(List.getElem?_eq_some_iff.1 hu).1
 rw [cellsS_len D.len] at hj
 rcases h with h | ⟨b,off,e',_,hc⟩
 ·rw [h] at hj; simp at hj
 ·have e2:=e.1.trans e'
  injection e2 with e2
  subst e2
  have hm:j % sz < sz:=Nat.mod_lt _ D.pos
  have hd:j=j / sz * sz+j % sz:=by have:=Nat.div_add_mod j sz; rw [Nat.mul_comm] at this; omega
  have hq:j / sz < t.length:=(Nat.div_lt_iff_lt_mul D.pos).2 hj
  rw [hd,cellsS_at D.len zero t (j / sz) (j % sz) hq hm] at hu
  have:=hc (j / sz) hq (j % sz) u hu
  rw [Addr.add_lit,hd,← Nat.add_assoc]
  exact this

theorem wpList_append_S (D:RowOK P vals sz zero T S Z bytes) {w:World} {ops:Array Oper} {rest:List Oper} {o:Oper} {a:Act} {Q:Exit→Act→World→Prop}
  (hgd:o.guard=none) (s x:Operand) (ho:o.op=.call { callee:=.builtin .append,args:=#[s,x],argTypes:=#[S,S] })
  (base:Nat) (v:Value) (t:List α) (hs:a.eval s=v) (hown:OwnS vals sz T w base v t)
  (ao:Option Addr) (m c:Nat) (ms:List α) (hx:a.eval x=.slice ao m c) (hm:m=ms.length) (hnone:ao=none→c=0∧ms=[])
  (hsome:∀ ad,ao=some ad→SrcS vals w ad ms)
  (hlen:t.length+ms.length < 4294967296) (hbase:base≤w.heap.size)
  (h:∀ v' w',OwnS vals sz T w' base v' (t ++ ms)→Below base w w'→wpList P ops Q rest (a.put o.dst v') w') :
  wpList P ops Q (o :: rest) a w:=by
 obtain⟨i,hi,hz,hsize,hby⟩:=info_parts D.info
 cases ao with
 | none =>
  obtain⟨rfl,rfl⟩:=hnone rfl
  simp only [List.length_nil] at hm
  subst hm
  exact wpList_append_own_none hgd s x S ho base T i sz D.under hi v t.length (cellsS vals t) hs hown hx (h v w (by simpa using hown) (Below.refl _ _))
 | some ad =>
  subst hm
  have hzl:Z.cells.size=sz:=by have:=congrArg List.length D.zvals; rwa [Array.length_toList,D.len] at this
  refine wpList_append_own _ hgd s x S ho base T i _ sz bytes D.under hi hz hsize hby hzl D.pos v t.length (cellsS vals t) hs hown ad ms.length c (cellsS vals ms) hx (cellsS_len D.len ms) (hsome ad rfl) (cellsS_single D.one ms)
   (by unfold maxLen; omega) (Nat.le_trans (Nat.mul_le_mul (show t.length+ms.length≤4294967296 by omega) D.fits) (by decide)) hbase ?_
  intro v' w' hown' hgrow _
  refine h v' w' ?_ ((Below.refl base w).grown hgrow hbase (fun k hk => (World.ownsRow.lt hown k hk).1))
  unfold OwnS
  rw [cellsS_append,List.length_append]
  exact hown'

theorem srcS_new {w:World} {r:α} {cs:Array Value} (hcs:cs.toList=vals r) {e:TypeId} {B:Nat} (hB:B=w.heap.size):∀ ad,some (⟨B,0,none⟩ : Addr)=some ad→SrcS vals (w.alloc (.cells cs e)) ad [r]:=by
 intro ad had j u hu
 subst hB
 obtain rfl:=Option.some.inj had
 rw [cellsS_one,← hcs] at hu
 rw [Addr.add_lit,Nat.zero_add,World.cell?_alloc_at _ _ _ _ rfl,← hu]
 simp

theorem OwnCS.drew {w:World} {base g n cap:Nat} {xs:List Value} (h:OwnCS sz T w base g n cap xs):OwnCS sz T w.drew base g n cap xs:=World.ownsRow.drew h

theorem OwnCS.rows {w:World} {base g cap n:Nat} {t:List α} (h:OwnCS sz T w base g n cap (cellsS vals t)) (hn:n=t.length):OwnS vals sz T w base (.slice (some ⟨g,0,none⟩) n cap) t:=by
 subst hn
 exact h

def LoneS (vals:α→List Value) (T:TypeId) (w:World) (B:Nat) (r:α):Prop:=∃ cs:Array Value,cs.toList=vals r∧w.heap[B]?=some (.cells cs T (0,0))

theorem LoneS.later {w w':World} {B:Nat} {r:α} (h:LoneS vals T w B r) (hb:Below w.heap.size w w'):LoneS vals T w' B r:=by
 obtain⟨cs,h1,h2⟩:=h
 exact⟨cs,h1,(hb.block B (Array.getElem?_eq_some_iff.1 h2).1).trans h2⟩

theorem LoneS.lt {w:World} {B:Nat} {r:α} (h:LoneS vals T w B r):B < w.heap.size:=by
 obtain⟨cs,h1,h2⟩:=h
 exact (Array.getElem?_eq_some_iff.1 h2).1

theorem LoneS.src {w:World} {B:Nat} {r:α} (h:LoneS vals T w B r):SrcS vals w ⟨B,0,none⟩ [r]:=by
 obtain⟨cs,h1,h2⟩:=h
 intro j u hu
 rw [cellsS_one,← h1] at hu
 rw [Addr.add_lit,Nat.zero_add,cell_of_row w B j _ _ (0,0) h2,← hu]
 simp

theorem LoneS.free {w:World} {B:Nat} {r:α} (h:LoneS vals T w B r) (j:Nat):w.frozen? ⟨B,j,none⟩=false:=by
 obtain⟨cs,h1,h2⟩:=h
 exact frozen_of_row w B j _ _ h2

theorem LoneS.shape (hl:∀ a,(vals a).length=sz) {w:World} {B:Nat} {r:α} (h:LoneS vals T w B r):w.shape? B=some (T,sz):=by
 obtain⟨cs,h1,h2⟩:=h
 have hs:cs.size=sz:=by rw [← Array.length_toList,h1,hl]
 simp only [World.shape?,h2,hs]

theorem eqlS_nil_some (D:RowOK P vals sz zero T S Z bytes) (w:World) (x:Addr) (n c:Nat):(binOp .eql S (.slice (some x) n c) (.slice none 0 0)).run P w=.ok (.bool false) w:=by
 rw [Lib.run_eql_slice_nil w _ _ _ _ _ _ _ D.under]
 rfl

theorem eqlS_nil_nil (D:RowOK P vals sz zero T S Z bytes) (w:World) (n c:Nat):(binOp .eql S (.slice none n c) (.slice none 0 0)).run P w=.ok (.bool true) w:=by
 rw [Lib.run_eql_slice_nil w _ _ _ _ _ _ _ D.under]
 rfl

end rows
end
end Go.Proofs.YtmpigdokghngiaaGreat
