/-
 TEXTS OF THE PROOF, one behind the other: Aid, SeqS, RosRow, EntIns, RosHas, RosGet, RosFirst, RosFirstC.
-/
import Derived.Test.YtphfinlfabklmaaGreatB01
import Derived.Test.YtphfinlfabklmaaGreatB09
import Derived.Lib.Hide
import Derived.Maps.OwnSet
import Derived.Deep.RegionHeld
import Derived.Deep.AppendLies
import Derived.WalkSpells
import Derived.StillTailTactics

set_option maxHeartbeats 12800000
set_option maxRecDepth 100000

section

namespace Go.Proofs.YtphfinlfabklmaaGreat
open Go.RowKit

theorem below2Z {w a b:World} (h1:Below w.heap.size w a) (h2:Below a.heap.size a b):Below w.heap.size w b:=h1.trans (h2.mono h1.size)

theorem bl_allocZ {w a:World} (h:Below w.heap.size w a) (o:Obj):Below w.heap.size w (a.alloc o):=h.alloc h.size o

theorem bl_newZ (w:World) (o:Obj):Below w.heap.size w (w.alloc o):=(Below.refl _ _).alloc (Nat.le_refl _) o

theorem regrownZ {w w':World} (h:∃ p:Regrown,w'=Sort.grow (redrawn w p.d) p.os):Below w.heap.size w w':=by
 obtain⟨p,rfl⟩:=h
 exact below_regrown _ _ _

theorem cellsAt_made {w:World} {cs:Array Value} {vs:List Value} (h:cs.toList=vs) (T:TypeId) {B:Nat} (hB:B=w.heap.size):CellsAt (w.alloc (.cells cs T)) B 0 vs:=by
 subst hB
 intro j u hu
 rw [Nat.zero_add,World.cell?_alloc_at _ _ _ _ rfl,← hu,← h]
 simp

end Go.Proofs.YtphfinlfabklmaaGreat

end

section

namespace Go.Proofs.YtphfinlfabklmaaGreat
open Go.RowKit

theorem run_slice_from_S {α:Type} {P:Program} {vals:α→List Value} {sz:Nat} {zero:α} {T S:TypeId} {Z:Value} {bytes:Nat} (D:RowOK P vals sz zero T S Z bytes) (w:World) (ad:Addr) (n cap l:Nat) (I:Int) (hI:I=(l:Int)) (h:l≤n) :
  (Instr.slice S (.slice (some ad) n cap) (some (.int .i64 I)) none none).run P w=.ok (.slice (some (if cap=l then ad else ad.add (l * sz))) (n - l) (cap - l)) w:=by
 obtain⟨i,hi,hz,hsize,hby⟩:=info_parts D.info
 subst hI
 have he:P.elem S=T:=by unfold Program.elem; rw [D.under]
 rw [run_slice_l w S (some ad) n cap (by rw [he]; exact D.under) .i64 (l:Int) (by omega) (by omega),he,run_sizeOf w hi]
 simp only [Result.andThen,sliced,Int.toNat_natCast]
 have hc:P.cellsOf T=sz:=by unfold Program.cellsOf; rw [hi]; exact hsize
 rw [hc]
 split <;> rfl

theorem RdS.tail {α:Type} {vals:α→List Value} {sz:Nat} {zero:α} {w:World} {ad:Addr} {n cap:Nat} {l:List α} (h:RdS vals sz zero w (.slice (some ad) n cap) l) (_hsz:0 < sz) (p:Nat) (hp:p≤l.length) :
  RdS vals sz zero w (.slice (some (if cap=p then ad else ad.add (p * sz))) (n - p) (cap - p)) (l.drop p):=by
 obtain⟨a',cap',e,h1,h2,h3,h4⟩:=h
 simp only [Value.slice.injEq] at e
 obtain⟨rfl,rfl,rfl⟩:=e
 refine ⟨_,_,by rw [List.length_drop],by rw [List.length_drop]; omega,by omega,fun e => by simp at e,?_⟩
 rcases h4 with rfl | ⟨b,off,e,hlt,hc⟩
 ·exact .inl (by simp)
 ·by_cases hd:l.drop p=[]
  ·exact .inl hd
  ·have hpl:p < l.length:=by
    rcases Nat.lt_or_ge p l.length with hh | hh
    ·exact hh
    ·exact absurd (List.drop_eq_nil_of_le hh) hd
   obtain rfl:ad=⟨b,off,none⟩:=by simpa using e
   refine .inr ⟨b,off+p * sz,?_,hlt,fun i hi => ?_⟩
   ·rw [if_neg (by omega),Addr.add_lit]
   ·rw [List.length_drop] at hi
    have:=hc (p+i) (by omega)
    have e2:(l.drop p).getD i zero=l.getD (p+i) zero:=by
     rw [List.getD_eq_getElem?_getD,List.getD_eq_getElem?_getD,List.getElem?_drop]
    rw [e2,show off+p * sz+i * sz=off+(p+i) * sz by rw [Nat.add_mul]; omega]
    exact this

theorem rdS_made {α:Type} {P:Program} {vals:α→List Value} {sz:Nat} {zero:α} {T S:TypeId} {Z:Value} {bytes:Nat} (D:RowOK P vals sz zero T S Z bytes) {w:World} {cs:Array Value} {l:List α} (hcs:cs.toList=cellsS vals l) (hl:l.length≤1000) {B:Nat} (hB:B=w.heap.size) :
  RdS vals sz zero (w.alloc (.cells cs T)) (.slice (some ⟨B,0,none⟩) l.length l.length) l:=by
 subst hB
 refine ⟨_,_,rfl,Nat.le_refl _,by unfold maxLen; omega,(fun e => by cases e),.inr ⟨w.heap.size,0,rfl,by simp,fun i hi j u hu => ?_⟩⟩
 have hj:j < sz:=by have:=(List.getElem?_eq_some_iff.1 hu).1; rwa [D.len] at this
 have:=cellsAt_made (w:=w) (cs:=cs) (vs:=cellsS vals l) hcs T rfl (i * sz+j) u (by rw [cellsS_at D.len zero l i j hi hj]; exact hu)
 rwa [Nat.zero_add] at this ⊢

end Go.Proofs.YtphfinlfabklmaaGreat

end

section

namespace Go.Proofs.YtphfinlfabklmaaGreat
open Go.RowKit

def entVals (e:Ent):List Value:=[.string ⟨e.o.toArray⟩,.string ⟨e.c.toArray⟩,.bool e.it.to,.bool e.it.fr,.bool e.it.out,.bool e.it.inn,.bool e.it.bl]

theorem entOK:RowOK Tryz.prog entVals 7 Ent.zero 126 22 (.agg #[.string ⟨#[]⟩,.string ⟨#[]⟩,.bool false,.bool false,.bool false,.bool false,.bool false]) 40 where
 len _:=rfl
 one a u hu:=by
  simp only [entVals,List.mem_cons,List.not_mem_nil,or_false] at hu
  rcases hu with rfl | rfl | rfl | rfl | rfl | rfl | rfl <;> rfl
 pos:=by decide
 small:=by decide
 under:=Tryz.underlying22
 info:=by kernel_rfl
 zvals:=rfl
 fits:=by decide

theorem cells7_at {w:World} {b o:Nat} {e:Ent}:Cells7 w b o e ↔ CellsAt w b o (entVals e):=by
 constructor
 ·rintro ⟨h0,h1,h2,h3,h4,h5,h6⟩ j u hu
  match j,hu with
  | 0,hu => cases hu; exact h0
  | 1,hu => cases hu; exact h1
  | 2,hu => cases hu; exact h2
  | 3,hu => cases hu; exact h3
  | 4,hu => cases hu; exact h4
  | 5,hu => cases hu; exact h5
  | 6,hu => cases hu; exact h6
  | n+7,hu => simp [entVals] at hu
 ·intro h
  exact⟨h 0 _ rfl,h 1 _ rfl,h 2 _ rfl,h 3 _ rfl,h 4 _ rfl,h 5 _ rfl,h 6 _ rfl⟩

end Go.Proofs.YtphfinlfabklmaaGreat

end

section

namespace Go.Proofs.YtphfinlfabklmaaGreat
open Go.RowKit

theorem ent_clone {w:World} {v:Value} {t:List Ent} (hv:RdS entVals 7 Ent.zero w v t) (hl:t.length≤4294967) :
  Calls Tryz.prog 197 #[v] w fun e w' => ∃ u,e=.returned u∧OwnS entVals 7 126 w' w.heap.size u t∧Below w.heap.size w w':=by
 have HV:=hD hv
 obtain⟨a,cap,rfl,h1,h2,h3,h4⟩:=hv
 cases a with
 | none =>
  obtain rfl:cap=0:=h3 rfl
  obtain rfl:t=[]:=List.length_eq_zero_iff.1 (by omega)
  have heq:=fun w => eqlS_nil_nil entOK w 0 0
  clear h4
  go_enter Tryz.func197,Tryz.ntmps197
  go_wp2_with fail
  go_ret
  exact⟨_,rfl,ownS_nil _ _,Below.refl _ _⟩
 | some x =>
  have HS:=hD ((HV.out.later ((Below.refl _ _).alloc (Nat.le_refl _) (.cells #[] 126))).src entOK)
  have heq:=fun w => eqlS_nil_some entOK w x t.length cap
  clear h4 h3
  go_enter Tryz.func197,Tryz.ntmps197
  go_wp2_with (at_builtin; go_must (refine wpList_append_S entOK rfl _ _ rfl w.heap.size _ [] rfl (by exact ownS_made w) (some x) t.length cap t rfl rfl (fun e => nomatch e) ?c1 (by simp only [List.length_nil]; omega) (by simp) ?_))
  case c1 => intro ad had; obtain rfl:=Option.some.inj had; exact HS.out
  intro v' w' ho' hb'
  have O:=hD ho'
  have hbB:Hid (Below w.heap.size w w'):=((Below.refl w.heap.size w).alloc (Nat.le_refl _) _).trans hb'
  clear ho' hb'
  go_wp2_with fail
  go_ret
  exact⟨_,rfl,by have:=O.out; simpa using this,hbB.out⟩

theorem putS_end {β:Type} (t:List β) (r:β):putS t t.length r=t ++ [r]:=by simp [putS]

theorem ent_ins_end {w:World} {base:Nat} {v:Value} {t:List Ent} (ho:OwnS entVals 7 126 w base v t) (hbase:base≤w.heap.size) (hl:t.length≤1000) {B:Nat} {r:Ent} (hr:LoneS entVals 126 w B r) :
  Calls Tryz.prog 199 #[v,.int .i64 t.length,.slice (some ⟨B,0,none⟩) 1 1] w fun e w' => ∃ u,e=.returned u∧OwnS entVals 7 126 w' base u (putS t t.length r)∧Below base w w':=by
 have HO:=hD ho
 have HS:=hD hr.src
 have HE:=hD (putS_end t r)
 have t0:((t.length:Int) == (t.length:Int))=true:=by simp
 rcases ho.2 with ⟨rfl,h0⟩ | ⟨g,cap,cur,rfl,_,_,hnc,hcm,_⟩
 ·obtain rfl:t=[]:=List.length_eq_zero_iff.1 h0
  clear ho hr h0
  go_enter Tryz.func199,Tryz.ntmps199
  go_wp2_with (at_builtin; go_must (refine wpList_append_S entOK rfl _ _ rfl base _ [] rfl (by exact HO.out) (some ⟨B,0,none⟩) 1 1 [r] rfl rfl (fun e => nomatch e) ?c1 (by simp) hbase ?_))
  case c1 => intro ad had; obtain rfl:=Option.some.inj had; exact HS.out
  intro v' w' ho' hb'
  have O:=hD ho'
  have HB:=hD hb'
  clear ho' hb'
  go_wp2_with fail
  go_ret
  exact⟨_,rfl,O.out,HB.out⟩
 ·unfold maxLen at hcm
  clear ho hr
  by_cases hc:cap=t.length
  ·subst hc
   go_enter Tryz.func199,Tryz.ntmps199
   go_wp2_with (at_builtin; go_must (refine wpList_append_S entOK rfl _ _ rfl base _ t rfl (by exact HO.out) (some ⟨B,0,none⟩) 1 1 [r] rfl rfl (fun e => nomatch e) ?c1 (by simp only [List.length_cons,List.length_nil]; omega) hbase ?_))
   case c1 => intro ad had; obtain rfl:=Option.some.inj had; exact HS.out
   intro v' w' ho' hb'
   have O:=hD ho'
   have HB:=hD hb'
   clear ho' hb'
   go_wp2_with fail
   go_ret
   exact⟨_,rfl,by rw [HE.out]; exact O.out,HB.out⟩
  ·go_enter Tryz.func199,Tryz.ntmps199
   go_wp2_with (at_builtin; go_must (refine wpList_append_S entOK rfl _ _ rfl base _ t rfl (by exact HO.out) (some ⟨B,0,none⟩) 1 1 [r] rfl rfl (fun e => nomatch e) ?c1 (by simp only [List.length_cons,List.length_nil]; omega) hbase ?_))
   case c1 => intro ad had; obtain rfl:=Option.some.inj had; exact HS.out
   intro v' w' ho' hb'
   have O:=hD ho'
   have HB:=hD hb'
   clear ho' hb'
   go_wp2_with fail
   go_ret
   exact⟨_,rfl,by rw [HE.out]; exact O.out,HB.out⟩

theorem ent_ins_grow {w:World} {base g cap:Nat} {t:List Ent} (ho:OwnS entVals 7 126 w base (.slice (some ⟨g,0,none⟩) t.length cap) t) (hbase:base≤w.heap.size) (hl:t.length≤1000) {i:Nat} (hi:i < t.length) (hc:cap=t.length) {B:Nat} {r:Ent} (hr:LoneS entVals 126 w B r) :
  Calls Tryz.prog 199 #[.slice (some ⟨g,0,none⟩) t.length cap,.int .i64 i,.slice (some ⟨B,0,none⟩) 1 1] w fun e w' => ∃ u,e=.returned u∧OwnS entVals 7 126 w' base u (putS t i r)∧Below base w w':=by
 subst hc
 have HO:=hD ho
 have HR:=hD hr
 have HE:=hD (layS_grow Ent.zero hi r)
 have t0:((i:Int) == (t.length:Int))=false:=by simp; omega
 have t1:¬ t.length=i:=by omega
 have hw1:IntKind.i64.wrap ((i:Int)+1)=(i:Int)+1:=IntWalk.i64_in _ (by omega)
 have htn:((i:Int)+1).toNat=i+1:=by omega
 have hb0:(0:Int)≤(i:Int)+1:=by omega
 have hin:i≤t.length:=by omega
 have hgw:=ho.head.2.2.1
 have hBw:=hr.lt
 clear ho hr
 go_enter Tryz.func199,Tryz.ntmps199
 go_wp2_with (with_reducible refine wpList_append_zero_S entOK Tryz.underlying3 rfl (.tmp 34) (.tmp 39) rfl base g t.length t.length t HO.out i (t.length+1 - i) (t.length+1) ((t.length:Int)+1 - (i:Int)) rfl rfl (by omega) (by omega) (by omega) (by omega) (by omega) (by omega) ?_)
 intro w1 G h1 hG hGm hb1
 have O1:=hD h1
 have B1:=hD hb1
 have S1:=hD (HR.out.later hb1).src
 have P1:=hD (HO.out.later hb1)
 have hsz:=hb1.size
 have hlen:(t.take i ++ List.replicate (t.length+1 - i) Ent.zero).length=t.length+1:=by rw [List.length_append,List.length_take,List.length_replicate]; omega
 have t2:¬ G=i:=by omega
 have t3:¬ G=i+1:=by omega
 have O1r:Hid (OwnCS 7 126 w1 w.heap.size w.heap.size (t.length+1) G (cellsS entVals (t.take i ++ List.replicate (t.length+1 - i) Ent.zero))):=h1.raw
 clear h1 hb1
 go_wp2_with (with_reducible refine wpList_copy_C entOK rfl (.tmp 43) (.tmp 44) rfl w.heap.size w.heap.size (t.length+1) G _ O1r.out i (t.length+1 - i) (G - i) ⟨B,0,none⟩ 1 1 rfl rfl [r] (by simp only [List.length_singleton,Nat.min_def]; split <;> omega) S1.out (by simp only [List.length_singleton]; omega) ?_)
 intro w2 h2 hb2 hk2
 rw [cellsS_lay entOK.len] at h2
 have O2:=hD h2
 have B2:=hD (B1.out.trans (hb2.mono (Nat.le_refl _)))
 have P2:Hid (SrcS entVals w2.drew ⟨g,i * 7,none⟩ (t.drop i)):=by
  show SrcS entVals _ _ _
  intro j x hx
  have:=P1.out.src entOK i (t.length - i) (by omega) j x (by rw [List.take_of_length_le (by rw [List.length_drop]; omega)]; exact hx)
  exact (hk2 _ (by rw [Addr.add_lit]; show g ≠ w.heap.size; omega)).trans this
 clear h2 hb2 hk2 O1 O1r B1 S1
 go_wp2_with fail
 go_region_law (refine step_copy_C entOK rfl (.tmp 50) (.tmp 53) rfl w.heap.size w.heap.size (t.length+1) G _ O2.out.drew (i+1) (t.length - i) (G - (i+1)) ⟨g,i * 7,none⟩ (t.length - i) (t.length - i) (by simp [Act.eval,Act.put]) (by simp [Act.eval,Act.put]) (t.drop i) (by simp only [List.length_drop,Nat.min_def]; split <;> omega) P2.out (by rw [List.length_drop]; omega) ?_; intro w3 h3 hb3 hk3)
 all_goals
  rw [cellsS_lay entOK.len,HE.out] at h3
  have O3:=hD (h3.rows (putS_len t i r).symm)
  have B3:=hD ((B2.out.mono hbase).drew.trans (hb3.mono hbase))
  clear h3 hb3 hk3
  go_wp2_with fail
  go_ret
  exact⟨_,rfl,ownS_low O3.out hbase,B3.out⟩

theorem ent_ins_room {w:World} {base g cap:Nat} {t:List Ent} (ho:OwnS entVals 7 126 w base (.slice (some ⟨g,0,none⟩) t.length cap) t) (hl:t.length≤1000) {i:Nat} (hi:i < t.length) (hc:t.length < cap) (hcm:cap≤9223372036854775807) {B:Nat} {r:Ent} (hr:LoneS entVals 126 w B r) (hne:B ≠ g) :
  Calls Tryz.prog 199 #[.slice (some ⟨g,0,none⟩) t.length cap,.int .i64 i,.slice (some ⟨B,0,none⟩) 1 1] w fun e w' => ∃ u,e=.returned u∧OwnS entVals 7 126 w' base u (putS t i r)∧Below base w w':=by
 obtain⟨z,hz,hw⟩:=ownS_wider ho hc
 have HO:=hD hw
 have HS:=hD hr.src
 have hin2:(i:Int)≤(t.length:Int)+1:=by omega
 have S0:Hid (SrcS entVals w.drew ⟨g,i * 7,none⟩ (t.drop i)):=by
  show SrcS entVals _ _ _
  intro j x hx
  exact ho.src entOK i (t.length - i) (by omega) j x (by rw [List.take_of_length_le (by rw [List.length_drop]; omega)]; exact hx)
 have HE:=hD (layS_room entOK.len hi r z hz)
 have HG:=hD ho.head.2.1
 have t0:((i:Int) == (t.length:Int))=false:=by simp; omega
 have t1:¬ cap=i:=by omega
 have t2:¬ cap=i+1:=by omega
 have hw1:IntKind.i64.wrap ((i:Int)+1)=(i:Int)+1:=IntWalk.i64_in _ (by omega)
 have htn:((i:Int)+1).toNat=i+1:=by omega
 have hb0:(0:Int)≤(i:Int)+1:=by omega
 have hin:i≤t.length:=by omega
 have hov:∀ lb cb,(callFunc 225 #[.slice (some ⟨B,0,none⟩) 1 1,.slice (some ⟨g,(i+1) * 7,none⟩) lb cb]).run Tryz.prog w=.ok (.value (.bool false)) w:=fun lb cb => by
  obtain⟨_,_,_,_,_,cur,hg,hcs⟩:=ho.head
  rw [run_callFunc_extern Tryz.func225 (by kernel_rfl) (by kernel_rfl) (by kernel_rfl) (e:=Extern.SlicesOverlaps.overlaps #[22,22] #[4]) (by kernel_rfl),
   Lib.run_overlaps_apart w 22 4 126 Tryz.underlying22 7 (sizeS entOK) ⟨B,0,none⟩ ⟨g,(i+1) * 7,none⟩ 1 1 lb cb hne _ _ _ _ (hr.shape entOK.len) (ownS_shape hg) (by omega) (hr.free _) (hr.free _)]
  rfl
 clear ho hr hw
 go_enter Tryz.func199,Tryz.ntmps199
 go_wp2_with (simp only [hov])
 go_region_law (refine step_copy_C entOK rfl (.tmp 73) (.tmp 76) rfl base g (t.length+1) cap _ HO.out.drew (i+1) (t.length - i) (cap - (i+1)) ⟨g,i * 7,none⟩ (t.length+1 - i) (cap - i) (by simp [Act.eval,Act.put]) (by simp [Act.eval,Act.put]) (t.drop i) (by simp only [List.length_drop,Nat.min_def]; split <;> omega) S0.out (by rw [List.length_drop]; omega) ?_; intro w1 h1 hb1 hk1)
 all_goals
  have O1:=hD h1
  have B1:=hD ((Below.refl base w).drew.trans (hb1.mono HG.out))
  have S1:Hid (SrcS entVals w1 ⟨B,0,none⟩ [r]):=by
   show SrcS entVals _ _ _
   intro j x hx
   exact (hk1 _ (by rw [Addr.add_lit]; exact hne)).trans (HS.out j x hx)
  clear h1 hb1 hk1
  go_wp2_with (with_reducible refine wpList_copy_C entOK rfl (.tmp 80) (.tmp 81) rfl base g (t.length+1) cap _ O1.out i (t.length+1 - i) (cap - i) ⟨B,0,none⟩ 1 1 rfl rfl [r] (by simp only [List.length_singleton,Nat.min_def]; split <;> omega) S1.out (by simp only [List.length_singleton]; omega) ?_)
  intro w2 h2 hb2 hk2
  rw [HE.out] at h2
  have O2:=hD (h2.rows (putS_len t i r).symm)
  have B2:=hD (B1.out.trans (hb2.mono HG.out))
  clear h2 hb2 hk2
  go_wp2_with fail
  go_ret
  exact⟨_,rfl,O2.out,B2.out⟩

theorem ent_insert {w:World} {base:Nat} {v:Value} {t:List Ent} (ho:OwnS entVals 7 126 w base v t) (hbase:base≤w.heap.size) (hl:t.length≤1000) {i:Nat} (hi:i≤t.length) {B:Nat} {r:Ent} (hr:LoneS entVals 126 w B r) (hne:∀ g n c,v=.slice (some ⟨g,0,none⟩) n c→B ≠ g) :
  Calls Tryz.prog 199 #[v,.int .i64 i,.slice (some ⟨B,0,none⟩) 1 1] w fun e w' => ∃ u,e=.returned u∧OwnS entVals 7 126 w' base u (putS t i r)∧Below base w w':=by
 by_cases h:i=t.length
 ·subst h
  exact ent_ins_end ho hbase hl hr
 ·have hi':i < t.length:=by omega
  rcases ho.2 with ⟨rfl,h0⟩ | ⟨g,cap,cur,rfl,_,_,hnc,hcm,_⟩
  ·omega
  ·by_cases hc:cap=t.length
   ·exact ent_ins_grow ho hbase hl hi' hc hr
   ·unfold maxLen at hcm
    exact ent_ins_room ho hl hi' (by omega) (by omega) hr (hne _ _ _ rfl)

end Go.Proofs.YtphfinlfabklmaaGreat

end

section

namespace Go.Proofs.YtphfinlfabklmaaGreat
open Go.RowKit

def entOf (o c:List UInt8):Ent:=⟨o,c,It.zero⟩

def roHas (l:List Ent) (o c:List UInt8):Bool:=l.any fun e => entIs e (entOf o c)

theorem roHas_yes {l:List Ent} {o c:List UInt8} {k:Nat} (hk:k < l.length) (ho:(l.getD k Ent.zero).o=o) (hc:(l.getD k Ent.zero).c=c):roHas l o c=true:=by
 unfold roHas
 rw [List.any_eq_true]
 refine ⟨l.getD k Ent.zero,?_,entIs_iff.2 ⟨ho,hc⟩⟩
 rw [getD_at hk]
 exact List.getElem_mem hk

theorem roHas_no {l:List Ent} {o c:List UInt8} (h:∀ j,j < l.length→entIs (l.getD j Ent.zero) (entOf o c)=false):roHas l o c=false:=by
 unfold roHas
 rw [List.any_eq_false]
 intro e he
 obtain⟨i,hi,rfl⟩:=List.getElem_of_mem he
 have:=h i hi
 rw [getD_at hi] at this
 simp [this]

theorem entIs_off {e:Ent} {o c:List UInt8} (h:¬ e.o=o∨¬ e.c=c):entIs e (entOf o c)=false:=by
 rw [Bool.eq_false_iff]
 intro hh
 obtain⟨h1,h2⟩:=entIs_iff.1 hh
 rcases h with h | h
 ·exact h h1
 ·exact h h2

theorem rhas_any {w:World} {v:Value} {l:List Ent} (hv:Ents w v l) (o c:List UInt8) :
  Calls Tryz.prog 135 #[v,.string ⟨o.toArray⟩,.string ⟨c.toArray⟩] w fun e w' => e=.returned (.bool (roHas l o c))∧w=w':=by
 have HV:=hD hv
 obtain⟨a,cap,rfl,hm⟩:=hv.open'
 clear hv
 go_enter Tryz.func135,Tryz.ntmps135
 go_wp2_with fail
 go_loop [7] (fun i => ∃ k:Nat,k≤l.length∧i=.int .i64 k∧Hid (∀ j,j < k→entIs (l.getD j Ent.zero) (entOf o c)=false)) (fun i => l.length - (intOf i).toNat)
 case atStart => exact⟨0,by omega,rfl,by show ∀ _,_; intro j hj; omega⟩
 case round =>
  obtain⟨k,hk,rfl,HN⟩:=hrel
  by_cases hlt:k < l.length
  ·obtain⟨b,off,rfl,h0,h1,_⟩:=HV.out.row (Below.refl _ _) k hlt
   obtain⟨⟨eo,ec,it⟩,hr⟩ : ∃ r,l.getD k Ent.zero=r:=⟨_,rfl⟩
   rw [hr] at h0 h1
   simp only at h0 h1
   by_cases ho:eo=o
   ·by_cases hc:ec=c
    ·have HR:=hD (roHas_yes hlt (o:=o) (c:=c) (by rw [hr]; exact ho) (by rw [hr]; exact hc))
     subst ho hc
     clear hr
     go_wp2_with fail
     go_ret
     exact⟨by rw [HR.out]; rfl,rfl⟩
    ·have HN2:Hid (∀ j,j < k+1→entIs (l.getD j Ent.zero) (entOf o c)=false):=by
      show ∀ _,_
      intro j hj
      by_cases e:j=k
      ·rw [e,hr]; exact entIs_off (.inr hc)
      ·exact HN.out j (by omega)
     have t2:(ec == c)=false:=by rw [beq_eq_false_iff_ne]; exact hc
     subst ho
     clear hr hc
     go_wp2_with fail
     go_round
     case rel => exact⟨k+1,by omega,by go_num,HN2⟩
     case measure => simp [intOf]; omega
   ·have HN2:Hid (∀ j,j < k+1→entIs (l.getD j Ent.zero) (entOf o c)=false):=by
     show ∀ _,_
     intro j hj
     by_cases e:j=k
     ·rw [e,hr]; exact entIs_off (.inl ho)
     ·exact HN.out j (by omega)
    have t2:(eo == o)=false:=by rw [beq_eq_false_iff_ne]; exact ho
    clear hr ho
    go_wp2_with fail
    go_round
    case rel => exact⟨k+1,by omega,by go_num,HN2⟩
    case measure => simp [intOf]; omega
  ·obtain rfl:k=l.length:=by omega
   have HR:=hD (roHas_no HN.out)
   go_wp2_with fail
   go_ret
   exact⟨by rw [HR.out]; rfl,rfl⟩

end Go.Proofs.YtphfinlfabklmaaGreat

end

section

namespace Go.Proofs.YtphfinlfabklmaaGreat
open Go.RowKit

def roGet (l:List Ent) (o c:List UInt8):It:=match l.find? fun e => entIs e (entOf o c) with
 | some e => e.it
 | none => It.zero

def itV (a:It):Value:=.agg #[.bool a.to,.bool a.fr,.bool a.out,.bool a.inn,.bool a.bl]

theorem roGet_none {l:List Ent} {o c:List UInt8} (h:∀ j,j < l.length→entIs (l.getD j Ent.zero) (entOf o c)=false):roGet l o c=It.zero:=by
 unfold roGet
 have:l.find? (fun e => entIs e (entOf o c))=none:=by
  rw [List.find?_eq_none]
  intro e he
  obtain⟨i,hi,rfl⟩:=List.getElem_of_mem he
  have:=h i hi
  rw [getD_at hi] at this
  simp [this]
 rw [this]

theorem roGet_first:∀ {l:List Ent} {o c:List UInt8} {k:Nat} (_:k < l.length) (_:∀ j,j < k→entIs (l.getD j Ent.zero) (entOf o c)=false) (_:(l.getD k Ent.zero).o=o) (_:(l.getD k Ent.zero).c=c),roGet l o c=(l.getD k Ent.zero).it
 | [],_,_,_,hk,_,_,_ => by simp at hk
 | e :: l,o,c,k,hk,hn,ho,hc => by
  unfold roGet
  rw [List.find?_cons]
  cases k with
  | zero =>
   have:entIs e (entOf o c)=true:=entIs_iff.2 ⟨ho,hc⟩
   rw [this]
   rfl
  | succ k =>
   have h0:entIs e (entOf o c)=false:=hn 0 (by omega)
   rw [h0]
   have:=roGet_first (l:=l) (o:=o) (c:=c) (k:=k) (by simpa using hk) (fun j hj => hn (j+1) (by omega)) ho hc
   unfold roGet at this
   exact this

theorem rget8_any {w:World} {v:Value} {l:List Ent} (hv:Ents w v l) (o c:List UInt8) :
  Calls Tryz.prog 134 #[v,.string ⟨o.toArray⟩,.string ⟨c.toArray⟩] w fun e w' => e=.returned (itV (roGet l o c))∧Below w.heap.size w w':=by
 have HV:=hD hv
 obtain⟨a,cap,rfl,hm⟩:=hv.open'
 have BA:Hid (Below w.heap.size w (w.alloc (.cells #[.bool false,.bool false,.bool false,.bool false,.bool false] 115))):=hD ((Below.refl _ _).alloc (Nat.le_refl _) _)
 clear hv
 go_enter Tryz.func134,Tryz.ntmps134
 go_wp2_with fail
 go_loop [7] (fun i => ∃ k:Nat,k≤l.length∧i=.int .i64 k∧Hid (∀ j,j < k→entIs (l.getD j Ent.zero) (entOf o c)=false)) (fun i => l.length - (intOf i).toNat)
 case atStart => exact⟨0,by omega,rfl,by show ∀ _,_; intro j hj; omega⟩
 case round =>
  obtain⟨k,hk,rfl,HN⟩:=hrel
  by_cases hlt:k < l.length
  ·obtain⟨b,off,rfl,h0,h1,h2,h3,h4,h5,h6⟩:=HV.out.row BA.out k hlt
   obtain⟨⟨eo,ec,⟨i1,i2,i3,i4,i5⟩⟩,hr⟩ : ∃ r,l.getD k Ent.zero=r:=⟨_,rfl⟩
   rw [hr] at h0 h1 h2 h3 h4 h5 h6
   simp only at h0 h1 h2 h3 h4 h5 h6
   by_cases ho:eo=o
   ·by_cases hc:ec=c
    ·have HR:Hid (roGet l o c=⟨i1,i2,i3,i4,i5⟩):=by show _=_; rw [roGet_first hlt HN.out (by rw [hr]; exact ho) (by rw [hr]; exact hc),hr]
     subst ho hc
     clear hr
     go_wp2_with fail
     refine bodyPost_ret (v:=itV ⟨i1,i2,i3,i4,i5⟩) (by simp [results,Tryz.results134,go_sem,itV]) rfl ⟨by rw [HR.out],?_⟩
     repeat (first | exact Below.refl _ _ | refine Below.setCell ?_ (by first | (simp; done) | (simp; omega)) _ | refine Below.alloc ?_ (by first | (simp; done) | (simp; omega)) _)
    ·have HN2:Hid (∀ j,j < k+1→entIs (l.getD j Ent.zero) (entOf o c)=false):=by
      show ∀ _,_
      intro j hj
      by_cases e:j=k
      ·rw [e,hr]; exact entIs_off (.inr hc)
      ·exact HN.out j (by omega)
     have t2:(ec == c)=false:=by rw [beq_eq_false_iff_ne]; exact hc
     subst ho
     clear hr hc
     go_wp2_with fail
     go_round
     case rel => exact⟨k+1,by omega,by go_num,HN2⟩
     case measure => simp [intOf]; omega
   ·have HN2:Hid (∀ j,j < k+1→entIs (l.getD j Ent.zero) (entOf o c)=false):=by
     show ∀ _,_
     intro j hj
     by_cases e:j=k
     ·rw [e,hr]; exact entIs_off (.inl ho)
     ·exact HN.out j (by omega)
    have t2:(eo == o)=false:=by rw [beq_eq_false_iff_ne]; exact ho
    clear hr ho
    go_wp2_with fail
    go_round
    case rel => exact⟨k+1,by omega,by go_num,HN2⟩
    case measure => simp [intOf]; omega
  ·obtain rfl:k=l.length:=by omega
   have HR:Hid (roGet l o c=It.zero):=by show _=_; exact roGet_none HN.out
   go_wp2_with fail
   refine bodyPost_ret (v:=itV It.zero) (by simp [results,Tryz.results134,go_sem,itV,It.zero]) rfl ⟨by rw [HR.out],?_⟩
   repeat (first | exact Below.refl _ _ | refine Below.setCell ?_ (by first | (simp; done) | (simp; omega)) _ | refine Below.alloc ?_ (by first | (simp; done) | (simp; omega)) _)

end Go.Proofs.YtphfinlfabklmaaGreat

end

section

namespace Go.Proofs.YtphfinlfabklmaaGreat
open Go.RowKit

theorem rget8_eq {w:World} {v:Value} {l:List Ent} (hv:Ents w v l) (o c:List UInt8) {i1 i2 i3 i4 i5:Bool} (h:Hid (roGet l o c=⟨i1,i2,i3,i4,i5⟩)) :
  Calls Tryz.prog 134 #[v,.string ⟨o.toArray⟩,.string ⟨c.toArray⟩] w fun e w' => e=.returned (.agg #[.bool i1,.bool i2,.bool i3,.bool i4,.bool i5])∧Below w.heap.size w w':=by
 have:=rget8_any hv o c
 rw [h.out] at this
 exact this

def roSees (l:List Ent) (o c:List UInt8):Bool:=suSees (roGet l o c) (roGet l c o)

theorem entry_any (o c:List UInt8) (w:World) :
  Calls Tryz.prog 127 #[.string ⟨o.toArray⟩,.string ⟨c.toArray⟩] w fun e w' => e=.returned (.agg #[.string ⟨o.toArray⟩,.string ⟨c.toArray⟩,.bool false,.bool false,.bool false,.bool false,.bool false])∧Below w.heap.size w w':=by
 go_enter Tryz.func127,Tryz.ntmps127
 go_wp2_with fail
 refine bodyPost_ret (v:=.agg #[.string ⟨o.toArray⟩,.string ⟨c.toArray⟩,.bool false,.bool false,.bool false,.bool false,.bool false]) (by simp [results,Tryz.results127,go_sem]) rfl ⟨rfl,?_⟩
 repeat (first | exact Below.refl _ _ | refine Below.setCell ?_ (by first | (simp; done) | (simp; omega)) _ | refine Below.alloc ?_ (by first | (simp; done) | (simp; omega)) _)

def roFirst (l:List Ent) (x:Ent):Nat × Bool:=if (l.any fun e => entIs e x)=true then (l.findIdx fun e => entIs e x,true) else (0,false)

theorem roFirst_yes {l:List Ent} {x:Ent} {k:Nat} (hk:k < l.length) (hn:∀ j,j < k→entIs (l.getD j Ent.zero) x=false) (h:entIs (l.getD k Ent.zero) x=true):roFirst l x=(k,true):=by
 unfold roFirst
 rw [if_pos (by rw [List.any_eq_true]; exact⟨l.getD k Ent.zero,by rw [getD_at hk]; exact List.getElem_mem hk,h⟩)]
 congr 1
 rw [List.findIdx_eq hk]
 refine ⟨by rw [← getD_at hk]; exact h,fun j hj => ?_⟩
 have:=hn j hj
 rwa [getD_at (by omega)] at this

theorem roFirst_no {l:List Ent} {x:Ent} (hn:∀ j,j < l.length→entIs (l.getD j Ent.zero) x=false):roFirst l x=(0,false):=by
 unfold roFirst
 rw [if_neg]
 simp only [Bool.not_eq_true,List.any_eq_false]
 intro e he
 obtain⟨i,hi,rfl⟩:=List.getElem_of_mem he
 have:=hn i hi
 rw [getD_at hi] at this
 simp [this]

end Go.Proofs.YtphfinlfabklmaaGreat

end

section

namespace Go.Proofs.YtphfinlfabklmaaGreat
open Go.RowKit

theorem entI_off {a b:Ent} (h:entIs a b=false):(entI a b == 0)=false:=by
 rw [beq_eq_false_iff_ne]
 intro e
 rw [entI_zero,h] at e
 cases e

theorem entI_on {a b:Ent} (h:entIs a b=true):(entI a b == 0)=true:=by
 rw [beq_iff_eq,entI_zero]
 exact h

theorem cells7_made (w:World) (e:Ent) (T:TypeId):Cells7 (w.alloc (.cells #[.string ⟨e.o.toArray⟩,.string ⟨e.c.toArray⟩,.bool e.it.to,.bool e.it.fr,.bool e.it.out,.bool e.it.inn,.bool e.it.bl] T)) w.heap.size 0 e:=by
 refine ⟨?_,?_,?_,?_,?_,?_,?_⟩ <;> (rw [World.cell?_alloc_at _ _ _ _ rfl]; rfl)

theorem first_any {w:World} {v:Value} {l:List Ent} (hv:Ents w v l) (xo xc:List UInt8) (x1 x2 x3 x4 x5:Bool) :
  Calls Tryz.prog 144 #[v,.agg #[.string ⟨xo.toArray⟩,.string ⟨xc.toArray⟩,.bool x1,.bool x2,.bool x3,.bool x4,.bool x5],.func (.func 125) #[] #[]] w fun e w' =>
   e=.returned (.tuple #[.int .i64 (roFirst l ⟨xo,xc,⟨x1,x2,x3,x4,x5⟩⟩).1,.bool (roFirst l ⟨xo,xc,⟨x1,x2,x3,x4,x5⟩⟩).2])∧Below w.heap.size w w':=by
 have HV:=hD hv
 obtain⟨a,cap,rfl,hm⟩:=hv.open'
 have HX:=hD (cells7_made w ⟨xo,xc,⟨x1,x2,x3,x4,x5⟩⟩ 126)
 have B0:Hid (Below w.heap.size w (w.alloc (.cells #[.string ⟨xo.toArray⟩,.string ⟨xc.toArray⟩,.bool x1,.bool x2,.bool x3,.bool x4,.bool x5] 126))):=hD ((Below.refl _ _).alloc (Nat.le_refl _) _)
 clear hv
 go_enter Tryz.func144,Tryz.ntmps144
 go_wp2_with fail
 go_loopw [12] (fun i wr => ∃ k:Nat,k≤l.length∧i=.int .i64 k∧Hid (Below w.heap.size w wr)∧Hid (Cells7 wr w.heap.size 0 ⟨xo,xc,⟨x1,x2,x3,x4,x5⟩⟩)∧Hid (∀ j,j < k→entIs (l.getD j Ent.zero) ⟨xo,xc,⟨x1,x2,x3,x4,x5⟩⟩=false)) (fun i _ => l.length - (intOf i).toNat)
 case atStart => exact⟨0,by omega,rfl,B0,HX,by show ∀ _,_; intro j hj; omega⟩
 case round =>
  obtain⟨k,hk,rfl,HB,HC,HN⟩:=hrel
  by_cases hlt:k < l.length
  ·obtain⟨b,off,rfl,h0,h1,h2,h3,h4,h5,h6⟩:=HV.out.row HB.out k hlt
   obtain⟨⟨eo,ec,⟨i1,i2,i3,i4,i5⟩⟩,hr⟩ : ∃ r,l.getD k Ent.zero=r:=⟨_,rfl⟩
   rw [hr] at h0 h1 h2 h3 h4 h5 h6
   obtain⟨c0,c1,c2,c3,c4,c5,c6⟩:=HC.out.later ((Below.refl _ _).alloc (Nat.le_refl _) (.cells #[.string ⟨eo.toArray⟩,.string ⟨ec.toArray⟩,.bool i1,.bool i2,.bool i3,.bool i4,.bool i5] 126))
   simp only [Nat.zero_add] at h0 h1 h2 h3 h4 h5 h6 c0 c1 c2 c3 c4 c5 c6
   have HCmp:=hD (rcompare_any eo ec xo xc i1 i2 i3 i4 i5 x1 x2 x3 x4 x5)
   obtain⟨n,hn⟩ : ∃ n,entI ⟨eo,ec,⟨i1,i2,i3,i4,i5⟩⟩ ⟨xo,xc,⟨x1,x2,x3,x4,x5⟩⟩=n:=⟨_,rfl⟩
   cases hs:entIs ⟨eo,ec,⟨i1,i2,i3,i4,i5⟩⟩ ⟨xo,xc,⟨x1,x2,x3,x4,x5⟩⟩ with
   | true =>
    have hz:=entI_on hs
    have HR:=hD (roFirst_yes hlt HN.out (by rw [hr]; exact hs))
    rw [hn] at hz HCmp
    clear hr hs hn
    go_wp2_with fail
    refine (HCmp.out _).mono ?_
    rintro e w2 ⟨rfl,hb⟩
    have B2:=hD (below2S (bl_allocS HB.out (.cells #[.string ⟨eo.toArray⟩,.string ⟨ec.toArray⟩,.bool i1,.bool i2,.bool i3,.bool i4,.bool i5] 126)) hb)
    clear hb
    go_wp2_with fail
    go_ret2
    exact⟨by rw [HR.out]; rfl,B2.out⟩
   | false =>
    have hz:=entI_off hs
    have HN2:Hid (∀ j,j < k+1→entIs (l.getD j Ent.zero) ⟨xo,xc,⟨x1,x2,x3,x4,x5⟩⟩=false):=by
     show ∀ _,_
     intro j hj
     by_cases e:j=k
     ·rw [e,hr]; exact hs
     ·exact HN.out j (by omega)
    rw [hn] at hz HCmp
    clear hr hs hn
    go_wp2_with fail
    refine (HCmp.out _).mono ?_
    rintro e w2 ⟨rfl,hb⟩
    have B2:=hD (below2S (bl_allocS HB.out (.cells #[.string ⟨eo.toArray⟩,.string ⟨ec.toArray⟩,.bool i1,.bool i2,.bool i3,.bool i4,.bool i5] 126)) hb)
    have C2:=hD (HC.out.later (below2S (bl_allocS (Below.refl _ _) (.cells #[.string ⟨eo.toArray⟩,.string ⟨ec.toArray⟩,.bool i1,.bool i2,.bool i3,.bool i4,.bool i5] 126)) hb))
    clear hb
    go_wp2_with fail
    go_roundw
    case rel => exact⟨k+1,by omega,by go_num,B2,C2,HN2⟩
    case measure => simp [intOf]; omega
  ·obtain rfl:k=l.length:=by omega
   have HR:=hD (roFirst_no HN.out)
   go_wp2_with fail
   go_ret2
   exact⟨by rw [HR.out]; rfl,HB.out⟩

end Go.Proofs.YtphfinlfabklmaaGreat

end
