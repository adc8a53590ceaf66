/-
 TEXTS OF THE PROOF, one behind the other: SesFind, SesIns, SesSame.
-/
import Derived.Test.YtphfinlfabklmaaGreatB19
import Derived.Test.YtphfinlfabklmaaGreatB12
import Derived.Lib.Hide
import Derived.Maps.OwnSet
import Derived.Deep.RegionHeld
import Derived.Deep.AppendLies
import Derived.WalkSpells
import Derived.StillTailTactics
import Derived.Test.YtphfinlfabklmaaGreatB01
import Derived.Deep.QuietTactic
import Derived.BigQuiet

set_option maxHeartbeats 12800000
set_option maxRecDepth 100000

section

namespace Go.Proofs.YtphfinlfabklmaaGreat
open Go.RowKit

def seFind (l:List Ses) (x:Ses):Nat × Bool:=match findO seIs l x with | some i => (i,true) | none => (0,false)

theorem seFind_yes {l:List Ses} {x:Ses} {k:Nat} (hk:k < l.length) (hn:∀ j,j < k→seIs (l.getD j Ses.zero) x=false) (hs:seIs (l.getD k Ses.zero) x=true):seFind l x=(k,true):=by
 unfold seFind
 rw [findO_of hk (by rw [← sgetD hk]; exact hs) (fun j hj => by rw [← sgetD (by omega:j < l.length)]; exact hn j hj)]

theorem seFind_no {l:List Ses} {x:Ses} (hn:∀ j,j < l.length→seIs (l.getD j Ses.zero) x=false):seFind l x=(0,false):=by
 unfold seFind
 rw [findO_of_none (fun y hy => by obtain⟨i,hi,rfl⟩:=List.getElem_of_mem hy; rw [← sgetD hi]; exact hn i hi)]

theorem seFind_some {l:List Ses} {x:Ses} {k:Nat} (h:findO seIs l x=some k):seFind l x=(k,true):=by unfold seFind; rw [h]
theorem seFind_none {l:List Ses} {x:Ses} (h:findO seIs l x=none):seFind l x=(0,false):=by unfold seFind; rw [h]

theorem cells2k {w:World} {b o:Nat} {x y:Value} (h:CellsAt w b o [x,y]):w.cell? ⟨b,o,none⟩=some x∧w.cell? ⟨b,o+1,none⟩=some y:=⟨h 0 _ rfl,h 1 _ rfl⟩

theorem sefind_any {w:World} {v:Value} {l:List Ses} (hv:Sess w v l) (u:List UInt8) (id:Int) {i:Nat} {b:Bool} (h:Hid (seFind l (keyS u id)=(i,b))) :
  Calls Tryz.prog 151 #[v,.agg #[.string ⟨u.toArray⟩,.int .i64 id]] w fun e w' => e=.returned (.tuple #[.int .i64 i,.bool b])∧Below w.heap.size w w':=by
 have HV:=hD hv
 obtain⟨a,cap,rfl,hm⟩:=hv.open'
 have HX:=hD (cellsAt_made (w:=w) (cs:=#[.string ⟨u.toArray⟩,.int .i64 id]) (vs:=[.string ⟨u.toArray⟩,.int .i64 id]) rfl 176 rfl)
 have B0:=hD (bl_newZ w (.cells #[.string ⟨u.toArray⟩,.int .i64 id] 176))
 clear hv
 go_enter Tryz.func151,Tryz.ntmps151
 go_wp2_with fail
 go_loopw [10] (fun i wr => ∃ k:Nat,k≤l.length∧i=.int .i64 k∧Hid (Below w.heap.size w wr)∧Hid (CellsAt wr w.heap.size 0 [.string ⟨u.toArray⟩,.int .i64 id])∧Hid (∀ j,j < k→seIs (l.getD j Ses.zero) (keyS u id)=false)) (fun i _ => l.length - (intOf i).toNat)
 case atStart => exact⟨0,by omega,rfl,B0,HX,by show ∀ _,_; intro j hj; omega⟩
 case round =>
  obtain⟨k,hk,rfl,HB,HC,HN⟩:=hrel
  by_cases hlt:k < l.length
  ·obtain⟨bk,off,rfl,hc⟩:=HV.out.row HB.out k hlt
   obtain⟨⟨eu,ei,⟨ea,eb,ec,es⟩⟩,hr⟩ : ∃ r,l.getD k Ses.zero=r:=⟨_,rfl⟩
   rw [hr] at hc
   obtain⟨h0,h1,h2,h3,h4,h5⟩:=cells6 hc
   try simp only at h0 h1 h2 h3 h4 h5
   have bn:=bl_newZ wr (.cells #[.string ⟨eu.toArray⟩,.int .i64 ei,.int .i64 ea,.int .i64 eb,.int .i64 ec,.string ⟨es.toArray⟩] 122)
   have C1:=hD (cellsAt_made (w:=wr) (cs:=#[.string ⟨eu.toArray⟩,.int .i64 ei,.int .i64 ea,.int .i64 eb,.int .i64 ec,.string ⟨es.toArray⟩]) (vs:=sesVals ⟨eu,ei,⟨ea,eb,ec,es⟩⟩) rfl 122 rfl)
   have B1:=hD (below2Z HB.out bn)
   have HC1:=hD (HC.out.later bn)
   have HK:=hD (keyOf_any eu es ei ea eb ec)
   obtain⟨q,hq⟩ : ∃ q,seIs ⟨eu,ei,⟨ea,eb,ec,es⟩⟩ (keyS u id)=q:=⟨_,rfl⟩
   have he:∀ w,(binOp .eql 176 (.agg #[.string ⟨eu.toArray⟩,.int .i64 ei]) (.agg #[.string ⟨u.toArray⟩,.int .i64 id])).run Tryz.prog w=.ok (.bool q) w:=fun w => by rw [key_eql,← hq]; rfl
   have HQ:Hid (seIs (l.getD k Ses.zero) (keyS u id)=q):=by show _=_; rw [hr]; exact hq
   clear hr hq hc bn
   go_wp2_with fail
   obtain⟨q0,q1,q2,q3,q4,q5⟩:=cells6_regrown C1.out
   obtain⟨y0,y1⟩:=cells2k HC1.out
   simp only [Nat.zero_add] at q0 q1 q2 q3 q4 q5 y0 y1
   replace y0:=cell_regrown y0
   replace y1:=cell_regrown y1
   clear h0 h1 h2 h3 h4 h5
   refine wp_region_quiet_below (by kernel_rfl) (by kernel_rfl) ?_
   repeat (go_big_quiet_step (with_reducible exact rgB HK.out _ _ _))
   refine wpQuiet_nil ?_
   intro w5 hw5
   have b5:=regrownZ hw5
   have B5:=hD (below2Z B1.out b5)
   have HC5:=hD (HC1.out.later b5)
   clear hw5 b5 q0 q1 q2 q3 q4 q5 y0 y1
   cases q with
   | true =>
    have HR:=seFind_yes hlt HN.out HQ.out
    rw [h.out] at HR
    simp only [Prod.mk.injEq] at HR
    obtain⟨rfl,rfl⟩:=HR
    go_wp2_with fail
    go_ret2
    exact⟨rfl,B5.out⟩
   | false =>
    have HN2:Hid (∀ j,j < k+1→seIs (l.getD j Ses.zero) (keyS u id)=false):=by
     show ∀ _,_
     intro j hj
     by_cases e:j=k
     ·rw [e]; exact HQ.out
     ·exact HN.out j (by omega)
    clear HQ
    go_wp2_with fail
    go_roundw
    case rel => exact⟨k+1,by omega,by go_num,B5,HC5,HN2⟩
    case measure => simp [intOf]; omega
  ·obtain rfl:k=l.length:=by omega
   have HR:=seFind_no HN.out
   rw [h.out] at HR
   simp only [Prod.mk.injEq] at HR
   obtain⟨rfl,rfl⟩:=HR
   go_wp2_with fail
   go_ret2
   exact⟨rfl,HB.out⟩

theorem place_on {l:List Ses} {x:Ses} {k:Nat} (hr:RiseO seLt l) (hn:∀ j,j < k→seLt (l.getD j Ses.zero) x=true) (hk:k < l.length) (hs:seLt (l.getD k Ses.zero) x=false):placeO seLt l x=k:=by
 rcases Nat.lt_trichotomy (placeO seLt l x) k with h | h | h
 ·have h1:=hn _ h
  rw [sgetD (by omega)] at h1
  have h2:=placeO_behind seOrd hr (x:=x) (k:=placeO seLt l x) (by omega) (Nat.le_refl _)
  rw [h1] at h2; cases h2
 ·exact h
 ·have h1:=placeO_ahead h
  rw [← sgetD hk,hs] at h1; cases h1

theorem place_end {l:List Ses} {x:Ses} (hr:RiseO seLt l) (hn:∀ j,j < l.length→seLt (l.getD j Ses.zero) x=true):placeO seLt l x=l.length:=by
 have hle:=placeO_le (lt:=seLt) l x
 rcases Nat.lt_or_ge (placeO seLt l x) l.length with h | h
 ·have h1:=hn _ h
  rw [sgetD h] at h1
  have h2:=placeO_behind seOrd hr (x:=x) h (Nat.le_refl _)
  rw [h1] at h2; cases h2
 ·omega

theorem seplace_any {w:World} {v:Value} {l:List Ses} (hv:Sess w v l) (hr:RiseO seLt l) (u:List UInt8) (id:Int) {i:Nat} (h:Hid (placeO seLt l (keyS u id)=i)) :
  Calls Tryz.prog 155 #[v,.agg #[.string ⟨u.toArray⟩,.int .i64 id]] w fun e w' => e=.returned (.int .i64 i)∧Below w.heap.size w w':=by
 have HV:=hD hv
 have HO:=hD hr
 obtain⟨a,cap,rfl,hm⟩:=hv.open'
 have HX:=hD (cellsAt_made (w:=w) (cs:=#[.string ⟨u.toArray⟩,.int .i64 id]) (vs:=[.string ⟨u.toArray⟩,.int .i64 id]) rfl 176 rfl)
 have B0:=hD (bl_newZ w (.cells #[.string ⟨u.toArray⟩,.int .i64 id] 176))
 clear hv hr
 go_enter Tryz.func155,Tryz.ntmps155
 go_wp2_with fail
 go_loopw [5] (fun i wr => ∃ k:Nat,k≤l.length∧i=.int .i64 k∧Hid (Below w.heap.size w wr)∧Hid (CellsAt wr w.heap.size 0 [.string ⟨u.toArray⟩,.int .i64 id])∧Hid (∀ j,j < k→seLt (l.getD j Ses.zero) (keyS u id)=true)) (fun i _ => l.length - (intOf i).toNat)
 case atStart => exact⟨0,by omega,rfl,B0,HX,by show ∀ _,_; intro j hj; omega⟩
 case round =>
  obtain⟨k,hk,rfl,HB,HC,HN⟩:=hrel
  by_cases hlt:k < l.length
  ·obtain⟨bk,off,rfl,hc⟩:=HV.out.row HB.out k hlt
   obtain⟨⟨eu,ei,⟨ea,eb,ec,es⟩⟩,hr⟩ : ∃ r,l.getD k Ses.zero=r:=⟨_,rfl⟩
   rw [hr] at hc
   obtain⟨q0,q1,q2,q3,q4,q5⟩:=cells6_regrown hc
   try simp only at q0 q1 q2 q3 q4 q5
   obtain⟨y0,y1⟩:=cells2k HC.out
   simp only [Nat.zero_add] at y0 y1
   replace y0:=cell_regrown y0
   replace y1:=cell_regrown y1
   have HK:=hD (keyOf_any eu es ei ea eb ec)
   obtain⟨q,hq⟩ : ∃ q,seLt ⟨eu,ei,⟨ea,eb,ec,es⟩⟩ (keyS u id)=q:=⟨_,rfl⟩
   have HA:=hD (isAhead_any eu u ei id (r:=q) (hD (by rw [← hq]; rfl)))
   have HQ:Hid (seLt (l.getD k Ses.zero) (keyS u id)=q):=by show _=_; rw [hr]; exact hq
   have t0:decide ((k:Int) < (l.length:Int))=true:=by simp; omega
   have t1:(0:Int)≤(k:Int):=by omega
   have t2:(k:Int) < (l.length:Int):=by omega
   clear hr hq hc
   go_wp2_with fail
   refine wp_region_quiet_below (by kernel_rfl) (by kernel_rfl) ?_
   repeat (go_big_quiet_step (first | with_reducible exact rgB HK.out _ _ _ | with_reducible exact rgB HA.out _ _ _))
   refine wpQuiet_nil ?_
   intro w5 hw5
   have b5:=regrownZ hw5
   have B5:=hD (below2Z HB.out b5)
   have HC5:=hD (HC.out.later b5)
   clear hw5 b5 q0 q1 q2 q3 q4 q5 y0 y1
   cases q with
   | true =>
    have HN2:Hid (∀ j,j < k+1→seLt (l.getD j Ses.zero) (keyS u id)=true):=by
     show ∀ _,_
     intro j hj
     by_cases e:j=k
     ·rw [e]; exact HQ.out
     ·exact HN.out j (by omega)
    clear HQ
    go_wp2_with fail
    go_roundw
    case rel => exact⟨k+1,by omega,by go_num,B5,HC5,HN2⟩
    case measure => simp [intOf]; omega
   | false =>
    have HR:=place_on HO.out HN.out hlt HQ.out
    rw [h.out] at HR
    subst HR
    go_wp2_with fail
    go_ret
    exact⟨rfl,B5.out⟩
  ·obtain rfl:k=l.length:=by omega
   have HR:=place_end HO.out HN.out
   rw [h.out] at HR
   subst HR
   have t0:decide ((l.length:Int) < (l.length:Int))=false:=by simp
   go_wp2_with fail
   refine wp_region_quiet_below (by kernel_rfl) (by kernel_rfl) ?_
   repeat (go_big_quiet_step (fail))
   refine wpQuiet_nil ?_
   intro w5 hw5
   have B5:=hD (below2Z HB.out (regrownZ hw5))
   clear hw5
   go_wp2_with fail
   go_ret
   exact⟨rfl,B5.out⟩

end Go.Proofs.YtphfinlfabklmaaGreat

end

section

namespace Go.Proofs.YtphfinlfabklmaaGreat
open Go.RowKit

theorem ses_clone {w:World} {v:Value} {t:List Ses} (hv:RdS sesVals 6 Ses.zero w v t) (hl:t.length≤4294967) :
  Calls Tryz.prog 153 #[v] w fun e w' => ∃ u,e=.returned u∧OwnS sesVals 6 122 w' w.heap.size u t∧Below w.heap.size w w':=by
 have HV:=hD hv
 obtain⟨a,cap,rfl,h1,h2,h3,h4⟩:=hv
 cases a with
 | none =>
  obtain rfl:cap=0:=h3 rfl
  obtain rfl:t=[]:=List.length_eq_zero_iff.1 (by omega)
  have heq:=fun w => eqlS_nil_nil sesOK w 0 0
  clear h4
  go_enter Tryz.func153,Tryz.ntmps153
  go_wp2_with fail
  go_ret
  exact⟨_,rfl,ownS_nil _ _,Below.refl _ _⟩
 | some x =>
  have HS:=hD ((HV.out.later ((Below.refl _ _).alloc (Nat.le_refl _) (.cells #[] 122))).src sesOK)
  have heq:=fun w => eqlS_nil_some sesOK w x t.length cap
  clear h4 h3
  go_enter Tryz.func153,Tryz.ntmps153
  go_wp2_with (at_builtin; go_must (refine wpList_append_S sesOK rfl _ _ rfl w.heap.size _ [] rfl (by exact ownS_made w) (some x) t.length cap t rfl rfl (fun e => nomatch e) ?c1 (by simp only [List.length_nil]; omega) (by simp) ?_))
  case c1 => intro ad had; obtain rfl:=Option.some.inj had; exact HS.out
  intro v' w' ho' hb'
  have O:=hD ho'
  have hbB:Hid (Below w.heap.size w w'):=((Below.refl w.heap.size w).alloc (Nat.le_refl _) _).trans hb'
  clear ho' hb'
  go_wp2_with fail
  go_ret
  exact⟨_,rfl,by have:=O.out; simpa using this,hbB.out⟩

theorem putS_last {β:Type} (t:List β) (r:β):putS t t.length r=t ++ [r]:=by simp [putS]

theorem ses_ins_end {w:World} {base:Nat} {v:Value} {t:List Ses} (ho:OwnS sesVals 6 122 w base v t) (hbase:base≤w.heap.size) (hl:t.length≤1000) {B:Nat} {r:Ses} (hr:LoneS sesVals 122 w B r) :
  Calls Tryz.prog 154 #[v,.int .i64 t.length,.slice (some ⟨B,0,none⟩) 1 1] w fun e w' => ∃ u,e=.returned u∧OwnS sesVals 6 122 w' base u (putS t t.length r)∧Below base w w':=by
 have HO:=hD ho
 have HS:=hD hr.src
 have HE:=hD (putS_last t r)
 have t0:((t.length:Int) == (t.length:Int))=true:=by simp
 rcases ho.2 with ⟨rfl,h0⟩ | ⟨g,cap,cur,rfl,_,_,hnc,hcm,_⟩
 ·obtain rfl:t=[]:=List.length_eq_zero_iff.1 h0
  clear ho hr h0
  go_enter Tryz.func154,Tryz.ntmps154
  go_wp2_with (at_builtin; go_must (refine wpList_append_S sesOK rfl _ _ rfl base _ [] rfl (by exact HO.out) (some ⟨B,0,none⟩) 1 1 [r] rfl rfl (fun e => nomatch e) ?c1 (by simp) hbase ?_))
  case c1 => intro ad had; obtain rfl:=Option.some.inj had; exact HS.out
  intro v' w' ho' hb'
  have O:=hD ho'
  have HB:=hD hb'
  clear ho' hb'
  go_wp2_with fail
  go_ret
  exact⟨_,rfl,O.out,HB.out⟩
 ·unfold maxLen at hcm
  clear ho hr
  by_cases hc:cap=t.length
  ·subst hc
   go_enter Tryz.func154,Tryz.ntmps154
   go_wp2_with (at_builtin; go_must (refine wpList_append_S sesOK rfl _ _ rfl base _ t rfl (by exact HO.out) (some ⟨B,0,none⟩) 1 1 [r] rfl rfl (fun e => nomatch e) ?c1 (by simp only [List.length_cons,List.length_nil]; omega) hbase ?_))
   case c1 => intro ad had; obtain rfl:=Option.some.inj had; exact HS.out
   intro v' w' ho' hb'
   have O:=hD ho'
   have HB:=hD hb'
   clear ho' hb'
   go_wp2_with fail
   go_ret
   exact⟨_,rfl,by rw [HE.out]; exact O.out,HB.out⟩
  ·go_enter Tryz.func154,Tryz.ntmps154
   go_wp2_with (at_builtin; go_must (refine wpList_append_S sesOK rfl _ _ rfl base _ t rfl (by exact HO.out) (some ⟨B,0,none⟩) 1 1 [r] rfl rfl (fun e => nomatch e) ?c1 (by simp only [List.length_cons,List.length_nil]; omega) hbase ?_))
   case c1 => intro ad had; obtain rfl:=Option.some.inj had; exact HS.out
   intro v' w' ho' hb'
   have O:=hD ho'
   have HB:=hD hb'
   clear ho' hb'
   go_wp2_with fail
   go_ret
   exact⟨_,rfl,by rw [HE.out]; exact O.out,HB.out⟩

theorem ses_ins_grow {w:World} {base g cap:Nat} {t:List Ses} (ho:OwnS sesVals 6 122 w base (.slice (some ⟨g,0,none⟩) t.length cap) t) (hbase:base≤w.heap.size) (hl:t.length≤1000) {i:Nat} (hi:i < t.length) (hc:cap=t.length) {B:Nat} {r:Ses} (hr:LoneS sesVals 122 w B r) :
  Calls Tryz.prog 154 #[.slice (some ⟨g,0,none⟩) t.length cap,.int .i64 i,.slice (some ⟨B,0,none⟩) 1 1] w fun e w' => ∃ u,e=.returned u∧OwnS sesVals 6 122 w' base u (putS t i r)∧Below base w w':=by
 subst hc
 have HO:=hD ho
 have HR:=hD hr
 have HE:=hD (layS_grow Ses.zero hi r)
 have t0:((i:Int) == (t.length:Int))=false:=by simp; omega
 have t1:¬ t.length=i:=by omega
 have hw1:IntKind.i64.wrap ((i:Int)+1)=(i:Int)+1:=IntWalk.i64_in _ (by omega)
 have htn:((i:Int)+1).toNat=i+1:=by omega
 have hb0:(0:Int)≤(i:Int)+1:=by omega
 have hin:i≤t.length:=by omega
 have hgw:=ho.head.2.2.1
 have hBw:=hr.lt
 clear ho hr
 go_enter Tryz.func154,Tryz.ntmps154
 go_wp2_with (with_reducible refine wpList_append_zero_S sesOK Tryz.underlying3 rfl (.tmp 34) (.tmp 39) rfl base g t.length t.length t HO.out i (t.length+1 - i) (t.length+1) ((t.length:Int)+1 - (i:Int)) rfl rfl (by omega) (by omega) (by omega) (by omega) (by omega) (by omega) ?_)
 intro w1 G h1 hG hGm hb1
 have O1:=hD h1
 have B1:=hD hb1
 have S1:=hD (HR.out.later hb1).src
 have P1:=hD (HO.out.later hb1)
 have hsz:=hb1.size
 have hlen:(t.take i ++ List.replicate (t.length+1 - i) Ses.zero).length=t.length+1:=by rw [List.length_append,List.length_take,List.length_replicate]; omega
 have t2:¬ G=i:=by omega
 have t3:¬ G=i+1:=by omega
 have O1r:Hid (OwnCS 6 122 w1 w.heap.size w.heap.size (t.length+1) G (cellsS sesVals (t.take i ++ List.replicate (t.length+1 - i) Ses.zero))):=h1.raw
 clear h1 hb1
 go_wp2_with (with_reducible refine wpList_copy_C sesOK rfl (.tmp 43) (.tmp 44) rfl w.heap.size w.heap.size (t.length+1) G _ O1r.out i (t.length+1 - i) (G - i) ⟨B,0,none⟩ 1 1 rfl rfl [r] (by simp only [List.length_singleton,Nat.min_def]; split <;> omega) S1.out (by simp only [List.length_singleton]; omega) ?_)
 intro w2 h2 hb2 hk2
 rw [cellsS_lay sesOK.len] at h2
 have O2:=hD h2
 have B2:=hD (B1.out.trans (hb2.mono (Nat.le_refl _)))
 have P2:Hid (SrcS sesVals w2.drew ⟨g,i * 6,none⟩ (t.drop i)):=by
  show SrcS sesVals _ _ _
  intro j x hx
  have:=P1.out.src sesOK i (t.length - i) (by omega) j x (by rw [List.take_of_length_le (by rw [List.length_drop]; omega)]; exact hx)
  exact (hk2 _ (by rw [Addr.add_lit]; show g ≠ w.heap.size; omega)).trans this
 clear h2 hb2 hk2 O1 O1r B1 S1
 go_wp2_with fail
 go_region_law (refine step_copy_C sesOK rfl (.tmp 50) (.tmp 53) rfl w.heap.size w.heap.size (t.length+1) G _ O2.out.drew (i+1) (t.length - i) (G - (i+1)) ⟨g,i * 6,none⟩ (t.length - i) (t.length - i) (by simp [Act.eval,Act.put]) (by simp [Act.eval,Act.put]) (t.drop i) (by simp only [List.length_drop,Nat.min_def]; split <;> omega) P2.out (by rw [List.length_drop]; omega) ?_; intro w3 h3 hb3 hk3)
 all_goals
  rw [cellsS_lay sesOK.len,HE.out] at h3
  have O3:=hD (h3.rows (putS_len t i r).symm)
  have B3:=hD ((B2.out.mono hbase).drew.trans (hb3.mono hbase))
  clear h3 hb3 hk3
  go_wp2_with fail
  go_ret
  exact⟨_,rfl,ownS_low O3.out hbase,B3.out⟩

theorem ses_ins_room {w:World} {base g cap:Nat} {t:List Ses} (ho:OwnS sesVals 6 122 w base (.slice (some ⟨g,0,none⟩) t.length cap) t) (hl:t.length≤1000) {i:Nat} (hi:i < t.length) (hc:t.length < cap) (hcm:cap≤9223372036854775807) {B:Nat} {r:Ses} (hr:LoneS sesVals 122 w B r) (hne:B ≠ g) :
  Calls Tryz.prog 154 #[.slice (some ⟨g,0,none⟩) t.length cap,.int .i64 i,.slice (some ⟨B,0,none⟩) 1 1] w fun e w' => ∃ u,e=.returned u∧OwnS sesVals 6 122 w' base u (putS t i r)∧Below base w w':=by
 obtain⟨z,hz,hw⟩:=ownS_wider ho hc
 have HO:=hD hw
 have HS:=hD hr.src
 have hin2:(i:Int)≤(t.length:Int)+1:=by omega
 have S0:Hid (SrcS sesVals w.drew ⟨g,i * 6,none⟩ (t.drop i)):=by
  show SrcS sesVals _ _ _
  intro j x hx
  exact ho.src sesOK i (t.length - i) (by omega) j x (by rw [List.take_of_length_le (by rw [List.length_drop]; omega)]; exact hx)
 have HE:=hD (layS_room sesOK.len hi r z hz)
 have HG:=hD ho.head.2.1
 have t0:((i:Int) == (t.length:Int))=false:=by simp; omega
 have t1:¬ cap=i:=by omega
 have t2:¬ cap=i+1:=by omega
 have hw1:IntKind.i64.wrap ((i:Int)+1)=(i:Int)+1:=IntWalk.i64_in _ (by omega)
 have htn:((i:Int)+1).toNat=i+1:=by omega
 have hb0:(0:Int)≤(i:Int)+1:=by omega
 have hin:i≤t.length:=by omega
 have hov:∀ lb cb,(callFunc 200 #[.slice (some ⟨B,0,none⟩) 1 1,.slice (some ⟨g,(i+1) * 6,none⟩) lb cb]).run Tryz.prog w=.ok (.value (.bool false)) w:=fun lb cb => by
  obtain⟨_,_,_,_,_,cur,hg,hcs⟩:=ho.head
  rw [run_callFunc_extern Tryz.func200 (by kernel_rfl) (by kernel_rfl) (by kernel_rfl) (e:=Extern.SlicesOverlaps.overlaps #[23,23] #[4]) (by kernel_rfl),
   Lib.run_overlaps_apart w 23 4 122 Tryz.underlying23 6 (sizeS sesOK) ⟨B,0,none⟩ ⟨g,(i+1) * 6,none⟩ 1 1 lb cb hne _ _ _ _ (hr.shape sesOK.len) (ownS_shape hg) (by omega) (hr.free _) (hr.free _)]
  rfl
 clear ho hr hw
 go_enter Tryz.func154,Tryz.ntmps154
 go_wp2_with (simp only [hov])
 go_region_law (refine step_copy_C sesOK rfl (.tmp 73) (.tmp 76) rfl base g (t.length+1) cap _ HO.out.drew (i+1) (t.length - i) (cap - (i+1)) ⟨g,i * 6,none⟩ (t.length+1 - i) (cap - i) (by simp [Act.eval,Act.put]) (by simp [Act.eval,Act.put]) (t.drop i) (by simp only [List.length_drop,Nat.min_def]; split <;> omega) S0.out (by rw [List.length_drop]; omega) ?_; intro w1 h1 hb1 hk1)
 all_goals
  have O1:=hD h1
  have B1:=hD ((Below.refl base w).drew.trans (hb1.mono HG.out))
  have S1:Hid (SrcS sesVals w1 ⟨B,0,none⟩ [r]):=by
   show SrcS sesVals _ _ _
   intro j x hx
   exact (hk1 _ (by rw [Addr.add_lit]; exact hne)).trans (HS.out j x hx)
  clear h1 hb1 hk1
  go_wp2_with (with_reducible refine wpList_copy_C sesOK rfl (.tmp 80) (.tmp 81) rfl base g (t.length+1) cap _ O1.out i (t.length+1 - i) (cap - i) ⟨B,0,none⟩ 1 1 rfl rfl [r] (by simp only [List.length_singleton,Nat.min_def]; split <;> omega) S1.out (by simp only [List.length_singleton]; omega) ?_)
  intro w2 h2 hb2 hk2
  rw [HE.out] at h2
  have O2:=hD (h2.rows (putS_len t i r).symm)
  have B2:=hD (B1.out.trans (hb2.mono HG.out))
  clear h2 hb2 hk2
  go_wp2_with fail
  go_ret
  exact⟨_,rfl,O2.out,B2.out⟩

theorem ses_insert {w:World} {base:Nat} {v:Value} {t:List Ses} (ho:OwnS sesVals 6 122 w base v t) (hbase:base≤w.heap.size) (hl:t.length≤1000) {i:Nat} (hi:i≤t.length) {B:Nat} {r:Ses} (hr:LoneS sesVals 122 w B r) (hne:∀ g n c,v=.slice (some ⟨g,0,none⟩) n c→B ≠ g) :
  Calls Tryz.prog 154 #[v,.int .i64 i,.slice (some ⟨B,0,none⟩) 1 1] w fun e w' => ∃ u,e=.returned u∧OwnS sesVals 6 122 w' base u (putS t i r)∧Below base w w':=by
 by_cases h:i=t.length
 ·subst h
  exact ses_ins_end ho hbase hl hr
 ·have hi':i < t.length:=by omega
  rcases ho.2 with ⟨rfl,h0⟩ | ⟨g,cap,cur,rfl,_,_,hnc,hcm,_⟩
  ·omega
  ·by_cases hc:cap=t.length
   ·exact ses_ins_grow ho hbase hl hi' hc hr
   ·unfold maxLen at hcm
    exact ses_ins_room ho hl hi' (by omega) (by omega) hr (hne _ _ _ rfl)

theorem layS_del {β:Type} {t:List β} {i:Nat} (hi:i < t.length):(layS t i (t.drop (i+1))).take (i+(t.length - (i+1)))=t.take i ++ t.drop (i+1):=by
 unfold layS
 rw [← List.append_assoc]
 exact List.take_left' (by rw [List.length_append,List.length_take,List.length_drop]; omega)

theorem ses_delete {w:World} {base g cap:Nat} {t:List Ses} (ho:OwnS sesVals 6 122 w base (.slice (some ⟨g,0,none⟩) t.length cap) t) (hcm:cap≤9223372036854775807) {i:Nat} (hi:i < t.length) (hl:t.length≤1000) :
  Calls Tryz.prog 156 #[.slice (some ⟨g,0,none⟩) t.length cap,.int .i64 i,.int .i64 ((i:Int)+1)] w fun e w' => ∃ u,e=.returned u∧OwnS sesVals 6 122 w' base u (t.take i ++ t.drop (i+1))∧Below base w w':=by
 have HO:=hD ho
 have hcap:=ho.head.2.2.2.1
 have HG:=hD ho.head.2.1
 have t0:((i:Int) == (i:Int)+1)=false:=by simp; omega
 have hw1:IntKind.i64.wrap ((i:Int)+1)=(i:Int)+1:=IntWalk.i64_in _ (by omega)
 have htn:((i:Int)+1).toNat=i+1:=by omega
 have hb0:(0:Int)≤(i:Int)+1:=by omega
 have hin:i≤t.length:=by omega
 have hin2:(i:Int)+1≤(t.length:Int):=by omega
 have HE:=hD (layS_del hi)
 have hii:(i:Int)≤(i:Int)+1:=by omega
 have hic:i≤cap:=by omega
 have HSL:Hid ((layS t i (t.drop (i+1))).length=t.length):=by show _=_; exact layS_len (by rw [List.length_drop]; omega)
 have z1:i+(t.length - (i+1))≤t.length:=by omega
 have z2:i+(t.length - (i+1))+(t.length - (i+(t.length - (i+1))))=t.length:=by omega
 have t4:¬ cap=i+(t.length - (i+1)):=by omega
 by_cases hc:cap=i+1
 ·subst hc
  have hlen:t.length=i+1:=by omega
  have HN:Hid (t.take i ++ t.drop (i+1)=t.take i):=by
   show _=_
   rw [List.drop_of_length_le (by omega),List.append_nil]
  have HL:=hD hlen
  clear z1 z2 t4 HSL HE hin hin2 hcap ho hi hl
  rw [hlen] at HO
  rw [hlen]
  clear hlen
  have t1:¬ i+1=i:=by omega
  have t3:(i:Int)≤((i+1:Nat):Int):=by omega
  have t5:(i:Int)+1≤((i+1:Nat):Int):=by omega
  have t6:i≤i+1:=by omega
  have HT:=hD (World.ownsRow.drew HO.out)
  go_enter Tryz.func156,Tryz.ntmps156
  go_wp2_with fail
  go_region_law (refine step_append_in_S sesOK rfl (.tmp 22) (.tmp 25) rfl base g (i+1) (i+1) t HO.out.drew i 0 0 ⟨g,0,none⟩ (by simp [Act.eval,Act.put]) (by simp [Act.eval,Act.put]) [] rfl (fun j x hx => by simp [cellsS] at hx) (by simp) ?_; intro w1 h1 hb1 hk1)
  all_goals
   rw [layS_nil] at h1
   have O1:=hD h1
   have B1:=hD ((Below.refl base w).drew.trans (hb1.mono HG.out))
   clear h1 hb1 hk1
   go_wp2_with (with_reducible refine wpList_clear_S sesOK rfl (.tmp 31) rfl base g (i+1) (i+1) _ O1.out i (some ⟨g,i * 6,none⟩) 1 1 rfl (fun _ => rfl) HL.out.symm ?_)
   intro w2 h2 hb2
   have O2:=hD (ownS_cut sesOK h2 (i:=i) (by simp [HL.out]))
   have B2:=hD (B1.out.trans (hb2.mono HG.out))
   clear h2 hb2
   go_wp2_with fail
   go_ret
   refine ⟨_,rfl,?_,B2.out⟩
   have:=O2.out
   rw [List.take_append_of_le_length (by rw [List.length_take,HL.out]; omega),List.take_take,Nat.min_self] at this
   rw [HN.out]
   exact this
 ·have HS:Hid (SrcS sesVals w.drew ⟨g,(i+1) * 6,none⟩ (t.drop (i+1))):=by
   show SrcS sesVals _ _ _
   intro j x hx
   exact ho.src sesOK (i+1) (t.length - (i+1)) (by omega) j x (by rw [List.take_of_length_le (by rw [List.length_drop]; omega)]; exact hx)
  have t1:¬ cap=i:=by omega
  clear ho
  go_enter Tryz.func156,Tryz.ntmps156
  go_wp2_with fail
  go_region_law (refine step_append_in_S sesOK rfl (.tmp 22) (.tmp 25) rfl base g t.length cap t HO.out.drew i (t.length - (i+1)) (cap - (i+1)) ⟨g,(i+1) * 6,none⟩ (by simp [Act.eval,Act.put]) (by simp [Act.eval,Act.put]) (t.drop (i+1)) (by rw [List.length_drop]) HS.out (by rw [List.length_drop]; omega) ?_; intro w1 h1 hb1 hk1)
  all_goals
   have O1:=hD h1
   have B1:=hD ((Below.refl base w).drew.trans (hb1.mono HG.out))
   clear h1 hb1 hk1
   go_wp2_with (with_reducible refine wpList_clear_S sesOK rfl (.tmp 31) rfl base g t.length cap _ O1.out (i+(t.length - (i+1))) (some ⟨g,(i+(t.length - (i+1))) * 6,none⟩) (t.length - (i+(t.length - (i+1)))) (cap - (i+(t.length - (i+1)))) rfl (fun _ => rfl) (z2.trans HSL.out.symm) ?_)
   intro w2 h2 hb2
   have O2:=hD (ownS_cut sesOK h2 (i:=i+(t.length - (i+1))) (by rw [List.length_append,List.length_take,List.length_replicate,HSL.out]; omega))
   have B2:=hD (B1.out.trans (hb2.mono HG.out))
   clear h2 hb2
   go_wp2_with fail
   go_ret
   refine ⟨_,rfl,?_,B2.out⟩
   have:=O2.out
   rw [List.take_append_of_le_length (by rw [List.length_take,HSL.out]; omega),List.take_take,Nat.min_self,HE.out] at this
   exact this

end Go.Proofs.YtphfinlfabklmaaGreat

end

section

namespace Go.Proofs.YtphfinlfabklmaaGreat
open Go.RowKit

def sessSame (a b:List Ses):Bool:=decide (a.length=b.length) && (List.range a.length).all fun i => sesSame (a.getD i Ses.zero) (b.getD i Ses.zero)

theorem sessSame_self (a:List Ses):sessSame a a=true:=by
 unfold sessSame
 simp [sesSame_self]

end Go.Proofs.YtphfinlfabklmaaGreat

end
