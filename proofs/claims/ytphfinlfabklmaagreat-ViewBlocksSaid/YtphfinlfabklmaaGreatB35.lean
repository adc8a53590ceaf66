/-
 TEXTS OF THE PROOF, one behind the other: SesRput.
-/
import Derived.Test.YtphfinlfabklmaaGreatB23

set_option maxHeartbeats 12800000
set_option maxRecDepth 100000

namespace Go.Proofs.YtphfinlfabklmaaGreat
open Go.RowKit

theorem rsput_a {w:World} {v:Value} {l:List Ses} (hv:Sess w v l) (hs:ShortS l) (u st:List UInt8) (id a b c:Int) (_hu:u.length≤4294967296) (_hst:st.length≤4294967296) (h:seMay l=false) :
  Calls Tryz.prog 112 #[v,.agg #[.string ⟨u.toArray⟩,.int .i64 id,.int .i64 a,.int .i64 b,.int .i64 c,.string ⟨st.toArray⟩]] w fun e w' => e=.returned (.tuple #[v,.int .i64 1])∧Below w.heap.size w w':=by
 have bn:=bl_newZ w (.cells #[.string ⟨u.toArray⟩,.int .i64 id,.int .i64 a,.int .i64 b,.int .i64 c,.string ⟨st.toArray⟩] 122)
 have B0:=hD bn
 have C0:=hD (cellsAt_made (w:=w) (cs:=#[.string ⟨u.toArray⟩,.int .i64 id,.int .i64 a,.int .i64 b,.int .i64 c,.string ⟨st.toArray⟩]) (vs:=sesVals ⟨u,id,⟨a,b,c,st⟩⟩) rfl 122 rfl)
 have V0:=hD (hv.later bn)
 have HM:=hD (rsmay9_any V0.out hs (hD h))
 obtain⟨ao,cap,rfl,_⟩:=hv.open'
 clear hv bn h hs
 go_enter Tryz.func112,Tryz.ntmps112
 go_wp2_with fail
 refine HM.out.mono ?_
 rintro e w1 ⟨rfl,b1⟩
 have B1:=hD (below2Z B0.out b1)
 clear b1
 go_wp2_with fail
 go_ret2
 exact⟨rfl,B1.out⟩

theorem rsput_b {w:World} {v:Value} {l:List Ses} (hv:Sess w v l) (hs:ShortS l) (u st:List UInt8) (id a b c:Int) (hu:u.length≤4294967296) (hst:st.length≤4294967296) (h:seMay l=true) (ho:seOne ⟨u,id,⟨a,b,c,st⟩⟩=false) :
  Calls Tryz.prog 112 #[v,.agg #[.string ⟨u.toArray⟩,.int .i64 id,.int .i64 a,.int .i64 b,.int .i64 c,.string ⟨st.toArray⟩]] w fun e w' => e=.returned (.tuple #[v,.int .i64 1])∧Below w.heap.size w w':=by
 have bn:=bl_newZ w (.cells #[.string ⟨u.toArray⟩,.int .i64 id,.int .i64 a,.int .i64 b,.int .i64 c,.string ⟨st.toArray⟩] 122)
 have B0:=hD bn
 have C0:=hD (cellsAt_made (w:=w) (cs:=#[.string ⟨u.toArray⟩,.int .i64 id,.int .i64 a,.int .i64 b,.int .i64 c,.string ⟨st.toArray⟩]) (vs:=sesVals ⟨u,id,⟨a,b,c,st⟩⟩) rfl 122 rfl)
 have V0:=hD (hv.later bn)
 have HM:=hD (rsmay9_any V0.out hs (hD h))
 have HO:=hD (rone_any u st id a b c hu hst (hD ho))
 obtain⟨ao,cap,rfl,_⟩:=hv.open'
 clear hv bn h ho hs
 go_enter Tryz.func112,Tryz.ntmps112
 go_wp2_with fail
 refine HM.out.mono ?_
 rintro e w1 ⟨rfl,b1⟩
 have B1:=hD (below2Z B0.out b1)
 have V1:=hD (V0.out.later b1)
 have C1:=hD (C0.out.later b1)
 clear b1
 obtain⟨c0,c1,c2,c3,c4,c5⟩:=sixS_of C1.out
 go_wp2_with fail
 refine (HO.out _).mono ?_
 rintro e w2 ⟨rfl,b2⟩
 have B2:=hD (below2Z B1.out b2)
 have V2:=hD (V1.out.later b2)
 have C2:=hD (C1.out.later b2)
 clear b2 c0 c1 c2 c3 c4 c5 B0 V0 C0 B1 V1 C1
 go_wp2_with fail
 go_ret2
 exact⟨rfl,B2.out⟩

theorem rsput_c {w:World} {v:Value} {l:List Ses} (hv:Sess w v l) (hs:ShortS l) (u st:List UInt8) (id a b c:Int) (hu:u.length≤4294967296) (hst:st.length≤4294967296) (h:seMay l=true) (ho:seOne ⟨u,id,⟨a,b,c,st⟩⟩=true) {i:Nat} (hf:findO seIs l (keyS u id)=some i) :
  Calls Tryz.prog 112 #[v,.agg #[.string ⟨u.toArray⟩,.int .i64 id,.int .i64 a,.int .i64 b,.int .i64 c,.string ⟨st.toArray⟩]] w fun e w' => ∃ x,e=.returned (.tuple #[x,.int .i64 0])∧OwnSes w' w.heap.size x (l.set i ⟨u,id,⟨a,b,c,st⟩⟩)∧Below w.heap.size w w':=by
 have bn:=bl_newZ w (.cells #[.string ⟨u.toArray⟩,.int .i64 id,.int .i64 a,.int .i64 b,.int .i64 c,.string ⟨st.toArray⟩] 122)
 have B0:=hD bn
 have C0:=hD (cellsAt_made (w:=w) (cs:=#[.string ⟨u.toArray⟩,.int .i64 id,.int .i64 a,.int .i64 b,.int .i64 c,.string ⟨st.toArray⟩]) (vs:=sesVals ⟨u,id,⟨a,b,c,st⟩⟩) rfl 122 rfl)
 have V0:=hD (hv.later bn)
 have HM:=hD (rsmay9_any V0.out hs (hD h))
 have HO:=hD (rone_any u st id a b c hu hst (hD ho))
 have hi:i < l.length:=(findO_some hf).1
 have hl32:=(seMay_rise h).1
 have HF1:=hD (sePl_some hf)
 obtain⟨bk,off,ebk,hcaps⟩ : ∃ b off,∃ cap,v=.slice (some ⟨b,off,none⟩) l.length cap∧l.length≤cap∧cap≤maxLen:=by
  obtain⟨a,cap,e,h1,h2,_,h4⟩:=hv
  rcases h4 with h4 | ⟨b,off,e2,_⟩
  ·rw [h4] at hi; simp at hi
  ·exact⟨b,off,cap,by rw [e,e2],h1,h2⟩
 obtain⟨rfl,hc1,hc2⟩:=hcaps
 unfold maxLen at hc2
 have t0:decide (0≤(i:Int))=true:=by rw [decide_eq_true_eq]; omega
 have hnn:(0:Int)≤(i:Int):=by omega
 have hli:(i:Int) < (l.length:Int):=by omega
 clear hv bn h ho hs hf
 go_enter Tryz.func112,Tryz.ntmps112
 go_wp2_with fail
 refine HM.out.mono ?_
 rintro e w1 ⟨rfl,b1⟩
 have B1:=hD (below2Z B0.out b1)
 have V1:=hD (V0.out.later b1)
 have C1:=hD (C0.out.later b1)
 clear b1
 obtain⟨c0,c1,c2,c3,c4,c5⟩:=sixS_of C1.out
 go_wp2_with fail
 refine (HO.out _).mono ?_
 rintro e w2 ⟨rfl,b2⟩
 have B2:=hD (below2Z B1.out b2)
 have V2:=hD (V1.out.later b2)
 have C2:=hD (C1.out.later b2)
 clear b2 c0 c1 c2 c3 c4 c5 B0 V0 C0 B1 V1 C1
 obtain⟨c0,c1,c2,c3,c4,c5⟩:=sixS_of C2.out
 have HF:=hD (rplace_any V2.out u id HF1)
 go_wp2_with fail
 refine HF.out.mono ?_
 rintro e w4 ⟨rfl,b4⟩
 have B4:=hD (below2Z B2.out b4)
 have V4:=hD (V2.out.later b4)
 have C4:=hD (C2.out.later b4)
 clear b4 B2 V2 C2 HF c0 c1 c2 c3 c4 c5
 have b5:=bl_newZ w4 (.cells #[] 122)
 have HS5:=hD ((V4.out.later b5).src sesOK)
 go_wp2_with (at_builtin; refine wpList_append_S sesOK rfl _ _ rfl w4.heap.size _ [] rfl (by exact ownS_made w4) (some ⟨bk,off,none⟩) l.length ebk l rfl rfl (fun e => nomatch e) (fun ad had => by obtain rfl:=Option.some.inj had; exact HS5.out) (by simp only [List.length_nil]; omega) (by simp) ?_)
 intro x6 w6 ho6 b6
 have ho5:OwnSes w6 w4.heap.size x6 l:=ho6
 have B5:=hD (below2Z B4.out (b5.trans b6))
 have C5:=hD (C4.out.later (b5.trans b6))
 have hz4:=B4.out.size
 obtain⟨g,cg,rfl⟩ : ∃ g cg,x6=.slice (some ⟨g,0,none⟩) l.length cg:=by
  rcases ho5.2 with ⟨rfl,h0⟩ | ⟨g,cg,cur,rfl,_⟩
  ·omega
  ·exact⟨g,cg,rfl⟩
 have hgb:=ho5.head.2.1
 have O5:=hD (ownS_low ho5 hz4)
 clear ho5 ho6 b6 b5 HS5 B4 C4 V4
 have f0:=O5.out.frozenAt (i * 6)
 have f1:=O5.out.frozenAt (i * 6+1)
 have f2:=O5.out.frozenAt (i * 6+2)
 have f3:=O5.out.frozenAt (i * 6+3)
 have f4:=O5.out.frozenAt (i * 6+4)
 have f5:=O5.out.frozenAt (i * 6+5)
 obtain⟨y0,y1,y2,y3,y4,y5⟩:=cells6 (O5.out.row sesOK hi)
 obtain⟨c0,c1,c2,c3,c4,c5⟩:=sixS_of C5.out
 have O6:=hD (ses_store O5.out hi u st id a b c)
 have B6:=hD (below_store6 B5.out (by omega:w.heap.size≤g) (i * 6) (i * 6+1) (i * 6+2) (i * 6+3) (i * 6+4) (i * 6+5) (.string ⟨u.toArray⟩) (.int .i64 id) (.int .i64 a) (.int .i64 b) (.int .i64 c) (.string ⟨st.toArray⟩))
 clear O5 B5 C5
 go_wp2_with fail
 go_ret2
 exact⟨_,rfl,O6.out,B6.out⟩

theorem rsput_d {w:World} {v:Value} {l:List Ses} (hv:Sess w v l) (hs:ShortS l) (u st:List UInt8) (id a b c:Int) (hu:u.length≤4294967296) (hst:st.length≤4294967296) (h:seMay l=true) (ho:seOne ⟨u,id,⟨a,b,c,st⟩⟩=true) (hf:findO seIs l (keyS u id)=none) (h32:¬ l.length < 32) :
  Calls Tryz.prog 112 #[v,.agg #[.string ⟨u.toArray⟩,.int .i64 id,.int .i64 a,.int .i64 b,.int .i64 c,.string ⟨st.toArray⟩]] w fun e w' => e=.returned (.tuple #[v,.int .i64 5])∧Below w.heap.size w w':=by
 have bn:=bl_newZ w (.cells #[.string ⟨u.toArray⟩,.int .i64 id,.int .i64 a,.int .i64 b,.int .i64 c,.string ⟨st.toArray⟩] 122)
 have B0:=hD bn
 have C0:=hD (cellsAt_made (w:=w) (cs:=#[.string ⟨u.toArray⟩,.int .i64 id,.int .i64 a,.int .i64 b,.int .i64 c,.string ⟨st.toArray⟩]) (vs:=sesVals ⟨u,id,⟨a,b,c,st⟩⟩) rfl 122 rfl)
 have V0:=hD (hv.later bn)
 have HM:=hD (rsmay9_any V0.out hs (hD h))
 have HO:=hD (rone_any u st id a b c hu hst (hD ho))
 have HF1:=hD (sePl_none hf)
 have t32:decide (32≤(l.length:Int))=true:=by rw [decide_eq_true_eq]; omega
 obtain⟨ao,cap,rfl,_⟩:=hv.open'
 clear hv bn h ho hs hf h32
 go_enter Tryz.func112,Tryz.ntmps112
 go_wp2_with fail
 refine HM.out.mono ?_
 rintro e w1 ⟨rfl,b1⟩
 have B1:=hD (below2Z B0.out b1)
 have V1:=hD (V0.out.later b1)
 have C1:=hD (C0.out.later b1)
 clear b1
 obtain⟨c0,c1,c2,c3,c4,c5⟩:=sixS_of C1.out
 go_wp2_with fail
 refine (HO.out _).mono ?_
 rintro e w2 ⟨rfl,b2⟩
 have B2:=hD (below2Z B1.out b2)
 have V2:=hD (V1.out.later b2)
 have C2:=hD (C1.out.later b2)
 clear b2 c0 c1 c2 c3 c4 c5 B0 V0 C0 B1 V1 C1
 obtain⟨c0,c1,c2,c3,c4,c5⟩:=sixS_of C2.out
 have HF:=hD (rplace_any V2.out u id HF1)
 go_wp2_with fail
 refine HF.out.mono ?_
 rintro e w4 ⟨rfl,b4⟩
 have B4:=hD (below2Z B2.out b4)
 have V4:=hD (V2.out.later b4)
 have C4:=hD (C2.out.later b4)
 clear b4 B2 V2 C2 HF c0 c1 c2 c3 c4 c5
 go_wp2_with fail
 go_ret2
 exact⟨rfl,B4.out⟩

theorem rsput_e {w:World} {v:Value} {l:List Ses} (hv:Sess w v l) (hs:ShortS l) (u st:List UInt8) (id a b c:Int) (hu:u.length≤4294967296) (hst:st.length≤4294967296) (h:seMay l=true) (ho:seOne ⟨u,id,⟨a,b,c,st⟩⟩=true) (hf:findO seIs l (keyS u id)=none) (h32:l.length < 32) {i:Nat} (hpl:placeO seLt l (keyS u id)=i) (hi:0 < l.length) :
  Calls Tryz.prog 112 #[v,.agg #[.string ⟨u.toArray⟩,.int .i64 id,.int .i64 a,.int .i64 b,.int .i64 c,.string ⟨st.toArray⟩]] w fun e w' => ∃ x,e=.returned (.tuple #[x,.int .i64 0])∧OwnSes w' w.heap.size x (putS l i ⟨u,id,⟨a,b,c,st⟩⟩)∧Below w.heap.size w w':=by
 have bn:=bl_newZ w (.cells #[.string ⟨u.toArray⟩,.int .i64 id,.int .i64 a,.int .i64 b,.int .i64 c,.string ⟨st.toArray⟩] 122)
 have B0:=hD bn
 have C0:=hD (cellsAt_made (w:=w) (cs:=#[.string ⟨u.toArray⟩,.int .i64 id,.int .i64 a,.int .i64 b,.int .i64 c,.string ⟨st.toArray⟩]) (vs:=sesVals ⟨u,id,⟨a,b,c,st⟩⟩) rfl 122 rfl)
 have V0:=hD (hv.later bn)
 have HM:=hD (rsmay9_any V0.out hs (hD h))
 have HO:=hD (rone_any u st id a b c hu hst (hD ho))
 have HF1:=hD (sePl_none hf)
 have HRI:=hD (seMay_rise h).2.1
 have HPL:Hid (placeO seLt l (keyS u id)=i):=hD hpl
 have t32:decide (32≤(l.length:Int))=false:=by rw [decide_eq_false_iff_not]; omega
 obtain⟨bk,off,ebk,hcaps⟩ : ∃ b off,∃ cap,v=.slice (some ⟨b,off,none⟩) l.length cap∧l.length≤cap∧cap≤maxLen:=by
  obtain⟨a,cap,e,h1,h2,_,h4⟩:=hv
  rcases h4 with h4 | ⟨b,off,e2,_⟩
  ·rw [h4] at hi; simp at hi
  ·exact⟨b,off,cap,by rw [e,e2],h1,h2⟩
 obtain⟨rfl,hc1,hc2⟩:=hcaps
 unfold maxLen at hc2
 clear hv bn h ho hs hf hpl
 go_enter Tryz.func112,Tryz.ntmps112
 go_wp2_with fail
 refine HM.out.mono ?_
 rintro e w1 ⟨rfl,b1⟩
 have B1:=hD (below2Z B0.out b1)
 have V1:=hD (V0.out.later b1)
 have C1:=hD (C0.out.later b1)
 clear b1
 obtain⟨c0,c1,c2,c3,c4,c5⟩:=sixS_of C1.out
 go_wp2_with fail
 refine (HO.out _).mono ?_
 rintro e w2 ⟨rfl,b2⟩
 have B2:=hD (below2Z B1.out b2)
 have V2:=hD (V1.out.later b2)
 have C2:=hD (C1.out.later b2)
 clear b2 c0 c1 c2 c3 c4 c5 B0 V0 C0 B1 V1 C1
 obtain⟨c0,c1,c2,c3,c4,c5⟩:=sixS_of C2.out
 have HF:=hD (rplace_any V2.out u id HF1)
 go_wp2_with fail
 refine HF.out.mono ?_
 rintro e w4 ⟨rfl,b4⟩
 have B4:=hD (below2Z B2.out b4)
 have V4:=hD (V2.out.later b4)
 have C4:=hD (C2.out.later b4)
 clear b4 B2 V2 C2 HF c0 c1 c2 c3 c4 c5
 go_wp2_with fail
 go_loopw [8] (fun i wr => ∃ k:Nat,k≤l.length∧i=.int .i64 k∧Hid (Below w4.heap.size w4 wr)∧Hid (CellsAt wr w.heap.size 0 (sesVals ⟨u,id,⟨a,b,c,st⟩⟩))∧Hid (∀ j,j < k→seLt (l.getD j Ses.zero) (keyS u id)=true)) (fun i _ => l.length - (intOf i).toNat)
 case atStart => exact⟨0,by omega,rfl,Below.refl _ _,C4,by show ∀ _,_; intro j hj; omega⟩
 case round =>
  obtain⟨k,hk,rfl,HBT,HC,HN⟩:=hrel
  have HB:=hD (below2Z B4.out HBT.out)
  by_cases hlt:k < l.length
  ·obtain⟨bk',off',ebk',hc⟩:=V4.out.row HBT.out k hlt
   injection ebk' with ebk'
   injection ebk' with e3 e4 _
   subst e3 e4
   obtain⟨⟨eu,ei,⟨ea,eb,ec,es⟩⟩,hr⟩ : ∃ r,l.getD k Ses.zero=r:=⟨_,rfl⟩
   rw [hr] at hc
   obtain⟨q0,q1,q2,q3,q4,q5⟩:=cells6_regrown hc
   obtain⟨y0,y1,y2,y3,y4,y5⟩:=cells6_regrown HC.out
   simp only [Nat.zero_add] at y0 y1 y2 y3 y4 y5
   try simp only at q0 q1 q2 q3 q4 q5
   obtain⟨q,hq⟩ : ∃ q,seLt ⟨eu,ei,⟨ea,eb,ec,es⟩⟩ ⟨u,id,⟨a,b,c,st⟩⟩=q:=⟨_,rfl⟩
   have HA:=hD (rahead_any eu es u st ei ea eb ec id a b c (r:=q) (hD hq))
   have HQ:Hid (seLt (l.getD k Ses.zero) (keyS u id)=q):=by show _=_; rw [hr]; exact hq
   have t0:decide ((k:Int) < (l.length:Int))=true:=by rw [decide_eq_true_eq]; omega
   have t1:(0:Int)≤(k:Int):=by omega
   have t2:(k:Int) < (l.length:Int):=by omega
   clear hr hq hc
   go_wp2_with fail
   refine wp_region_quiet_below (by kernel_rfl) (by kernel_rfl) ?_
   repeat (go_big_quiet_step (with_reducible exact rgB HA.out _ _ _))
   refine wpQuiet_nil ?_
   intro w5 hw5
   have b5:=regrownZ hw5
   have B5T:=hD (below2Z HBT.out b5)
   have B5:=hD (below2Z B4.out B5T.out)
   have HC5:=hD (HC.out.later b5)
   clear hw5 b5 q0 q1 q2 q3 q4 q5 y0 y1 y2 y3 y4 y5 HBT HB HC
   cases q with
   | true =>
    have HN2:Hid (∀ j,j < k+1→seLt (l.getD j Ses.zero) (keyS u id)=true):=by
     show ∀ _,_
     intro j hj
     by_cases e:j=k
     ·rw [e]; exact HQ.out
     ·exact HN.out j (by omega)
    clear HQ
    go_wp2_with fail
    go_roundw
    case rel => exact⟨k+1,by omega,by go_num,B5T,HC5,HN2⟩
    case measure => simp [intOf]; omega
   | false =>
    have HR:=place_on HRI.out HN.out hlt HQ.out
    rw [HPL.out] at HR
    subst HR
    have b5:=bl_newZ w5 (.cells #[] 122)
    have V5:=hD (V4.out.later (B5T.out.trans (b5.mono B5T.out.size)))
    have HS5:=hD (srcS_take sesOK.len (V5.out.src sesOK) i)
    have HT:=hD ((V4.out.later B5T.out).tail (by decide) i (by omega))
    obtain⟨ad,had⟩ : ∃ ad,(if ebk=i then (⟨bk,off,none⟩ : Addr) else (⟨bk,off,none⟩ : Addr).add (i * 6))=ad:=⟨_,rfl⟩
    have hsl:=fun w => run_slice_from_S sesOK w ⟨bk,off,none⟩ l.length ebk i ((i:Nat):Int) rfl (by omega)
    rw [had] at hsl HT
    have hkn:i≤l.length:=by omega
    have hke:i≤ebk:=by omega
    have hnn:(0:Int)≤((i:Nat):Int):=by omega
    clear had
    go_wp2_with (at_builtin; refine wpList_append_S sesOK rfl _ _ rfl w5.heap.size _ [] rfl (by exact ownS_made w5) (some ⟨bk,off,none⟩) i ebk (l.take i) rfl (by rw [List.length_take]; omega) (fun e => nomatch e) (fun ad had => by obtain rfl:=Option.some.inj had; exact HS5.out) (by rw [List.length_take]; simp only [List.length_nil]; omega) (by simp) ?_)
    intro x6 w6 ho6 b6
    have O6:Hid (OwnSes w6 w5.heap.size x6 (l.take i)):=hD ho6
    have B56:=hD (b5.trans b6)
    have C6:=hD (HC5.out.later B56.out)
    have z6:=B56.out.size
    obtain⟨c0,c1,c2,c3,c4,c5⟩:=sixS_of C6.out
    have b7:=bl_newZ w6 (.cells #[.string ⟨u.toArray⟩,.int .i64 id,.int .i64 a,.int .i64 b,.int .i64 c,.string ⟨st.toArray⟩] 122)
    have O7:=hD (O6.out.alloc (.cells #[.string ⟨u.toArray⟩,.int .i64 id,.int .i64 a,.int .i64 b,.int .i64 c,.string ⟨st.toArray⟩] 122))
    have HS7:=hD (srcS_new (vals:=sesVals) (w:=w6) (r:=⟨u,id,⟨a,b,c,st⟩⟩) (cs:=#[.string ⟨u.toArray⟩,.int .i64 id,.int .i64 a,.int .i64 b,.int .i64 c,.string ⟨st.toArray⟩]) (e:=122) rfl (B:=w6.heap.size) rfl)
    clear ho6 b6 b5 HS5
    go_wp2_with (at_builtin; refine wpList_append_S sesOK rfl _ _ rfl w5.heap.size _ (l.take i) rfl (by exact O7.out) (some ⟨w6.heap.size,0,none⟩) 1 1 [⟨u,id,⟨a,b,c,st⟩⟩] rfl rfl (fun e => nomatch e) HS7.out (by rw [List.length_take]; simp only [List.length_cons,List.length_nil]; omega) (by simp; omega) ?_)
    intro x8 w8 ho8 b8
    have O8:=hD ho8
    have B8:=hD ((b7.mono z6).trans b8)
    have T8:=hD (HT.out.later (B56.out.trans ((b7.mono z6).trans b8)))
    have hS8:=T8.out.src sesOK
    have z8:w5.heap.size≤w8.heap.size:=Nat.le_trans z6 B8.out.size
    clear ho8 b8 b7 O6 O7 HS7 C6 c0 c1 c2 c3 c4 c5
    go_wp2_with (at_builtin; refine wpList_append_S sesOK rfl _ _ rfl w5.heap.size _ (l.take i ++ [⟨u,id,⟨a,b,c,st⟩⟩]) rfl (by exact O8.out) (some ad) (l.length - i) (ebk - i) (l.drop i) rfl (by rw [List.length_drop]) (fun e => nomatch e) (fun ad' had' => by obtain rfl:=Option.some.inj had'; exact hS8) (by rw [List.length_append,List.length_take,List.length_drop]; simp only [List.length_cons,List.length_nil]; omega) z8 ?_)
    intro x9 w9 ho9 b9
    have O9:Hid (OwnSes w9 w5.heap.size x9 (putS l i ⟨u,id,⟨a,b,c,st⟩⟩)):=hD ho9
    have B9:=hD (below2Z B5.out (B56.out.trans (B8.out.trans b9)))
    clear ho9 b9 O8 B56 B8 HT T8 hS8
    go_wp2_with fail
    go_ret2
    exact⟨_,rfl,ownS_low O9.out B5.out.size,B9.out⟩
  ·have hkl:k=l.length:=by omega
   have HR:=place_end HRI.out (fun j hj => HN.out j (by omega))
   rw [HPL.out] at HR
   have t0:decide ((k:Int) < (l.length:Int))=false:=by rw [decide_eq_false_iff_not]; omega
   have t0':decide (k < l.length)=false:=by rw [decide_eq_false_iff_not]; omega
   have HIK:i=k:=by omega
   subst HIK
   clear hkl HR hlt HPL HN
   go_wp2_with fail
   refine wp_region_quiet_below (by kernel_rfl) (by kernel_rfl) ?_
   repeat (go_big_quiet_step (fail))
   refine wpQuiet_nil ?_
   intro w5 hw5
   have b5:=regrownZ hw5
   have B5T:=hD (below2Z HBT.out b5)
   have B5:=hD (below2Z B4.out B5T.out)
   have HC5:=hD (HC.out.later b5)
   clear hw5 b5 HBT HB HC
   have b5:=bl_newZ w5 (.cells #[] 122)
   have V5:=hD (V4.out.later (B5T.out.trans (b5.mono B5T.out.size)))
   have HS5:=hD (srcS_take sesOK.len (V5.out.src sesOK) i)
   have HT:=hD ((V4.out.later B5T.out).tail (by decide) i (by omega))
   obtain⟨ad,had⟩ : ∃ ad,(if ebk=i then (⟨bk,off,none⟩ : Addr) else (⟨bk,off,none⟩ : Addr).add (i * 6))=ad:=⟨_,rfl⟩
   have hsl:=fun w => run_slice_from_S sesOK w ⟨bk,off,none⟩ l.length ebk i ((i:Nat):Int) rfl (by omega)
   rw [had] at hsl HT
   have hkn:i≤l.length:=by omega
   have hke:i≤ebk:=by omega
   have hnn:(0:Int)≤((i:Nat):Int):=by omega
   clear had
   go_wp2_with (at_builtin; refine wpList_append_S sesOK rfl _ _ rfl w5.heap.size _ [] rfl (by exact ownS_made w5) (some ⟨bk,off,none⟩) i ebk (l.take i) rfl (by rw [List.length_take]; omega) (fun e => nomatch e) (fun ad had => by obtain rfl:=Option.some.inj had; exact HS5.out) (by rw [List.length_take]; simp only [List.length_nil]; omega) (by simp) ?_)
   intro x6 w6 ho6 b6
   have O6:Hid (OwnSes w6 w5.heap.size x6 (l.take i)):=hD ho6
   have B56:=hD (b5.trans b6)
   have C6:=hD (HC5.out.later B56.out)
   have z6:=B56.out.size
   obtain⟨c0,c1,c2,c3,c4,c5⟩:=sixS_of C6.out
   have b7:=bl_newZ w6 (.cells #[.string ⟨u.toArray⟩,.int .i64 id,.int .i64 a,.int .i64 b,.int .i64 c,.string ⟨st.toArray⟩] 122)
   have O7:=hD (O6.out.alloc (.cells #[.string ⟨u.toArray⟩,.int .i64 id,.int .i64 a,.int .i64 b,.int .i64 c,.string ⟨st.toArray⟩] 122))
   have HS7:=hD (srcS_new (vals:=sesVals) (w:=w6) (r:=⟨u,id,⟨a,b,c,st⟩⟩) (cs:=#[.string ⟨u.toArray⟩,.int .i64 id,.int .i64 a,.int .i64 b,.int .i64 c,.string ⟨st.toArray⟩]) (e:=122) rfl (B:=w6.heap.size) rfl)
   clear ho6 b6 b5 HS5
   go_wp2_with (at_builtin; refine wpList_append_S sesOK rfl _ _ rfl w5.heap.size _ (l.take i) rfl (by exact O7.out) (some ⟨w6.heap.size,0,none⟩) 1 1 [⟨u,id,⟨a,b,c,st⟩⟩] rfl rfl (fun e => nomatch e) HS7.out (by rw [List.length_take]; simp only [List.length_cons,List.length_nil]; omega) (by simp; omega) ?_)
   intro x8 w8 ho8 b8
   have O8:=hD ho8
   have B8:=hD ((b7.mono z6).trans b8)
   have T8:=hD (HT.out.later (B56.out.trans ((b7.mono z6).trans b8)))
   have hS8:=T8.out.src sesOK
   have z8:w5.heap.size≤w8.heap.size:=Nat.le_trans z6 B8.out.size
   clear ho8 b8 b7 O6 O7 HS7 C6 c0 c1 c2 c3 c4 c5
   go_wp2_with (at_builtin; refine wpList_append_S sesOK rfl _ _ rfl w5.heap.size _ (l.take i ++ [⟨u,id,⟨a,b,c,st⟩⟩]) rfl (by exact O8.out) (some ad) (l.length - i) (ebk - i) (l.drop i) rfl (by rw [List.length_drop]) (fun e => nomatch e) (fun ad' had' => by obtain rfl:=Option.some.inj had'; exact hS8) (by rw [List.length_append,List.length_take,List.length_drop]; simp only [List.length_cons,List.length_nil]; omega) z8 ?_)
   intro x9 w9 ho9 b9
   have O9:Hid (OwnSes w9 w5.heap.size x9 (putS l i ⟨u,id,⟨a,b,c,st⟩⟩)):=hD ho9
   have B9:=hD (below2Z B5.out (B56.out.trans (B8.out.trans b9)))
   clear ho9 b9 O8 B56 B8 HT T8 hS8
   go_wp2_with fail
   go_ret2
   exact⟨_,rfl,ownS_low O9.out B5.out.size,B9.out⟩

theorem rsput_f {w:World} {v:Value} {l:List Ses} (hv:Sess w v l) (hs:ShortS l) (u st:List UInt8) (id a b c:Int) (hu:u.length≤4294967296) (hst:st.length≤4294967296) (h:seMay l=true) (ho:seOne ⟨u,id,⟨a,b,c,st⟩⟩=true) (hf:findO seIs l (keyS u id)=none) (hi:l=[]) :
  Calls Tryz.prog 112 #[v,.agg #[.string ⟨u.toArray⟩,.int .i64 id,.int .i64 a,.int .i64 b,.int .i64 c,.string ⟨st.toArray⟩]] w fun e w' => ∃ x,e=.returned (.tuple #[x,.int .i64 0])∧OwnSes w' w.heap.size x [⟨u,id,⟨a,b,c,st⟩⟩]∧Below w.heap.size w w':=by
 have bn:=bl_newZ w (.cells #[.string ⟨u.toArray⟩,.int .i64 id,.int .i64 a,.int .i64 b,.int .i64 c,.string ⟨st.toArray⟩] 122)
 have B0:=hD bn
 have C0:=hD (cellsAt_made (w:=w) (cs:=#[.string ⟨u.toArray⟩,.int .i64 id,.int .i64 a,.int .i64 b,.int .i64 c,.string ⟨st.toArray⟩]) (vs:=sesVals ⟨u,id,⟨a,b,c,st⟩⟩) rfl 122 rfl)
 have V0:=hD (hv.later bn)
 have HM:=hD (rsmay9_any V0.out hs (hD h))
 have HO:=hD (rone_any u st id a b c hu hst (hD ho))
 have HF1:=hD (sePl_none hf)
 subst hi
 obtain⟨ao,cap,rfl,_,hcm,hn0,_⟩:=hv
 unfold maxLen at hcm
 simp only [List.length_nil] at HM V0 ⊢
 clear bn h ho hs hf
 rcases ao with _ | ad
 ·obtain rfl:=hn0 rfl
  clear hn0
  have t0:decide ((0:Int) < 0)=false:=rfl
  go_enter Tryz.func112,Tryz.ntmps112
  go_wp2_with fail
  refine HM.out.mono ?_
  rintro e w1 ⟨rfl,b1⟩
  have B1:=hD (below2Z B0.out b1)
  have V1:=hD (V0.out.later b1)
  have C1:=hD (C0.out.later b1)
  clear b1
  obtain⟨c0,c1,c2,c3,c4,c5⟩:=sixS_of C1.out
  go_wp2_with fail
  refine (HO.out _).mono ?_
  rintro e w2 ⟨rfl,b2⟩
  have B2:=hD (below2Z B1.out b2)
  have V2:=hD (V1.out.later b2)
  have C2:=hD (C1.out.later b2)
  clear b2 c0 c1 c2 c3 c4 c5 B0 V0 C0 B1 V1 C1
  obtain⟨c0,c1,c2,c3,c4,c5⟩:=sixS_of C2.out
  have HF:=hD (rplace_any V2.out u id HF1)
  go_wp2_with fail
  refine HF.out.mono ?_
  rintro e w4 ⟨rfl,b4⟩
  have B4:=hD (below2Z B2.out b4)
  have V4:=hD (V2.out.later b4)
  have C4:=hD (C2.out.later b4)
  clear b4 B2 V2 C2 HF c0 c1 c2 c3 c4 c5
  go_wp2_with fail
  go_loopw [8] (fun i wr => i=.int .i64 0∧Hid (Below w.heap.size w wr)∧Hid (CellsAt wr w.heap.size 0 (sesVals ⟨u,id,⟨a,b,c,st⟩⟩))) (fun _ _ => 0)
  case atStart => exact⟨rfl,B4,C4⟩
  case round =>
   obtain⟨rfl,HB,HC⟩:=hrel
   go_wp2_with fail
   refine wp_region_quiet_below (by kernel_rfl) (by kernel_rfl) ?_
   repeat (go_big_quiet_step (fail))
   refine wpQuiet_nil ?_
   intro w5 hw5
   have b5:=regrownZ hw5
   have B5:=hD (below2Z HB.out b5)
   have HC5:=hD (HC.out.later b5)
   clear hw5 b5 HB HC
   have b5:=bl_newZ w5 (.cells #[] 122)
   go_wp2_with (at_builtin; refine wpList_append_S sesOK rfl _ _ rfl w5.heap.size _ [] rfl (by exact ownS_made w5) none 0 0 [] rfl rfl (fun _ => ⟨rfl,rfl⟩) (fun ad had => nomatch had) (by simp) (by simp) ?_)
   intro x6 w6 ho6 b6
   have O6:Hid (OwnSes w6 w5.heap.size x6 []):=hD ho6
   have B56:=hD (b5.trans b6)
   have C6:=hD (HC5.out.later B56.out)
   have z6:=B56.out.size
   obtain⟨c0,c1,c2,c3,c4,c5⟩:=sixS_of C6.out
   have b7:=bl_newZ w6 (.cells #[.string ⟨u.toArray⟩,.int .i64 id,.int .i64 a,.int .i64 b,.int .i64 c,.string ⟨st.toArray⟩] 122)
   have O7:=hD (O6.out.alloc (.cells #[.string ⟨u.toArray⟩,.int .i64 id,.int .i64 a,.int .i64 b,.int .i64 c,.string ⟨st.toArray⟩] 122))
   have HS7:=hD (srcS_new (vals:=sesVals) (w:=w6) (r:=⟨u,id,⟨a,b,c,st⟩⟩) (cs:=#[.string ⟨u.toArray⟩,.int .i64 id,.int .i64 a,.int .i64 b,.int .i64 c,.string ⟨st.toArray⟩]) (e:=122) rfl (B:=w6.heap.size) rfl)
   clear ho6 b6 b5
   go_wp2_with (at_builtin; refine wpList_append_S sesOK rfl _ _ rfl w5.heap.size _ [] rfl (by exact O7.out) (some ⟨w6.heap.size,0,none⟩) 1 1 [⟨u,id,⟨a,b,c,st⟩⟩] rfl rfl (fun e => nomatch e) HS7.out (by simp) (by simp; omega) ?_)
   intro x8 w8 ho8 b8
   have O8:Hid (OwnSes w8 w5.heap.size x8 [⟨u,id,⟨a,b,c,st⟩⟩]):=hD ho8
   have B8:=hD ((b7.mono z6).trans b8)
   have z8:w5.heap.size≤w8.heap.size:=Nat.le_trans z6 B8.out.size
   clear ho8 b8 b7 O6 O7 HS7 C6 c0 c1 c2 c3 c4 c5
   go_wp2_with (at_builtin; refine wpList_append_S sesOK rfl _ _ rfl w5.heap.size _ [⟨u,id,⟨a,b,c,st⟩⟩] rfl (by exact O8.out) none 0 0 [] rfl rfl (fun _ => ⟨rfl,rfl⟩) (fun ad had => nomatch had) (by simp) z8 ?_)
   intro x9 w9 ho9 b9
   have O9:Hid (OwnSes w9 w5.heap.size x9 [⟨u,id,⟨a,b,c,st⟩⟩]):=hD ho9
   have B9:=hD (below2Z B5.out (B56.out.trans (B8.out.trans b9)))
   clear ho9 b9 O8 B56 B8
   go_wp2_with fail
   go_ret2
   exact⟨_,rfl,ownS_low O9.out B5.out.size,B9.out⟩
 ·clear hn0
  have hsl:=fun w => run_slice_from_S sesOK w ad 0 cap 0 ((0:Nat):Int) rfl (Nat.le_refl _)
  obtain⟨ad2,had⟩ : ∃ ad2,(if cap=0 then ad else ad.add (0 * 6))=ad2:=⟨_,rfl⟩
  rw [had] at hsl
  simp only [Int.ofNat_zero,Nat.sub_zero] at hsl
  clear had
  have t0:decide ((0:Int) < 0)=false:=rfl
  go_enter Tryz.func112,Tryz.ntmps112
  go_wp2_with fail
  refine HM.out.mono ?_
  rintro e w1 ⟨rfl,b1⟩
  have B1:=hD (below2Z B0.out b1)
  have V1:=hD (V0.out.later b1)
  have C1:=hD (C0.out.later b1)
  clear b1
  obtain⟨c0,c1,c2,c3,c4,c5⟩:=sixS_of C1.out
  go_wp2_with fail
  refine (HO.out _).mono ?_
  rintro e w2 ⟨rfl,b2⟩
  have B2:=hD (below2Z B1.out b2)
  have V2:=hD (V1.out.later b2)
  have C2:=hD (C1.out.later b2)
  clear b2 c0 c1 c2 c3 c4 c5 B0 V0 C0 B1 V1 C1
  obtain⟨c0,c1,c2,c3,c4,c5⟩:=sixS_of C2.out
  have HF:=hD (rplace_any V2.out u id HF1)
  go_wp2_with fail
  refine HF.out.mono ?_
  rintro e w4 ⟨rfl,b4⟩
  have B4:=hD (below2Z B2.out b4)
  have V4:=hD (V2.out.later b4)
  have C4:=hD (C2.out.later b4)
  clear b4 B2 V2 C2 HF c0 c1 c2 c3 c4 c5
  go_wp2_with fail
  go_loopw [8] (fun i wr => i=.int .i64 0∧Hid (Below w.heap.size w wr)∧Hid (CellsAt wr w.heap.size 0 (sesVals ⟨u,id,⟨a,b,c,st⟩⟩))) (fun _ _ => 0)
  case atStart => exact⟨rfl,B4,C4⟩
  case round =>
   obtain⟨rfl,HB,HC⟩:=hrel
   go_wp2_with fail
   refine wp_region_quiet_below (by kernel_rfl) (by kernel_rfl) ?_
   repeat (go_big_quiet_step (fail))
   refine wpQuiet_nil ?_
   intro w5 hw5
   have b5:=regrownZ hw5
   have B5:=hD (below2Z HB.out b5)
   have HC5:=hD (HC.out.later b5)
   clear hw5 b5 HB HC
   have b5:=bl_newZ w5 (.cells #[] 122)
   go_wp2_with (at_builtin; refine wpList_append_S sesOK rfl _ _ rfl w5.heap.size _ [] rfl (by exact ownS_made w5) (some ad) 0 cap [] rfl rfl (fun e => nomatch e) (fun _ _ j x hx => by simp [cellsS] at hx) (by simp) (by simp) ?_)
   intro x6 w6 ho6 b6
   have O6:Hid (OwnSes w6 w5.heap.size x6 []):=hD ho6
   have B56:=hD (b5.trans b6)
   have C6:=hD (HC5.out.later B56.out)
   have z6:=B56.out.size
   obtain⟨c0,c1,c2,c3,c4,c5⟩:=sixS_of C6.out
   have b7:=bl_newZ w6 (.cells #[.string ⟨u.toArray⟩,.int .i64 id,.int .i64 a,.int .i64 b,.int .i64 c,.string ⟨st.toArray⟩] 122)
   have O7:=hD (O6.out.alloc (.cells #[.string ⟨u.toArray⟩,.int .i64 id,.int .i64 a,.int .i64 b,.int .i64 c,.string ⟨st.toArray⟩] 122))
   have HS7:=hD (srcS_new (vals:=sesVals) (w:=w6) (r:=⟨u,id,⟨a,b,c,st⟩⟩) (cs:=#[.string ⟨u.toArray⟩,.int .i64 id,.int .i64 a,.int .i64 b,.int .i64 c,.string ⟨st.toArray⟩]) (e:=122) rfl (B:=w6.heap.size) rfl)
   clear ho6 b6 b5
   go_wp2_with (at_builtin; refine wpList_append_S sesOK rfl _ _ rfl w5.heap.size _ [] rfl (by exact O7.out) (some ⟨w6.heap.size,0,none⟩) 1 1 [⟨u,id,⟨a,b,c,st⟩⟩] rfl rfl (fun e => nomatch e) HS7.out (by simp) (by simp; omega) ?_)
   intro x8 w8 ho8 b8
   have O8:Hid (OwnSes w8 w5.heap.size x8 [⟨u,id,⟨a,b,c,st⟩⟩]):=hD ho8
   have B8:=hD ((b7.mono z6).trans b8)
   have z8:w5.heap.size≤w8.heap.size:=Nat.le_trans z6 B8.out.size
   clear ho8 b8 b7 O6 O7 HS7 C6 c0 c1 c2 c3 c4 c5
   go_wp2_with (at_builtin; refine wpList_append_S sesOK rfl _ _ rfl w5.heap.size _ [⟨u,id,⟨a,b,c,st⟩⟩] rfl (by exact O8.out) (some ad2) 0 cap [] rfl rfl (fun e => nomatch e) (fun _ _ j x hx => by simp [cellsS] at hx) (by simp) z8 ?_)
   intro x9 w9 ho9 b9
   have O9:Hid (OwnSes w9 w5.heap.size x9 [⟨u,id,⟨a,b,c,st⟩⟩]):=hD ho9
   have B9:=hD (below2Z B5.out (B56.out.trans (B8.out.trans b9)))
   clear ho9 b9 O8 B56 B8
   go_wp2_with fail
   go_ret2
   exact⟨_,rfl,ownS_low O9.out B5.out.size,B9.out⟩

theorem rsput_any {w:World} {v:Value} {l:List Ses} (hv:Sess w v l) (hs:ShortS l) (s:Ses) (hu:s.u.length≤4294967296) (hst:s.v.st.length≤4294967296) {m:List Ses} {n:Nat} (h:Hid (sePut l s=(m,n))) :
  Calls Tryz.prog 112 #[v,sesAgg s] w fun e w' => ∃ x,e=.returned (.tuple #[x,.int .i64 n])∧Sess w' x m∧Below w.heap.size w w':=by
 obtain⟨u,id,⟨a,b,c,st⟩⟩:=s
 have h:=h.out
 cases hm:seMay l with
 | false =>
  rw [sePut_arg (.inl hm)] at h
  simp only [Prod.mk.injEq] at h
  obtain⟨rfl,rfl⟩:=h
  exact (rsput_a hv hs u st id a b c hu hst hm).mono (fun e w' ⟨h1,h2⟩ => ⟨v,h1,hv.later h2,h2⟩)
 | true =>
  cases ho:seOne ⟨u,id,⟨a,b,c,st⟩⟩ with
  | false =>
   rw [sePut_arg (.inr ho)] at h
   simp only [Prod.mk.injEq] at h
   obtain⟨rfl,rfl⟩:=h
   exact (rsput_b hv hs u st id a b c hu hst hm ho).mono (fun e w' ⟨h1,h2⟩ => ⟨v,h1,hv.later h2,h2⟩)
  | true =>
   cases hf:findO seIs l ⟨u,id,⟨a,b,c,st⟩⟩ with
   | some i =>
    rw [sePut_set hm ho hf] at h
    simp only [Prod.mk.injEq] at h
    obtain⟨rfl,rfl⟩:=h
    exact (rsput_c hv hs u st id a b c hu hst hm ho hf).mono (fun e w' ⟨x,h1,h2,h3⟩ => ⟨x,h1,h2.rd sesOK,h3⟩)
   | none =>
    by_cases h32:l.length < 32
    ·rw [sePut_new hm ho hf h32] at h
     simp only [Prod.mk.injEq] at h
     obtain⟨rfl,rfl⟩:=h
     by_cases h0:l=[]
     ·have h1:=rsput_f hv hs u st id a b c hu hst hm ho hf h0
      subst h0
      exact h1.mono (fun e w' ⟨x,h1,h2,h3⟩ => ⟨x,h1,h2.rd sesOK,h3⟩)
     ·exact (rsput_e hv hs u st id a b c hu hst hm ho hf h32 rfl (List.length_pos_iff.2 h0)).mono (fun e w' ⟨x,h1,h2,h3⟩ => ⟨x,h1,h2.rd sesOK,h3⟩)
    ·rw [sePut_full hm ho hf h32] at h
     simp only [Prod.mk.injEq] at h
     obtain⟨rfl,rfl⟩:=h
     exact (rsput_d hv hs u st id a b c hu hst hm ho hf h32).mono (fun e w' ⟨h1,h2⟩ => ⟨v,h1,hv.later h2,h2⟩)

end Go.Proofs.YtphfinlfabklmaaGreat
