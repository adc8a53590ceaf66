/-
 TEXTS OF THE PROOF, one behind the other: SesPutC.
-/
import Derived.Test.YtphfinlfabklmaaGreatB21
import Derived.Test.YtphfinlfabklmaaGreatB20
import Derived.Test.YtphfinlfabklmaaGreatB12

set_option maxHeartbeats 12800000
set_option maxRecDepth 100000

namespace Go.Proofs.YtphfinlfabklmaaGreat
open Go.RowKit

def SixS (X:World) (b:Nat) (u st:List UInt8) (i a c d:Int):Prop :=
 X.cell? ⟨b,0,none⟩=some (.string ⟨u.toArray⟩)∧X.cell? ⟨b,1,none⟩=some (.int .i64 i)∧X.cell? ⟨b,2,none⟩=some (.int .i64 a)∧X.cell? ⟨b,3,none⟩=some (.int .i64 c)∧X.cell? ⟨b,4,none⟩=some (.int .i64 d)∧X.cell? ⟨b,5,none⟩=some (.string ⟨st.toArray⟩)

theorem sixS_of {X:World} {b:Nat} {u st:List UInt8} {i a c d:Int} (h:CellsAt X b 0 (sesVals ⟨u,i,⟨a,c,d,st⟩⟩)):SixS X b u st i a c d:=by
 obtain⟨h0,h1,h2,h3,h4,h5⟩:=cells6 h
 simp only [Nat.zero_add] at h0 h1 h2 h3 h4 h5
 exact⟨h0,h1,h2,h3,h4,h5⟩

theorem sixS_up {X X':World} {b:Nat} {u st:List UInt8} {i a c d:Int} (hb:Below X.heap.size X X') (h:SixS X b u st i a c d):SixS X' b u st i a c d:=by
 have up:∀ {j:Nat} {v:Value},X.cell? ⟨b,j,none⟩=some v→X'.cell? ⟨b,j,none⟩=some v:=fun hv => (hb.cell (World.block_lt_of_cell? _ _ hv)).trans hv
 exact⟨up h.1,up h.2.1,up h.2.2.1,up h.2.2.2.1,up h.2.2.2.2.1,up h.2.2.2.2.2⟩

theorem sixS_low {X X':World} {base b:Nat} {u st:List UInt8} {i a c d:Int} (hb:Below base X X') (hlt:b < base) (h:SixS X b u st i a c d):SixS X' b u st i a c d:=by
 have up:∀ {j:Nat} {v:Value},X.cell? ⟨b,j,none⟩=some v→X'.cell? ⟨b,j,none⟩=some v:=fun hv => (hb.cell hlt).trans hv
 exact⟨up h.1,up h.2.1,up h.2.2.1,up h.2.2.2.1,up h.2.2.2.2.1,up h.2.2.2.2.2⟩

theorem ses_store {w:World} {base g n cap:Nat} {l:List Ses} (h:OwnSes w base (.slice (some ⟨g,0,none⟩) n cap) l) {i:Nat} (hi:i < l.length) (u st:List UInt8) (id a b c:Int) :
  OwnSes ((((((w.setCell ⟨g,i * 6,none⟩ (.string ⟨u.toArray⟩)).setCell ⟨g,i * 6+1,none⟩ (.int .i64 id)).setCell ⟨g,i * 6+2,none⟩ (.int .i64 a)).setCell ⟨g,i * 6+3,none⟩ (.int .i64 b)).setCell ⟨g,i * 6+4,none⟩ (.int .i64 c)).setCell ⟨g,i * 6+5,none⟩ (.string ⟨st.toArray⟩)) base (.slice (some ⟨g,0,none⟩) n cap) (l.set i ⟨u,id,⟨a,b,c,st⟩⟩) :=
 ownS_set sesOK h hi ⟨u,id,⟨a,b,c,st⟩⟩

theorem below_store6 {w0 w:World} {base g:Nat} (h:Below base w0 w) (hg:base≤g) (a0 a1 a2 a3 a4 a5:Nat) (v0 v1 v2 v3 v4 v5:Value) :
  Below base w0 ((((((w.setCell ⟨g,a0,none⟩ v0).setCell ⟨g,a1,none⟩ v1).setCell ⟨g,a2,none⟩ v2).setCell ⟨g,a3,none⟩ v3).setCell ⟨g,a4,none⟩ v4).setCell ⟨g,a5,none⟩ v5) :=
 (((((h.setCell hg _).setCell hg _).setCell hg _).setCell hg _).setCell hg _).setCell hg _

theorem sput_a {w:World} {v:Value} {l:List Ses} (hv:Sess w v l) (hs:ShortS l) (u st:List UInt8) (id a b c:Int) (_hu:u.length≤4294967296) (_hst:st.length≤4294967296) (h:seMay l=false) :
  Calls Tryz.prog 83 #[v,.agg #[.string ⟨u.toArray⟩,.int .i64 id,.int .i64 a,.int .i64 b,.int .i64 c,.string ⟨st.toArray⟩]] w fun e w' => e=.returned (.tuple #[v,.int .i64 1])∧Below w.heap.size w w':=by
 have bn:=bl_newZ w (.cells #[.string ⟨u.toArray⟩,.int .i64 id,.int .i64 a,.int .i64 b,.int .i64 c,.string ⟨st.toArray⟩] 122)
 have B0:=hD bn
 have C0:=hD (cellsAt_made (w:=w) (cs:=#[.string ⟨u.toArray⟩,.int .i64 id,.int .i64 a,.int .i64 b,.int .i64 c,.string ⟨st.toArray⟩]) (vs:=sesVals ⟨u,id,⟨a,b,c,st⟩⟩) rfl 122 rfl)
 have V0:=hD (hv.later bn)
 have HM:=hD (smay9_any V0.out hs (hD h))
 obtain⟨ao,cap,rfl,_⟩:=hv.open'
 clear hv bn h hs
 go_enter Tryz.func83,Tryz.ntmps83
 go_wp2_with fail
 refine HM.out.mono ?_
 rintro e w1 ⟨rfl,b1⟩
 have B1:=hD (below2Z B0.out b1)
 clear b1
 go_wp2_with fail
 go_ret2
 exact⟨rfl,B1.out⟩

theorem sput_b {w:World} {v:Value} {l:List Ses} (hv:Sess w v l) (hs:ShortS l) (u st:List UInt8) (id a b c:Int) (hu:u.length≤4294967296) (hst:st.length≤4294967296) (h:seMay l=true) (ho:seOne ⟨u,id,⟨a,b,c,st⟩⟩=false) :
  Calls Tryz.prog 83 #[v,.agg #[.string ⟨u.toArray⟩,.int .i64 id,.int .i64 a,.int .i64 b,.int .i64 c,.string ⟨st.toArray⟩]] w fun e w' => e=.returned (.tuple #[v,.int .i64 1])∧Below w.heap.size w w':=by
 have bn:=bl_newZ w (.cells #[.string ⟨u.toArray⟩,.int .i64 id,.int .i64 a,.int .i64 b,.int .i64 c,.string ⟨st.toArray⟩] 122)
 have B0:=hD bn
 have C0:=hD (cellsAt_made (w:=w) (cs:=#[.string ⟨u.toArray⟩,.int .i64 id,.int .i64 a,.int .i64 b,.int .i64 c,.string ⟨st.toArray⟩]) (vs:=sesVals ⟨u,id,⟨a,b,c,st⟩⟩) rfl 122 rfl)
 have V0:=hD (hv.later bn)
 have HM:=hD (smay9_any V0.out hs (hD h))
 have HO:=hD (mayBe_any u st id a b c hu hst (hD ho))
 obtain⟨ao,cap,rfl,_⟩:=hv.open'
 clear hv bn h ho hs
 go_enter Tryz.func83,Tryz.ntmps83
 go_wp2_with fail
 refine HM.out.mono ?_
 rintro e w1 ⟨rfl,b1⟩
 have B1:=hD (below2Z B0.out b1)
 have V1:=hD (V0.out.later b1)
 have C1:=hD (C0.out.later b1)
 clear b1
 obtain⟨c0,c1,c2,c3,c4,c5⟩:=sixS_of C1.out
 go_wp2_with fail
 refine (HO.out _).mono ?_
 rintro e w2 ⟨rfl,b2⟩
 have B2:=hD (below2Z B1.out b2)
 have V2:=hD (V1.out.later b2)
 have C2:=hD (C1.out.later b2)
 clear b2 c0 c1 c2 c3 c4 c5 B0 V0 C0 B1 V1 C1
 go_wp2_with fail
 go_ret2
 exact⟨rfl,B2.out⟩

theorem sput_c {w:World} {v:Value} {l:List Ses} (hv:Sess w v l) (hs:ShortS l) (u st:List UInt8) (id a b c:Int) (hu:u.length≤4294967296) (hst:st.length≤4294967296) (h:seMay l=true) (ho:seOne ⟨u,id,⟨a,b,c,st⟩⟩=true) {i:Nat} (hf:findO seIs l (keyS u id)=some i) :
  Calls Tryz.prog 83 #[v,.agg #[.string ⟨u.toArray⟩,.int .i64 id,.int .i64 a,.int .i64 b,.int .i64 c,.string ⟨st.toArray⟩]] w fun e w' => ∃ x,e=.returned (.tuple #[x,.int .i64 0])∧OwnSes w' w.heap.size x (l.set i ⟨u,id,⟨a,b,c,st⟩⟩)∧Below w.heap.size w w':=by
 have bn:=bl_newZ w (.cells #[.string ⟨u.toArray⟩,.int .i64 id,.int .i64 a,.int .i64 b,.int .i64 c,.string ⟨st.toArray⟩] 122)
 have B0:=hD bn
 have C0:=hD (cellsAt_made (w:=w) (cs:=#[.string ⟨u.toArray⟩,.int .i64 id,.int .i64 a,.int .i64 b,.int .i64 c,.string ⟨st.toArray⟩]) (vs:=sesVals ⟨u,id,⟨a,b,c,st⟩⟩) rfl 122 rfl)
 have V0:=hD (hv.later bn)
 have HM:=hD (smay9_any V0.out hs (hD h))
 have HO:=hD (mayBe_any u st id a b c hu hst (hD ho))
 have hi:i < l.length:=(findO_some hf).1
 have hl32:=(seMay_rise h).1
 have HF1:=hD (seFind_some hf)
 obtain⟨ao,cap,rfl,_⟩:=hv.open'
 clear hv bn h ho hs hf
 go_enter Tryz.func83,Tryz.ntmps83
 go_wp2_with fail
 refine HM.out.mono ?_
 rintro e w1 ⟨rfl,b1⟩
 have B1:=hD (below2Z B0.out b1)
 have V1:=hD (V0.out.later b1)
 have C1:=hD (C0.out.later b1)
 clear b1
 obtain⟨c0,c1,c2,c3,c4,c5⟩:=sixS_of C1.out
 go_wp2_with fail
 refine (HO.out _).mono ?_
 rintro e w2 ⟨rfl,b2⟩
 have B2:=hD (below2Z B1.out b2)
 have V2:=hD (V1.out.later b2)
 have C2:=hD (C1.out.later b2)
 clear b2 c0 c1 c2 c3 c4 c5 B0 V0 C0 B1 V1 C1
 have HK:=hD (keyOf_any u st id a b c)
 obtain⟨c0,c1,c2,c3,c4,c5⟩:=sixS_of C2.out
 go_wp2_with fail
 refine (HK.out _).mono ?_
 rintro e w3 ⟨rfl,b3⟩
 have B3:=hD (below2Z B2.out b3)
 have V3:=hD (V2.out.later b3)
 have C3:=hD (C2.out.later b3)
 clear b3 c0 c1 c2 c3 c4 c5 B2 V2 C2
 have HF:=hD (sefind_any V3.out u id (hD HF1.out))
 go_wp2_with fail
 refine HF.out.mono ?_
 rintro e w4 ⟨rfl,b4⟩
 have B4:=hD (below2Z B3.out b4)
 have V4:=hD (V3.out.later b4)
 have C4:=hD (C3.out.later b4)
 clear b4 B3 V3 C3 HF
 have HC:=hD (ses_clone V4.out (by omega))
 go_wp2_with fail
 refine HC.out.mono ?_
 rintro e w5 ⟨x,rfl,ho5,b5⟩
 have B5:=hD (below2Z B4.out b5)
 have C5:=hD (C4.out.later b5)
 have hz4:=B4.out.size
 obtain⟨g,cg,rfl⟩ : ∃ g cg,x=.slice (some ⟨g,0,none⟩) l.length cg:=by
  rcases ho5.2 with ⟨rfl,h0⟩ | ⟨g,cg,cur,rfl,_⟩
  ·omega
  ·exact⟨g,cg,rfl⟩
 have hgb:=ho5.head.2.1
 have O5:=hD (ownS_low ho5 hz4)
 clear ho5 b5 HC B4 C4 V4
 have f0:=O5.out.frozenAt (i * 6)
 have f1:=O5.out.frozenAt (i * 6+1)
 have f2:=O5.out.frozenAt (i * 6+2)
 have f3:=O5.out.frozenAt (i * 6+3)
 have f4:=O5.out.frozenAt (i * 6+4)
 have f5:=O5.out.frozenAt (i * 6+5)
 obtain⟨y0,y1,y2,y3,y4,y5⟩:=cells6 (O5.out.row sesOK hi)
 obtain⟨c0,c1,c2,c3,c4,c5⟩:=sixS_of C5.out
 have hnn:(0:Int)≤(i:Int):=by omega
 have hli:(i:Int) < (l.length:Int):=by omega
 have O6:=hD (ses_store O5.out hi u st id a b c)
 have B6:=hD (below_store6 B5.out (by omega:w.heap.size≤g) (i * 6) (i * 6+1) (i * 6+2) (i * 6+3) (i * 6+4) (i * 6+5) (.string ⟨u.toArray⟩) (.int .i64 id) (.int .i64 a) (.int .i64 b) (.int .i64 c) (.string ⟨st.toArray⟩))
 clear O5 B5 C5
 go_wp2_with fail
 go_ret2
 exact⟨_,rfl,O6.out,B6.out⟩

theorem sput_d {w:World} {v:Value} {l:List Ses} (hv:Sess w v l) (hs:ShortS l) (u st:List UInt8) (id a b c:Int) (hu:u.length≤4294967296) (hst:st.length≤4294967296) (h:seMay l=true) (ho:seOne ⟨u,id,⟨a,b,c,st⟩⟩=true) (hf:findO seIs l (keyS u id)=none) (h32:¬ l.length < 32) :
  Calls Tryz.prog 83 #[v,.agg #[.string ⟨u.toArray⟩,.int .i64 id,.int .i64 a,.int .i64 b,.int .i64 c,.string ⟨st.toArray⟩]] w fun e w' => e=.returned (.tuple #[v,.int .i64 5])∧Below w.heap.size w w':=by
 have bn:=bl_newZ w (.cells #[.string ⟨u.toArray⟩,.int .i64 id,.int .i64 a,.int .i64 b,.int .i64 c,.string ⟨st.toArray⟩] 122)
 have B0:=hD bn
 have C0:=hD (cellsAt_made (w:=w) (cs:=#[.string ⟨u.toArray⟩,.int .i64 id,.int .i64 a,.int .i64 b,.int .i64 c,.string ⟨st.toArray⟩]) (vs:=sesVals ⟨u,id,⟨a,b,c,st⟩⟩) rfl 122 rfl)
 have V0:=hD (hv.later bn)
 have HM:=hD (smay9_any V0.out hs (hD h))
 have HO:=hD (mayBe_any u st id a b c hu hst (hD ho))
 have HF1:=hD (seFind_none hf)
 have t32:decide (32≤(l.length:Int))=true:=by rw [decide_eq_true_eq]; omega
 obtain⟨ao,cap,rfl,_⟩:=hv.open'
 clear hv bn h ho hs hf h32
 go_enter Tryz.func83,Tryz.ntmps83
 go_wp2_with fail
 refine HM.out.mono ?_
 rintro e w1 ⟨rfl,b1⟩
 have B1:=hD (below2Z B0.out b1)
 have V1:=hD (V0.out.later b1)
 have C1:=hD (C0.out.later b1)
 clear b1
 obtain⟨c0,c1,c2,c3,c4,c5⟩:=sixS_of C1.out
 go_wp2_with fail
 refine (HO.out _).mono ?_
 rintro e w2 ⟨rfl,b2⟩
 have B2:=hD (below2Z B1.out b2)
 have V2:=hD (V1.out.later b2)
 have C2:=hD (C1.out.later b2)
 clear b2 c0 c1 c2 c3 c4 c5 B0 V0 C0 B1 V1 C1
 have HK:=hD (keyOf_any u st id a b c)
 obtain⟨c0,c1,c2,c3,c4,c5⟩:=sixS_of C2.out
 go_wp2_with fail
 refine (HK.out _).mono ?_
 rintro e w3 ⟨rfl,b3⟩
 have B3:=hD (below2Z B2.out b3)
 have V3:=hD (V2.out.later b3)
 have C3:=hD (C2.out.later b3)
 clear b3 c0 c1 c2 c3 c4 c5 B2 V2 C2
 have HF:=hD (sefind_any V3.out u id (hD HF1.out))
 go_wp2_with fail
 refine HF.out.mono ?_
 rintro e w4 ⟨rfl,b4⟩
 have B4:=hD (below2Z B3.out b4)
 have V4:=hD (V3.out.later b4)
 have C4:=hD (C3.out.later b4)
 clear b4 B3 V3 C3 HF
 go_wp2_with fail
 go_ret2
 exact⟨rfl,B4.out⟩

theorem mpr2' {p q:Prop} (hp:p) (h:p→q):q:=h hp

theorem sput_e {w:World} {v:Value} {l:List Ses} (hv:Sess w v l) (hs:ShortS l) (u st:List UInt8) (id a b c:Int) (hu:u.length≤4294967296) (hst:st.length≤4294967296) (h:seMay l=true) (ho:seOne ⟨u,id,⟨a,b,c,st⟩⟩=true) (hf:findO seIs l (keyS u id)=none) (h32:l.length < 32) {i:Nat} (hpl:placeO seLt l (keyS u id)=i) :
  Calls Tryz.prog 83 #[v,.agg #[.string ⟨u.toArray⟩,.int .i64 id,.int .i64 a,.int .i64 b,.int .i64 c,.string ⟨st.toArray⟩]] w fun e w' => ∃ x,e=.returned (.tuple #[x,.int .i64 0])∧OwnSes w' w.heap.size x (putS l i ⟨u,id,⟨a,b,c,st⟩⟩)∧Below w.heap.size w w':=by
 have bn:=bl_newZ w (.cells #[.string ⟨u.toArray⟩,.int .i64 id,.int .i64 a,.int .i64 b,.int .i64 c,.string ⟨st.toArray⟩] 122)
 have B0:=hD bn
 have C0:=hD (cellsAt_made (w:=w) (cs:=#[.string ⟨u.toArray⟩,.int .i64 id,.int .i64 a,.int .i64 b,.int .i64 c,.string ⟨st.toArray⟩]) (vs:=sesVals ⟨u,id,⟨a,b,c,st⟩⟩) rfl 122 rfl)
 have V0:=hD (hv.later bn)
 have HM:=hD (smay9_any V0.out hs (hD h))
 have HO:=hD (mayBe_any u st id a b c hu hst (hD ho))
 have HF1:=hD (seFind_none hf)
 have HRI:=hD (seMay_rise h).2.1
 have hil:i≤l.length:=by rw [← hpl]; exact placeO_le _ _
 have HPL:Hid (placeO seLt l (keyS u id)=i):=hD hpl
 have t32:decide (32≤(l.length:Int))=false:=by rw [decide_eq_false_iff_not]; omega
 obtain⟨ao,cap,rfl,_⟩:=hv.open'
 clear hv bn h ho hs hf hpl
 go_enter Tryz.func83,Tryz.ntmps83
 go_wp2_with fail
 refine HM.out.mono ?_
 rintro e w1 ⟨rfl,b1⟩
 have B1:=hD (below2Z B0.out b1)
 have V1:=hD (V0.out.later b1)
 have C1:=hD (C0.out.later b1)
 clear b1
 obtain⟨c0,c1,c2,c3,c4,c5⟩:=sixS_of C1.out
 go_wp2_with fail
 refine (HO.out _).mono ?_
 rintro e w2 ⟨rfl,b2⟩
 have B2:=hD (below2Z B1.out b2)
 have V2:=hD (V1.out.later b2)
 have C2:=hD (C1.out.later b2)
 clear b2 c0 c1 c2 c3 c4 c5 B0 V0 C0 B1 V1 C1
 have HK:=hD (keyOf_any u st id a b c)
 obtain⟨c0,c1,c2,c3,c4,c5⟩:=sixS_of C2.out
 go_wp2_with fail
 refine (HK.out _).mono ?_
 rintro e w3 ⟨rfl,b3⟩
 have B3:=hD (below2Z B2.out b3)
 have V3:=hD (V2.out.later b3)
 have C3:=hD (C2.out.later b3)
 clear b3 c0 c1 c2 c3 c4 c5 B2 V2 C2
 have HF:=hD (sefind_any V3.out u id (hD HF1.out))
 go_wp2_with fail
 refine HF.out.mono ?_
 rintro e w4 ⟨rfl,b4⟩
 have B4:=hD (below2Z B3.out b4)
 have V4:=hD (V3.out.later b4)
 have C4:=hD (C3.out.later b4)
 clear b4 B3 V3 C3 HF
 have hS4:SixS w4 w.heap.size u st id a b c:=sixS_of C4.out
 have hw4:w.heap.size < w4.heap.size:=World.block_lt_of_cell? _ _ hS4.1
 clear HM HO
 go_wp2_with fail
 go_region_held (fun W => W.cell? ⟨w.heap.size,0,none⟩=some (.string ⟨u.toArray⟩)∧W.cell? ⟨w.heap.size,1,none⟩=some (.int .i64 id)∧W.cell? ⟨w.heap.size,2,none⟩=some (.int .i64 a)∧W.cell? ⟨w.heap.size,3,none⟩=some (.int .i64 b)∧W.cell? ⟨w.heap.size,4,none⟩=some (.int .i64 c)∧W.cell? ⟨w.heap.size,5,none⟩=some (.string ⟨st.toArray⟩))
  (first | exact hS8 | exact hS7 | exact sixS_up (bl_newZ _ _) hS7 | exact hS6 | exact sixS_up (bl_newZ _ _) hS6 | exact hS5 | exact sixS_up (bl_newZ _ _) hS5 | exact hS4 | exact sixS_up ((Below.refl _ _).drew.alloc (by simp) _) hS4 | go_keep)
  ((first
   | (go_at_call 153; go_loud (refine (ses_clone (t:=l) (by first | with_reducible exact V4.out.later (Below.refl _ _).drew | exact V4.out.later ((Below.refl _ _).drew.alloc (by simp) _)) (by omega)).mono ?_; rintro e w5 ⟨x5,rfl,ho5,b5⟩; (have B5:Hid (Below w4.heap.size w4 w5):=hD (by first | with_reducible exact below2Z (Below.refl _ _).drew b5 | exact below2Z ((Below.refl _ _).drew.alloc (by simp) _) b5)); (have V5:=hD (V4.out.later B5.out)); (have O5:=hD ho5); (have z5:=B5.out.size); (have hS5:SixS w5 w.heap.size u st id a b c:=sixS_up B5.out hS4); (try (refine mpr2' (p:=LoneS sesVals 122 w5 w4.heap.size ⟨u,id,⟨a,b,c,st⟩⟩) ?_ ?_; (· exact LoneS.later (loneS_new (w:=w4.drew) (cs:=#[.string ⟨u.toArray⟩,.int .i64 id,.int .i64 a,.int .i64 b,.int .i64 c,.string ⟨st.toArray⟩]) rfl rfl) b5); intro hL5; (have L5:=hD hL5); clear hL5))))
   | (go_at_call 152; go_loud (refine (HK.out _).mono ?_; rintro e w6 ⟨rfl,b6⟩; (have B6:Hid (Below w5.heap.size w5 w6):=hD (by first | with_reducible exact b6 | exact below2Z (bl_newZ _ _) b6)); (have z6:=B6.out.size); (have hS6:SixS w6 w.heap.size u st id a b c:=sixS_up B6.out hS5); (have V6:=hD (V5.out.later B6.out)); (have O6:=hD (O5.out.later B6.out)); (try (refine mpr2' (p:=LoneS sesVals 122 w6 w4.heap.size ⟨u,id,⟨a,b,c,st⟩⟩) ?_ ?_; (· exact LoneS.later L5.out B6.out); intro hL6; (have L6:=hD hL6); clear hL6)); (try (refine mpr2' (p:=LoneS sesVals 122 w6 w5.heap.size ⟨u,id,⟨a,b,c,st⟩⟩) ?_ ?_; (· exact LoneS.later (loneS_new (w:=w5) (cs:=#[.string ⟨u.toArray⟩,.int .i64 id,.int .i64 a,.int .i64 b,.int .i64 c,.string ⟨st.toArray⟩]) rfl rfl) b6); intro hL6; (have L6:=hD hL6); clear hL6))))
   | (go_at_call 155; go_loud (refine (seplace_any (l:=l) (by first | with_reducible exact V6.out | exact V6.out.later (bl_newZ _ _)) HRI.out u id HPL).mono ?_; rintro e w7 ⟨rfl,b7⟩; (have B7:Hid (Below w6.heap.size w6 w7):=hD (by first | with_reducible exact b7 | exact below2Z (bl_newZ _ _) b7)); (have z7:=B7.out.size); (have hS7:SixS w7 w.heap.size u st id a b c:=sixS_up B7.out hS6); (have O7:=hD (O6.out.later B7.out)); (try (refine mpr2' (p:=LoneS sesVals 122 w7 w4.heap.size ⟨u,id,⟨a,b,c,st⟩⟩) ?_ ?_; (· exact LoneS.later L6.out B7.out); intro hL7; (have L7:=hD hL7); clear hL7)); (try (refine mpr2' (p:=LoneS sesVals 122 w7 w5.heap.size ⟨u,id,⟨a,b,c,st⟩⟩) ?_ ?_; (· exact LoneS.later L6.out B7.out); intro hL7; (have L7:=hD hL7); clear hL7)); (try (refine mpr2' (p:=LoneS sesVals 122 w7 w6.heap.size ⟨u,id,⟨a,b,c,st⟩⟩) ?_ ?_; (· exact LoneS.later (loneS_new (w:=w6) (cs:=#[.string ⟨u.toArray⟩,.int .i64 id,.int .i64 a,.int .i64 b,.int .i64 c,.string ⟨st.toArray⟩]) rfl rfl) b7); intro hL7; (have L7:=hD hL7); clear hL7))))
   | (go_at_call 154; go_loud (refine (ses_insert (base:=w4.heap.size) (t:=l) (i:=i) (r:=⟨u,id,⟨a,b,c,st⟩⟩) (by first | with_reducible exact ownS_low O7.out (by simp) | exact ownS_low (O7.out.alloc _) (by simp)) (by first | omega | (simp; omega)) (by omega) hil (by first | with_reducible exact L7.out | exact loneS_new (w:=w7) (cs:=#[.string ⟨u.toArray⟩,.int .i64 id,.int .i64 a,.int .i64 b,.int .i64 c,.string ⟨st.toArray⟩]) rfl rfl) (fun g n c e => by have h1:=(OwnS.gblock O5.out e).1; have h2:=(OwnS.gblock O5.out e).2.1; simp at h2; omega)).mono ?_; rintro e w8 ⟨x8,rfl,ho8,b8⟩; (have O8:=hD ho8); (have B8:Hid (Below w4.heap.size w7 w8):=hD (by first | with_reducible exact b8 | exact ((Below.refl _ w7).alloc (by omega) _).trans b8)); (have hS8:SixS w8 w.heap.size u st id a b c:=sixS_low B8.out hw4 hS7); clear ho8 b8))))
 all_goals
  have B9:=hD ((below2Z (below2Z (below2Z B4.out B5.out) B6.out) B7.out).trans (B8.out.mono B4.out.size))
  go_wp2_with fail
  go_ret2
  exact⟨_,rfl,ownS_low O8.out B4.out.size,B9.out⟩

theorem sput_any {w:World} {v:Value} {l:List Ses} (hv:Sess w v l) (hs:ShortS l) (s:Ses) (hu:s.u.length≤4294967296) (hst:s.v.st.length≤4294967296) {m:List Ses} {n:Nat} (h:Hid (sePut l s=(m,n))) :
  Calls Tryz.prog 83 #[v,sesAgg s] w fun e w' => ∃ x,e=.returned (.tuple #[x,.int .i64 n])∧Sess w' x m∧Below w.heap.size w w':=by
 obtain⟨u,id,⟨a,b,c,st⟩⟩:=s
 have h:=h.out
 cases hm:seMay l with
 | false =>
  rw [sePut_arg (.inl hm)] at h
  simp only [Prod.mk.injEq] at h
  obtain⟨rfl,rfl⟩:=h
  exact (sput_a hv hs u st id a b c hu hst hm).mono (fun e w' ⟨h1,h2⟩ => ⟨v,h1,hv.later h2,h2⟩)
 | true =>
  cases ho:seOne ⟨u,id,⟨a,b,c,st⟩⟩ with
  | false =>
   rw [sePut_arg (.inr ho)] at h
   simp only [Prod.mk.injEq] at h
   obtain⟨rfl,rfl⟩:=h
   exact (sput_b hv hs u st id a b c hu hst hm ho).mono (fun e w' ⟨h1,h2⟩ => ⟨v,h1,hv.later h2,h2⟩)
  | true =>
   cases hf:findO seIs l ⟨u,id,⟨a,b,c,st⟩⟩ with
   | some i =>
    rw [sePut_set hm ho hf] at h
    simp only [Prod.mk.injEq] at h
    obtain⟨rfl,rfl⟩:=h
    exact (sput_c hv hs u st id a b c hu hst hm ho hf).mono (fun e w' ⟨x,h1,h2,h3⟩ => ⟨x,h1,h2.rd sesOK,h3⟩)
   | none =>
    by_cases h32:l.length < 32
    ·rw [sePut_new hm ho hf h32] at h
     simp only [Prod.mk.injEq] at h
     obtain⟨rfl,rfl⟩:=h
     exact (sput_e hv hs u st id a b c hu hst hm ho hf h32 rfl).mono (fun e w' ⟨x,h1,h2,h3⟩ => ⟨x,h1,h2.rd sesOK,h3⟩)
    ·rw [sePut_full hm ho hf h32] at h
     simp only [Prod.mk.injEq] at h
     obtain⟨rfl,rfl⟩:=h
     exact (sput_d hv hs u st id a b c hu hst hm ho hf h32).mono (fun e w' ⟨h1,h2⟩ => ⟨v,h1,hv.later h2,h2⟩)

end Go.Proofs.YtphfinlfabklmaaGreat
