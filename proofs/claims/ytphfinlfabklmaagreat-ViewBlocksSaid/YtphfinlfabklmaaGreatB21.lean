/-
 TEXTS OF THE PROOF, one behind the other: SesMayC, StaMay, BesWor.
-/
import Derived.Test.YtphfinlfabklmaaGreatB20
import Derived.Test.YtphfinlfabklmaaGreatB19
import Derived.Test.YtphfinlfabklmaaGreatB13
import Derived.Test.YtphfinlfabklmaaGreatB18
import Derived.Test.YtphfinlfabklmaaGreatB12

set_option maxHeartbeats 12800000
set_option maxRecDepth 100000

section

namespace Go.Proofs.YtphfinlfabklmaaGreat
open Go.RowKit

def ShortS (l:List Ses):Prop:=∀ s ∈ l,s.u.length≤4294967296∧s.v.st.length≤4294967296

theorem ShortS.get {l:List Ses} (h:ShortS l) {k:Nat} (hk:k < l.length):(l.getD k Ses.zero).u.length≤4294967296∧(l.getD k Ses.zero).v.st.length≤4294967296:=by
 rw [sgetD hk]
 exact h _ (List.getElem_mem hk)

theorem rone_any (u st:List UInt8) (id a b c:Int) (hu:u.length≤4294967296) (hst:st.length≤4294967296) {r:Bool} (h:Hid (seOne ⟨u,id,⟨a,b,c,st⟩⟩=r)) (w:World) :
  Calls Tryz.prog 138 #[.agg #[.string ⟨u.toArray⟩,.int .i64 id,.int .i64 a,.int .i64 b,.int .i64 c,.string ⟨st.toArray⟩]] w fun e w' => e=.returned (.bool r)∧Below w.heap.size w w':=by
 have B0:=hD (bl_newZ w (.cells #[.string ⟨u.toArray⟩,.int .i64 id,.int .i64 a,.int .i64 b,.int .i64 c,.string ⟨st.toArray⟩] 122))
 rcases seOne_cases u st id a b c with ⟨h1,h2⟩ | ⟨h1,h3,h2⟩ | ⟨h1,h3,h4,h2⟩ | ⟨h1,h3,h4,h2⟩
 ·have hI:=hD (ris_any u hu)
  rw [h1] at hI
  rw [h.out] at h2
  subst h2
  clear h h1
  go_enter Tryz.func138,Tryz.ntmps138
  go_wp2_with fail
  refine (hI.out _).mono ?_
  rintro e w1 ⟨rfl,rfl⟩
  go_wp2_with fail
  go_ret
  exact⟨rfl,B0.out⟩
 ·have hI:=hD (ris_any u hu)
  rw [h1] at hI
  rw [h.out] at h2
  subst h2
  have t1:decide (0≤id)=false:=by simpa using h3
  clear h h1
  go_enter Tryz.func138,Tryz.ntmps138
  go_wp2_with fail
  refine (hI.out _).mono ?_
  rintro e w1 ⟨rfl,rfl⟩
  go_wp2_with fail
  go_ret
  exact⟨rfl,B0.out⟩
 ·have hI:=hD (ris_any u hu)
  rw [h1] at hI
  rw [h.out] at h2
  subst h2
  have t1:decide (0≤id)=true:=by simpa using h3
  have t2:decide (id < 4)=false:=by simpa using h4
  clear h h1
  go_enter Tryz.func138,Tryz.ntmps138
  go_wp2_with fail
  refine (hI.out _).mono ?_
  rintro e w1 ⟨rfl,rfl⟩
  go_wp2_with fail
  go_ret
  exact⟨rfl,B0.out⟩
 ·have hI:=hD (ris_any u hu)
  rw [h1] at hI
  rw [h.out] at h2
  have hV:=hD (rmay_any a b c st hst)
  rw [← h2] at hV
  have t1:decide (0≤id)=true:=by simpa using h3
  have t2:decide (id < 4)=true:=by simpa using h4
  clear h h1 h2
  go_enter Tryz.func138,Tryz.ntmps138
  go_wp2_with fail
  refine (hI.out _).mono ?_
  rintro e w1 ⟨rfl,rfl⟩
  go_wp2_with fail
  refine (hV.out _).mono ?_
  rintro e w2 ⟨rfl,b⟩
  have B2:=hD (below2Z B0.out b)
  clear b
  go_wp2_with fail
  go_ret
  exact⟨rfl,B2.out⟩

theorem seLt_cases (eu fu:List UInt8) (ei fi:Int) (v v':Val) :
  (idLess eu fu=true∧seLt ⟨eu,ei,v⟩ ⟨fu,fi,v'⟩=true)∨(idLess eu fu=false∧(eu == fu)=false∧seLt ⟨eu,ei,v⟩ ⟨fu,fi,v'⟩=false)∨(idLess eu fu=false∧(eu == fu)=true∧seLt ⟨eu,ei,v⟩ ⟨fu,fi,v'⟩=decide (ei < fi)):=by
 unfold seLt
 cases h:idLess eu fu with
 | true => exact .inl ⟨rfl,rfl⟩
 | false =>
  by_cases he:eu=fu
  ·exact .inr (.inr ⟨rfl,by simpa using he,by simp [he]⟩)
  ·exact .inr (.inl ⟨rfl,by rw [beq_eq_false_iff_ne]; exact he,by simp [he]⟩)

theorem rahead_any (eu es fu fs:List UInt8) (ei ea eb ec fi fa fb fc:Int) {r:Bool} (h:Hid (seLt ⟨eu,ei,⟨ea,eb,ec,es⟩⟩ ⟨fu,fi,⟨fa,fb,fc,fs⟩⟩=r)) (w:World) :
  Calls Tryz.prog 139 #[.agg #[.string ⟨eu.toArray⟩,.int .i64 ei,.int .i64 ea,.int .i64 eb,.int .i64 ec,.string ⟨es.toArray⟩],.agg #[.string ⟨fu.toArray⟩,.int .i64 fi,.int .i64 fa,.int .i64 fb,.int .i64 fc,.string ⟨fs.toArray⟩]] w fun e w' => e=.returned (.bool r)∧Below w.heap.size w w':=by
 have B0:Hid (Below w.heap.size w ((w.alloc (.cells #[.string ⟨eu.toArray⟩,.int .i64 ei,.int .i64 ea,.int .i64 eb,.int .i64 ec,.string ⟨es.toArray⟩] 122)).alloc (.cells #[.string ⟨fu.toArray⟩,.int .i64 fi,.int .i64 fa,.int .i64 fb,.int .i64 fc,.string ⟨fs.toArray⟩] 122))):=hD (((Below.refl _ _).alloc (Nat.le_refl _) _).alloc (by simp) _)
 rcases seLt_cases eu fu ei fi ⟨ea,eb,ec,es⟩ ⟨fa,fb,fc,fs⟩ with ⟨h1,h2⟩ | ⟨h1,t1,h2⟩ | ⟨h1,t1,h2⟩
 ·have HL:Hid (∀ w,Calls Tryz.prog 109 #[.string ⟨eu.toArray⟩,.string ⟨fu.toArray⟩] w fun e w' => e=.returned (.bool true)∧w=w'):=hD (rless_eq eu fu (hD h1))
  rw [h.out] at h2
  subst h2
  clear h h1
  go_enter Tryz.func139,Tryz.ntmps139
  go_wp2_with fail
  refine (HL.out _).mono ?_
  rintro e w1 ⟨rfl,rfl⟩
  go_wp2_with fail
  go_ret
  exact⟨rfl,B0.out⟩
 ·have HL:Hid (∀ w,Calls Tryz.prog 109 #[.string ⟨eu.toArray⟩,.string ⟨fu.toArray⟩] w fun e w' => e=.returned (.bool false)∧w=w'):=hD (rless_eq eu fu (hD h1))
  rw [h.out] at h2
  subst h2
  clear h h1
  go_enter Tryz.func139,Tryz.ntmps139
  go_wp2_with fail
  refine (HL.out _).mono ?_
  rintro e w1 ⟨rfl,rfl⟩
  go_wp2_with fail
  go_ret
  exact⟨rfl,B0.out⟩
 ·have HL:Hid (∀ w,Calls Tryz.prog 109 #[.string ⟨eu.toArray⟩,.string ⟨fu.toArray⟩] w fun e w' => e=.returned (.bool false)∧w=w'):=hD (rless_eq eu fu (hD h1))
  rw [h.out] at h2
  subst h2
  clear h h1
  go_enter Tryz.func139,Tryz.ntmps139
  go_wp2_with fail
  refine (HL.out _).mono ?_
  rintro e w1 ⟨rfl,rfl⟩
  go_wp2_with fail
  go_ret
  exact⟨rfl,B0.out⟩

theorem smay9_any {w:World} {v:Value} {l:List Ses} (hv:Sess w v l) (hs:ShortS l) {r:Bool} (h:Hid (seMay l=r)) :
  Calls Tryz.prog 115 #[v] w fun e w' => e=.returned (.bool r)∧Below w.heap.size w w':=by
 have HV:=hD hv
 have HS:=hD hs
 obtain⟨a,cap,rfl,hm⟩:=hv.open'
 clear hv hs
 by_cases h32:l.length≤32
 ·have t0:decide (32 < (l.length:Int))=false:=by simp; omega
  go_enter Tryz.func115,Tryz.ntmps115
  go_wp2_with fail
  go_loopw [10] (fun i wr => ∃ k:Nat,k≤l.length∧i=.int .i64 k∧Hid (Below w.heap.size w wr)∧Hid ((List.range k).all (seAt l)=true)) (fun i _ => l.length - (intOf i).toNat)
  case atStart => exact⟨0,by omega,rfl,Below.refl _ _,rfl⟩
  case round =>
   obtain⟨k,hk,rfl,HB,HA⟩:=hrel
   by_cases hlt:k < l.length
   ·obtain⟨bk,off,rfl,hc⟩:=HV.out.row HB.out k hlt
    obtain⟨hl1,hl2⟩:=HS.out.get hlt
    obtain⟨⟨eu,ei,⟨ea,eb,ec,es⟩⟩,hr⟩ : ∃ r,l.getD k Ses.zero=r:=⟨_,rfl⟩
    rw [hr] at hc hl1 hl2
    try simp only at hl1 hl2
    have HC:=hD hc
    obtain⟨q,hq⟩ : ∃ q,seOne ⟨eu,ei,⟨ea,eb,ec,es⟩⟩=q:=⟨_,rfl⟩
    have HI:=hD (mayBe_any eu es ei ea eb ec hl1 hl2 (hD hq))
    have hnn:(0:Int)≤(k:Int):=by omega
    have hli:(k:Int) < (l.length:Int):=by omega
    have t1:decide ((k:Int) < (l.length:Int))=true:=by simpa using hli
    obtain⟨h0,h1,h2,h3,h4,h5⟩:=cells6 hc
    try simp only at h0 h1 h2 h3 h4 h5
    have C1:=hD (cellsAt_made (w:=wr) (cs:=#[.string ⟨eu.toArray⟩,.int .i64 ei,.int .i64 ea,.int .i64 eb,.int .i64 ec,.string ⟨es.toArray⟩]) (vs:=sesVals ⟨eu,ei,⟨ea,eb,ec,es⟩⟩) rfl 122 rfl)
    have bn:=bl_newZ wr (.cells #[.string ⟨eu.toArray⟩,.int .i64 ei,.int .i64 ea,.int .i64 eb,.int .i64 ec,.string ⟨es.toArray⟩] 122)
    have B1:=hD (below2Z HB.out bn)
    clear hc bn
    cases q with
    | false =>
     have HR:seMay l=false:=seMay_off hlt (by unfold seAt; rw [hr,hq]; rfl)
     rw [h.out] at HR
     subst HR
     clear hr hq
     go_wp2_with fail
     refine (HI.out _).mono ?_
     rintro e w2 ⟨rfl,b2⟩
     have B2:=hD (below2Z B1.out b2)
     clear b2 h0 h1 h2 h3 h4 h5
     go_wp2_with fail
     go_ret
     exact⟨rfl,B2.out⟩
    | true =>
     rcases Nat.eq_zero_or_pos k with rfl | hpos
     ·have HA2:Hid ((List.range (0+1)).all (seAt l)=true):=all_next HA.out (by unfold seAt; rw [hr,hq]; rfl)
      simp only [Nat.zero_mul,Nat.add_zero] at h0 h1 h2 h3 h4 h5
      clear hr hq
      go_wp2_with fail
      refine (HI.out _).mono ?_
      rintro e w2 ⟨rfl,b2⟩
      have B2:=hD (below2Z B1.out b2)
      clear b2 h0 h1 h2 h3 h4 h5
      go_wp2_with fail
      refine wp_region_quiet_below (by kernel_rfl) (by kernel_rfl) ?_
      repeat (go_big_quiet_step (fail))
      refine wpQuiet_nil ?_
      intro w5 hw5
      have B5:=hD (below2Z B2.out (regrownZ hw5))
      clear hw5
      go_wp2_with fail
      go_roundw
      case rel => exact⟨1,by omega,by go_num,B5,HA2⟩
      case measure => simp [intOf]; omega
     ·obtain⟨j,rfl⟩ : ∃ j,k=j+1:=⟨k - 1,by omega⟩
      obtain⟨b2,off2,e2,hP⟩:=HV.out.row HB.out j (by omega)
      injection e2 with e2
      injection e2 with e3 e4 _
      subst e3 e4
      obtain⟨⟨fu,fi,⟨fa,fb,fc,fs⟩⟩,hr2⟩ : ∃ r,l.getD j Ses.zero=r:=⟨_,rfl⟩
      rw [hr2] at hP
      have HP:=hD (hP.later (bl_newZ wr (.cells #[.string ⟨eu.toArray⟩,.int .i64 ei,.int .i64 ea,.int .i64 eb,.int .i64 ec,.string ⟨es.toArray⟩] 122)))
      obtain⟨p,hp⟩ : ∃ p,seLt ⟨fu,fi,⟨fa,fb,fc,fs⟩⟩ ⟨eu,ei,⟨ea,eb,ec,es⟩⟩=p:=⟨_,rfl⟩
      have HK1:=hD (keyOf_any fu fs fi fa fb fc)
      have HK2:=hD (keyOf_any eu es ei ea eb ec)
      have HL:=hD (isAhead_any fu eu fi ei (r:=p) (hD (by rw [← hp]; rfl)))
      have hAt:seAt l (j+1)=p:=by
       unfold seAt
       rw [hr,show j+1 - 1=j by omega,hr2,hq,hp]
       simp
      have em:((j+1:Nat):Int) - 1=(j:Int):=by omega
      have t6:(0:Int)≤(j:Int):=by omega
      have t7:(j:Int) < (l.length:Int):=by omega
      have t8:decide ((0:Int) < ((j+1:Nat):Int))=true:=by rw [decide_eq_true_eq]; omega
      have HAt:=hD hAt
      clear hr hq hr2 hp hP hAt
      go_wp2_with fail
      refine (HI.out _).mono ?_
      rintro e w2 ⟨rfl,b2⟩
      have B2:=hD (below2Z B1.out b2)
      have C2:=hD (C1.out.later b2)
      have P2:=hD (HP.out.later b2)
      clear b2 h0 h1 h2 h3 h4 h5
      go_wp2_with fail
      obtain⟨q0,q1,q2,q3,q4,q5⟩:=cells6_regrown C2.out
      obtain⟨p0,p1,p2,p3,p4,p5⟩:=cells6_regrown P2.out
      simp only [Nat.zero_add] at q0 q1 q2 q3 q4 q5
      try simp only at p0 p1 p2 p3 p4 p5
      refine wp_region_quiet_below (by kernel_rfl) (by kernel_rfl) ?_
      repeat (go_big_quiet_step (first | with_reducible exact rgB HK1.out _ _ _ | with_reducible exact rgB HK2.out _ _ _ | with_reducible exact rgB HL.out _ _ _))
      refine wpQuiet_nil ?_
      intro w5 hw5
      have B5:=hD (below2Z B2.out (regrownZ hw5))
      clear hw5 p0 p1 p2 p3 p4 p5 q0 q1 q2 q3 q4 q5
      cases p with
      | true =>
       have HA2:Hid ((List.range (j+1+1)).all (seAt l)=true):=all_next HA.out HAt.out
       go_wp2_with fail
       go_roundw
       case rel => exact⟨j+1+1,by omega,by go_num,B5,HA2⟩
       case measure => simp [intOf]; omega
      | false =>
       have HR:seMay l=false:=seMay_off hlt HAt.out
       rw [h.out] at HR
       subst HR
       go_wp2_with fail
       go_ret
       exact⟨rfl,B5.out⟩
   ·obtain rfl:k=l.length:=by omega
    have HR:seMay l=true:=seMay_all h32 HA.out
    rw [h.out] at HR
    subst HR
    go_wp2_with fail
    go_ret
    exact⟨rfl,HB.out⟩
 ·have t0:decide (32 < (l.length:Int))=true:=by simp; omega
  have HR:seMay l=false:=seMay_long h32
  rw [h.out] at HR
  subst HR
  go_enter Tryz.func115,Tryz.ntmps115
  go_wp2_with fail
  go_ret
  exact⟨rfl,Below.refl _ _⟩

theorem rsmay9_any {w:World} {v:Value} {l:List Ses} (hv:Sess w v l) (hs:ShortS l) {r:Bool} (h:Hid (seMay l=r)) :
  Calls Tryz.prog 76 #[v] w fun e w' => e=.returned (.bool r)∧Below w.heap.size w w':=by
 have HV:=hD hv
 have HS:=hD hs
 obtain⟨a,cap,rfl,hm⟩:=hv.open'
 clear hv hs
 by_cases h32:l.length≤32
 ·have t0:decide (32 < (l.length:Int))=false:=by simp; omega
  go_enter Tryz.func76,Tryz.ntmps76
  go_wp2_with fail
  go_loopw [3] (fun i wr => ∃ k:Nat,k≤l.length∧i=.int .i64 k∧Hid (Below w.heap.size w wr)∧Hid ((List.range k).all (seAt l)=true)) (fun i _ => l.length - (intOf i).toNat)
  case atStart => exact⟨0,by omega,rfl,Below.refl _ _,rfl⟩
  case round =>
   obtain⟨k,hk,rfl,HB,HA⟩:=hrel
   by_cases hlt:k < l.length
   ·obtain⟨bk,off,rfl,hc⟩:=HV.out.row HB.out k hlt
    obtain⟨hl1,hl2⟩:=HS.out.get hlt
    obtain⟨⟨eu,ei,⟨ea,eb,ec,es⟩⟩,hr⟩ : ∃ r,l.getD k Ses.zero=r:=⟨_,rfl⟩
    rw [hr] at hc hl1 hl2
    try simp only at hl1 hl2
    have HC:=hD hc
    obtain⟨q,hq⟩ : ∃ q,seOne ⟨eu,ei,⟨ea,eb,ec,es⟩⟩=q:=⟨_,rfl⟩
    have HI:=hD (rone_any eu es ei ea eb ec hl1 hl2 (hD hq))
    have hnn:(0:Int)≤(k:Int):=by omega
    have hli:(k:Int) < (l.length:Int):=by omega
    have t1:decide ((k:Int) < (l.length:Int))=true:=by simpa using hli
    obtain⟨h0,h1,h2,h3,h4,h5⟩:=cells6_regrown hc
    try simp only at h0 h1 h2 h3 h4 h5
    clear hc
    cases q with
    | false =>
     have HR:seMay l=false:=seMay_off hlt (by unfold seAt; rw [hr,hq]; rfl)
     rw [h.out] at HR
     subst HR
     clear hr hq
     go_wp2_with fail
     refine wp_region_quiet_below (by kernel_rfl) (by kernel_rfl) ?_
     repeat (go_big_quiet_step (with_reducible exact rgB HI.out _ _ _))
     refine wpQuiet_nil ?_
     intro w5 hw5
     have B5:=hD (below2Z HB.out (regrownZ hw5))
     clear hw5 h0 h1 h2 h3 h4 h5
     go_wp2_with fail
     go_ret
     exact⟨rfl,B5.out⟩
    | true =>
     rcases Nat.eq_zero_or_pos k with rfl | hpos
     ·have HA2:Hid ((List.range (0+1)).all (seAt l)=true):=all_next HA.out (by unfold seAt; rw [hr,hq]; rfl)
      simp only [Nat.zero_mul,Nat.add_zero] at h0 h1 h2 h3 h4 h5
      clear hr hq
      go_wp2_with fail
      refine wp_region_quiet_below (by kernel_rfl) (by kernel_rfl) ?_
      repeat (go_big_quiet_step (with_reducible exact rgB HI.out _ _ _))
      refine wpQuiet_nil ?_
      intro w5 hw5
      have B5:=hD (below2Z HB.out (regrownZ hw5))
      clear hw5 h0 h1 h2 h3 h4 h5
      go_wp2_with fail
      go_roundw
      case rel => exact⟨1,by omega,by go_num,B5,HA2⟩
      case measure => simp [intOf]; omega
     ·obtain⟨j,rfl⟩ : ∃ j,k=j+1:=⟨k - 1,by omega⟩
      obtain⟨b2,off2,e2,hP⟩:=HV.out.row HB.out j (by omega)
      injection e2 with e2
      injection e2 with e3 e4 _
      subst e3 e4
      obtain⟨⟨fu,fi,⟨fa,fb,fc,fs⟩⟩,hr2⟩ : ∃ r,l.getD j Ses.zero=r:=⟨_,rfl⟩
      rw [hr2] at hP
      obtain⟨p0,p1,p2,p3,p4,p5⟩:=cells6_regrown hP
      try simp only at p0 p1 p2 p3 p4 p5
      obtain⟨p,hp⟩ : ∃ p,seLt ⟨fu,fi,⟨fa,fb,fc,fs⟩⟩ ⟨eu,ei,⟨ea,eb,ec,es⟩⟩=p:=⟨_,rfl⟩
      have HL:=hD (rahead_any fu fs eu es fi fa fb fc ei ea eb ec (r:=p) (hD hp))
      have hAt:seAt l (j+1)=p:=by
       unfold seAt
       rw [hr,show j+1 - 1=j by omega,hr2,hq,hp]
       simp
      have em:((j+1:Nat):Int) - 1=(j:Int):=by omega
      have t6:(0:Int)≤(j:Int):=by omega
      have t7:(j:Int) < (l.length:Int):=by omega
      have t8:decide ((0:Int) < ((j+1:Nat):Int))=true:=by rw [decide_eq_true_eq]; omega
      have HAt:=hD hAt
      clear hr hq hr2 hp hP hAt
      go_wp2_with fail
      refine wp_region_quiet_below (by kernel_rfl) (by kernel_rfl) ?_
      repeat (go_big_quiet_step (first | with_reducible exact rgB HI.out _ _ _ | with_reducible exact rgB HL.out _ _ _))
      refine wpQuiet_nil ?_
      intro w5 hw5
      have B5:=hD (below2Z HB.out (regrownZ hw5))
      clear hw5 p0 p1 p2 p3 p4 p5 h0 h1 h2 h3 h4 h5
      cases p with
      | true =>
       have HA2:Hid ((List.range (j+1+1)).all (seAt l)=true):=all_next HA.out HAt.out
       go_wp2_with fail
       go_roundw
       case rel => exact⟨j+1+1,by omega,by go_num,B5,HA2⟩
       case measure => simp [intOf]; omega
      | false =>
       have HR:seMay l=false:=seMay_off hlt HAt.out
       rw [h.out] at HR
       subst HR
       go_wp2_with fail
       go_ret
       exact⟨rfl,B5.out⟩
   ·obtain rfl:k=l.length:=by omega
    have HR:seMay l=true:=seMay_all h32 HA.out
    rw [h.out] at HR
    subst HR
    go_wp2_with fail
    go_ret
    exact⟨rfl,HB.out⟩
 ·have t0:decide (32 < (l.length:Int))=true:=by simp; omega
  have HR:seMay l=false:=seMay_long h32
  rw [h.out] at HR
  subst HR
  go_enter Tryz.func76,Tryz.ntmps76
  go_wp2_with fail
  go_ret
  exact⟨rfl,Below.refl _ _⟩

end Go.Proofs.YtphfinlfabklmaaGreat

end

section

namespace Go.Proofs.YtphfinlfabklmaaGreat
open Go.RowKit

theorem upT {w w':World} {b:Nat} {o:Obj} (h:w.heap[b]?=some o) (hb:Below w.heap.size w w'):w'.heap[b]?=some o :=
 (hb.block b (Array.getElem?_eq_some_iff.1 h).1).trans h

theorem heap_newT (w:World) (o:Obj):(w.alloc o).heap[w.heap.size]?=some o:=(MapKept.heap_alloc w o).1

theorem two_T {w:World} {b:Nat} {x0 x1:Value} {T:TypeId} (h:w.heap[b]?=some (.cells #[x0,x1] T (0,0))):w.cell? ⟨b,0,none⟩=some x0∧w.cell? ⟨b,1,none⟩=some x1∧w.frozen? ⟨b,0,none⟩=false∧w.frozen? ⟨b,1,none⟩=false :=
 ⟨cell_of_row w b 0 _ _ (0,0) h,cell_of_row w b 1 _ _ (0,0) h,frozen_of_row w b 0 _ _ h,frozen_of_row w b 1 _ _ h⟩

def AllSl (cs:Array Value):Prop:=∀ (j:Nat) (u:Value),cs[j]?=some u→∃ a n c,u=Value.slice a n c

theorem AllSl.no {cs:Array Value} (h:AllSl cs):∀ (j:Nat) (s:ByteArray),cs[j]? ≠ some (Value.string s):=by
 intro j s e
 obtain⟨_,_,_,hx⟩:=h _ _ e
 cases hx

theorem rdS_keep {α:Type} {vals:α→List Value} {sz:Nat} {zero:α} {w:World} {v:Value} {t:List α} (h:RdS vals sz zero w v t) (hf:∀ r,∃ s,(vals r)[0]?=some (.string s)) {S:Nat} {cs:Array Value} {T:TypeId} {m:Nat × Nat} (hb:w.heap[S]?=some (.cells cs T m)) (hs:∀ (j:Nat) (s:ByteArray),cs[j]? ≠ some (Value.string s)) (j:Nat) (u:Value) :
  RdS vals sz zero (w.setCell ⟨S,j,none⟩ u) v t:=by
 obtain⟨a,cap,h1,h2,h3,h4,h5⟩:=h
 refine ⟨a,cap,h1,h2,h3,h4,?_⟩
 rcases h5 with h5 | ⟨b,off,e,hlt,hc⟩
 ·exact .inl h5
 ·by_cases ht:t=[]
  ·exact .inl ht
  ·have hpos:0 < t.length:=List.length_pos_iff.2 ht
   have hne:b ≠ S:=by
    rintro rfl
    obtain⟨s,hs0⟩:=hf (t.getD 0 zero)
    have h0:=hc 0 hpos 0 _ hs0
    simp only [World.cell?,hb] at h0
    have h0':cs[off+0 * sz+0]?=some (.string s):=by simpa using h0
    exact hs _ _ h0'
   refine .inr ⟨b,off,e,by simpa [World.setCell] using hlt,fun i hi => ?_⟩
   intro k x hx
   rw [World.cell?_setCell_other _ _ _ _ (by simp)]
   exact hc i hi k x hx

theorem StAt.keep {w:World} {x y:Value} {t:Sta} (h:StAt w x y t) {S:Nat} {cs:Array Value} {T:TypeId} {m:Nat × Nat} (hb:w.heap[S]?=some (.cells cs T m)) (hs:∀ (j:Nat) (s:ByteArray),cs[j]? ≠ some (Value.string s)) (j:Nat) (u:Value):StAt (w.setCell ⟨S,j,none⟩ u) x y t :=
 ⟨(rdS_keep h.1.rdS (fun _ => ⟨_,rfl⟩) hb hs j u).ents,rdS_keep h.2 (fun _ => ⟨_,rfl⟩) hb hs j u⟩

theorem stmay_any {w:World} {x y:Value} {t:Sta} (h:StAt w x y t) (he:ShortE t.e) (hs:ShortS t.s) {r:Bool} (hr:Hid (stMay t=r)) :
  Calls Tryz.prog 64 #[.agg #[x,y]] w fun e w' => e=.returned (.bool r)∧Below w.heap.size w w':=by
 have hr:=hr.out
 unfold stMay at hr
 have b0:=bl_newZ w (.cells #[x,y] 25)
 have HB:=hD b0
 have H:=hD (h.later b0)
 have F:=hD (heap_newT w (.cells #[x,y] 25))
 have HE:=hD he
 have HS:=hD hs
 obtain⟨c0,c1,-,-⟩:=two_T F.out
 obtain⟨a,ha⟩ : ∃ a,roMayC t.e=a:=⟨_,rfl⟩
 obtain⟨b,hb⟩ : ∃ b,seMay t.s=b:=⟨_,rfl⟩
 rw [ha,hb] at hr
 have HA:=hD ha
 have HC:=hD hb
 clear ha hb b0 h he hs
 cases a with
 | false =>
  rw [Bool.false_and] at hr
  subst hr
  go_enter Tryz.func64,Tryz.ntmps64
  go_wp2_with fail
  refine (romay_any H.out.1 HE.out HA).mono ?_
  rintro e w1 ⟨rfl,b1⟩
  replace HB:=hD (below2Z HB.out b1)
  clear b1 c0 c1
  go_wp2_with fail
  go_ret
  exact⟨rfl,HB.out⟩
 | true =>
  rw [Bool.true_and] at hr
  subst hr
  go_enter Tryz.func64,Tryz.ntmps64
  go_wp2_with fail
  refine (romay_any H.out.1 HE.out HA).mono ?_
  rintro e w1 ⟨rfl,b1⟩
  replace HB:=hD (below2Z HB.out b1)
  replace H:=hD (H.out.later b1)
  replace F:=hD (upT F.out b1)
  clear b1 c0 c1
  obtain⟨c0,c1,-,-⟩:=two_T F.out
  go_wp2_with fail
  refine (smay9_any H.out.2 HS.out HC).mono ?_
  rintro e w2 ⟨rfl,b2⟩
  replace HB:=hD (below2Z HB.out b2)
  clear b2 c0 c1
  go_wp2_with fail
  go_ret
  exact⟨rfl,HB.out⟩

theorem rstmay_any {w:World} {x y:Value} {t:Sta} (h:StAt w x y t) (he:ShortE t.e) (hl:t.e.length≤4294967) (hs:ShortS t.s) {r:Bool} (hr:Hid (stMay t=r)) :
  Calls Tryz.prog 26 #[.agg #[x,y]] w fun e w' => e=.returned (.bool r)∧Below w.heap.size w w':=by
 have hr:=hr.out
 unfold stMay at hr
 rw [← roMay_same] at hr
 have b0:=bl_newZ w (.cells #[x,y] 25)
 have HB:=hD b0
 have H:=hD (h.later b0)
 have F:=hD (heap_newT w (.cells #[x,y] 25))
 have HE:=hD he
 have HS:=hD hs
 obtain⟨c0,c1,-,-⟩:=two_T F.out
 obtain⟨a,ha⟩ : ∃ a,roMayD t.e=a:=⟨_,rfl⟩
 obtain⟨b,hb⟩ : ∃ b,seMay t.s=b:=⟨_,rfl⟩
 rw [ha,hb] at hr
 have HA:=hD ha
 have HC:=hD hb
 clear ha hb b0 h he hs
 cases a with
 | false =>
  rw [Bool.false_and] at hr
  subst hr
  go_enter Tryz.func26,Tryz.ntmps26
  go_wp2_with fail
  refine (rmay8_any H.out.1 HE.out hl HA).mono ?_
  rintro e w1 ⟨rfl,b1⟩
  replace HB:=hD (below2Z HB.out b1)
  clear b1 c0 c1
  go_wp2_with fail
  go_ret
  exact⟨rfl,HB.out⟩
 | true =>
  rw [Bool.true_and] at hr
  subst hr
  go_enter Tryz.func26,Tryz.ntmps26
  go_wp2_with fail
  refine (rmay8_any H.out.1 HE.out hl HA).mono ?_
  rintro e w1 ⟨rfl,b1⟩
  replace HB:=hD (below2Z HB.out b1)
  replace H:=hD (H.out.later b1)
  replace F:=hD (upT F.out b1)
  clear b1 c0 c1
  obtain⟨c0,c1,-,-⟩:=two_T F.out
  go_wp2_with fail
  refine (rsmay9_any H.out.2 HS.out HC).mono ?_
  rintro e w2 ⟨rfl,b2⟩
  replace HB:=hD (below2Z HB.out b2)
  clear b2 c0 c1
  go_wp2_with fail
  go_ret
  exact⟨rfl,HB.out⟩

end Go.Proofs.YtphfinlfabklmaaGreat

end

section

namespace Go.Proofs.YtphfinlfabklmaaGreat
open Go.RowKit

def fewOne (s:Ses):Bool:=decide (s.u.length≤40) && decide (s.v.st.length≤60)

def fewSes (l:List Ses):Bool:=decide (l.length≤50) && l.all fewOne

theorem few_off {l:List Ses} {k:Nat} (hk:k < l.length) (h:fewOne (sat l k)=false):fewSes l=false:=by
 unfold fewSes
 rw [show l.all fewOne=false from ?_,Bool.and_false]
 rw [List.all_eq_false]
 rw [show sat l k=l[k] from sgetDB hk] at h
 exact⟨l[k],List.getElem_mem hk,by rw [h]; simp⟩

theorem few_on {l:List Ses} {k:Nat} (ha:∀ j,j < k→fewOne (sat l j)=true) (h:fewOne (sat l k)=true):∀ j,j < k+1→fewOne (sat l j)=true:=by
 intro j hj
 by_cases e:j=k
 ·rw [e]; exact h
 ·exact ha j (by omega)

theorem few_all {l:List Ses} (hl:l.length≤50) (ha:∀ j,j < l.length→fewOne (sat l j)=true):fewSes l=true:=by
 unfold fewSes
 rw [show decide (l.length≤50)=true by simpa using hl,Bool.true_and,List.all_eq_true]
 intro s hs
 obtain⟨j,hj,rfl⟩:=List.getElem_of_mem hs
 have:=ha j hj
 rwa [show sat l j=l[j] from sgetDB hj] at this

theorem few_get {l:List Ses} (h:fewSes l=true):l.length≤50∧∀ s ∈ l,s.u.length≤40∧s.v.st.length≤60:=by
 unfold fewSes at h
 rw [Bool.and_eq_true,List.all_eq_true] at h
 refine ⟨by simpa using h.1,fun s hs => ?_⟩
 have:=h.2 s hs
 unfold fewOne at this
 simpa using this

theorem few09_eq {w:World} {v:Value} {l:List Ses} (hv:Sess w v l) {r:Bool} (hr:fewSes l=r) :
  Calls Tryz.prog 61 #[v] w fun e w' => e=.returned (.bool r)∧w=w':=by
 have HV:=hD hv
 obtain⟨ao,cap,rfl,hm⟩:=hv.open'
 clear hv
 by_cases hl:l.length≤50
 ·have t0:decide (50 < (l.length:Int))=false:=by simp; omega
  have HR:=hD hr
  clear hr
  go_enter Tryz.func61,Tryz.ntmps61
  go_wp2_with fail
  go_loop [3] (fun t => ∃ k:Nat,k≤l.length∧t=.int .i64 k∧Hid (∀ j,j < k→fewOne (sat l j)=true)) (fun t => l.length - (intOf t).toNat)
  case atStart => exact⟨0,by omega,rfl,by show ∀ _,_; intro j hj; omega⟩
  case round =>
   obtain⟨k,hk,rfl,HA⟩:=hrel
   by_cases hlt:k < l.length
   ·obtain⟨b,off,rfl,hc⟩:=HV.out.row (Below.refl _ _) k hlt
    have hA1:=few_off (l:=l) hlt
    have hA2:=few_on (l:=l) (k:=k) HA.out
    obtain⟨⟨xn,xi,⟨xa,xb,xc,xs⟩⟩,hx⟩ : ∃ s,sat l k=s:=⟨_,rfl⟩
    rw [show l.getD k Ses.zero=sat l k from rfl,hx] at hc
    rw [hx] at hA1 hA2
    obtain⟨s0,s1,s2,s3,s4,s5⟩:=cells6 hc
    try simp only at s0 s1 s2 s3 s4 s5
    by_cases h1:xn.length≤40
    ·have t1:decide (40 < (xn.length:Int))=false:=by simp; omega
     by_cases h2:xs.length≤60
     ·have t2:decide (60 < (xs.length:Int))=false:=by simp; omega
      have HA2:Hid (∀ j,j < k+1→fewOne (sat l j)=true):=hA2 (by unfold fewOne; simp [h1,h2])
      clear hA1 hA2 hx hc h1 h2
      go_wp2_with fail
      go_round
      case rel => exact⟨k+1,by omega,by go_num,HA2⟩
      case measure => simp [intOf]; omega
     ·have t2:decide (60 < (xs.length:Int))=true:=by simp; omega
      have HRF:Hid (false=r):=by show _=_; rw [← HR.out,hA1 (by unfold fewOne; simp [h1]; omega)]
      clear hA1 hA2 hx hc h1 h2
      go_wp2_with fail
      go_ret
      exact⟨by rw [← HRF.out]; rfl,rfl⟩
    ·have t1:decide (40 < (xn.length:Int))=true:=by simp; omega
     have HRF:Hid (false=r):=by show _=_; rw [← HR.out,hA1 (by unfold fewOne; simp [h1])]
     clear hA1 hA2 hx hc h1
     go_wp2_with fail
     go_ret
     exact⟨by rw [← HRF.out]; rfl,rfl⟩
   ·obtain rfl:k=l.length:=by omega
    have HRF:Hid (true=r):=by show _=_; rw [← HR.out,few_all hl HA.out]
    go_wp2_with fail
    go_ret
    exact⟨by rw [← HRF.out]; rfl,rfl⟩
 ·have t0:decide (50 < (l.length:Int))=true:=by simp; omega
  have HRF:Hid (false=r):=by
   show _=_
   rw [← hr]
   unfold fewSes
   rw [show decide (l.length≤50)=false by simp; omega]
   rfl
  clear hr hl
  go_enter Tryz.func61,Tryz.ntmps61
  go_wp2_with fail
  go_ret
  exact⟨by rw [← HRF.out]; rfl,rfl⟩

end Go.Proofs.YtphfinlfabklmaaGreat

end
