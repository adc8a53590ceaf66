/-
 TEXTS OF THE PROOF, one behind the other: RosSymM, RosSymS, ViewWat, Held.
-/
import Derived.Test.YtphfinlfabklmaaGreatB16
import Derived.Test.YtphfinlfabklmaaGreatB28
import Derived.Test.YtphfinlfabklmaaGreatB13
import Derived.Test.YtphfinlfabklmaaGreatB10
import Derived.Deep.RegionHeld
import Derived.BigRegion
import Derived.Lib.Hide

set_option maxHeartbeats 12800000
set_option maxRecDepth 100000

section

namespace Go.Proofs.YtphfinlfabklmaaGreat
open Go.RowKit

theorem rsym_one {w:World} {v:Value} {l:List Ent} (hv:Ents w v l) (hr:Rise l) {a m b:Nat} (hma1:a < m) (hma2:m≤a+1) (hab:m < b) (hb:b≤l.length) (hl:l.length≤4294967) :
  Calls Tryz.prog 215 #[v,.int .i64 a,.int .i64 m,.int .i64 b,.func (.func 125) #[] #[]] w fun e w' => e=.returned (.tuple #[])∧Below w.heap.size w w':=by
 have HV:=hD hv
 have HR:=hD hr
 obtain⟨ad,cap,rfl,hm⟩:=hv.open'
 clear hv hr
 have e1:(m:Int) - (a:Int)=1:=by omega
 go_enter Tryz.func215,Tryz.ntmps215
 go_wp2_with fail
 go_loopw [10,11] (fun i j wr => ∃ k:Nat,m≤k∧k≤b∧i=.int .i64 m∧j=.int .i64 k∧Hid (Below w.heap.size w wr)) (fun _ j _ => (intOf j).toNat)
 case atStart => exact⟨b,by omega,by omega,by first | rfl | go_num,rfl,Below.refl _ _⟩
 case round =>
  obtain⟨k,hak,hkb,rfl,rfl,HB⟩:=hrel
  clear e1
  by_cases hlt:m < k
  ·obtain⟨h,eh,hh1,hh2⟩ : ∃ h:Nat,((m:Int)+(k:Int)) / 2=(h:Int)∧m≤h∧h < k:=⟨(m+k) / 2,by omega,by omega,by omega⟩
   have g0:(0:Int)≤(h:Int):=by omega
   have g1:(h:Int) < (l.length:Int):=by omega
   have g2:(0:Int)≤(a:Int):=by omega
   have g3:(a:Int) < (l.length:Int):=by omega
   obtain⟨bk,off,e1,hc⟩:=HV.out.row HB.out h (by omega)
   subst e1
   obtain⟨b2,off2,e2,hp⟩:=HV.out.row HB.out a (by omega)
   injection e2 with e2
   injection e2 with e3 e4 _
   subst e3 e4
   obtain⟨⟨eo,ec,⟨i1,i2,i3,i4,i5⟩⟩,hx⟩ : ∃ r,l.getD h Ent.zero=r:=⟨_,rfl⟩
   obtain⟨⟨po,pc,⟨j1,j2,j3,j4,j5⟩⟩,hy⟩ : ∃ r,l.getD a Ent.zero=r:=⟨_,rfl⟩
   have hlt2:=rise_back HR.out (show a < h by omega) (by omega) hy hx
   rw [hx] at hc
   rw [hy] at hp
   have HC:=hD (rcompare_any eo ec po pc i1 i2 i3 i4 i5 j1 j2 j3 j4 j5)
   obtain⟨n,hn⟩ : ∃ n,entI ⟨eo,ec,⟨i1,i2,i3,i4,i5⟩⟩ ⟨po,pc,⟨j1,j2,j3,j4,j5⟩⟩=n:=⟨_,rfl⟩
   rw [hn] at HC hlt2
   obtain⟨q0,q1,q2,q3,q4,q5,q6⟩:=cells7_regrown hc
   obtain⟨p0,p1,p2,p3,p4,p5,p6⟩:=cells7_regrown hp
   try simp only at q0 q1 q2 q3 q4 q5 q6
   try simp only at p0 p1 p2 p3 p4 p5 p6
   clear hc hp hx hy hn
   go_wp2_with fail
   refine wp_region_quiet_below (by kernel_rfl) (by kernel_rfl) ?_
   repeat (go_big_quiet_step (with_reducible exact rgB HC.out _ _ _))
   refine wpQuiet_nil ?_
   intro w5 hw5
   have B5:=hD (below2S HB.out (regrown_belowP hw5))
   clear hw5 q0 q1 q2 q3 q4 q5 q6 p0 p1 p2 p3 p4 p5 p6
   go_wp2_with fail
   go_roundw
   case rel => exact⟨h,by omega,by omega,rfl,rfl,B5⟩
   case measure => simp [intOf]; omega
  ·obtain rfl:k=m:=by omega
   have e5:(k:Int) - 1=(a:Int):=by omega
   go_wp2_with fail
   refine wp_loop_rounds 1 ?_
   rw [rounds_succ]
   go_wp2_with fail
   refine bodyPost_ret (results_none rfl _ _ _) rfl ?_
   exact⟨rfl,HB.out⟩

theorem rsym_two {w:World} {v:Value} {l:List Ent} (hv:Ents w v l) (hr:Rise l) {a m b:Nat} (hab:a+1 < m) (hmb1:m < b) (hmb2:b≤m+1) (hb:b≤l.length) (hl:l.length≤4294967) :
  Calls Tryz.prog 215 #[v,.int .i64 a,.int .i64 m,.int .i64 b,.func (.func 125) #[] #[]] w fun e w' => e=.returned (.tuple #[])∧Below w.heap.size w w':=by
 have HV:=hD hv
 have HR:=hD hr
 obtain⟨ad,cap,rfl,hm⟩:=hv.open'
 clear hv hr
 have e1:((m:Int) - (a:Int) == 1)=false:=by rw [beq_eq_false_iff_ne]; omega
 have e2:((b:Int) - (m:Int))=1:=by omega
 go_enter Tryz.func215,Tryz.ntmps215
 go_wp2_with fail
 go_loopw [14,15] (fun i j wr => ∃ k:Nat,a≤k∧k≤m∧i=.int .i64 k∧j=.int .i64 m∧Hid (Below w.heap.size w wr)) (fun i _ _ => m - (intOf i).toNat)
 case atStart => exact⟨a,by omega,by omega,rfl,rfl,Below.refl _ _⟩
 case round =>
  obtain⟨k,hak,hkb,rfl,rfl,HB⟩:=hrel
  clear e1 e2
  by_cases hlt:k < m
  ·obtain⟨h,eh,hh1,hh2⟩ : ∃ h:Nat,((k:Int)+(m:Int)) / 2=(h:Int)∧k≤h∧h < m:=⟨(k+m) / 2,by omega,by omega,by omega⟩
   have g0:(0:Int)≤(h:Int):=by omega
   have g1:(h:Int) < (l.length:Int):=by omega
   have g2:(0:Int)≤(m:Int):=by omega
   have g3:(m:Int) < (l.length:Int):=by omega
   obtain⟨bk,off,e1,hc⟩:=HV.out.row HB.out m (by omega)
   subst e1
   obtain⟨b2,off2,e2,hp⟩:=HV.out.row HB.out h (by omega)
   injection e2 with e2
   injection e2 with e3 e4 _
   subst e3 e4
   obtain⟨⟨eo,ec,⟨i1,i2,i3,i4,i5⟩⟩,hx⟩ : ∃ r,l.getD m Ent.zero=r:=⟨_,rfl⟩
   obtain⟨⟨po,pc,⟨j1,j2,j3,j4,j5⟩⟩,hy⟩ : ∃ r,l.getD h Ent.zero=r:=⟨_,rfl⟩
   have hlt2:=rise_back HR.out (show h < m by omega) (by omega) hy hx
   rw [hx] at hc
   rw [hy] at hp
   have HC:=hD (rcompare_any eo ec po pc i1 i2 i3 i4 i5 j1 j2 j3 j4 j5)
   obtain⟨n,hn⟩ : ∃ n,entI ⟨eo,ec,⟨i1,i2,i3,i4,i5⟩⟩ ⟨po,pc,⟨j1,j2,j3,j4,j5⟩⟩=n:=⟨_,rfl⟩
   rw [hn] at HC hlt2
   obtain⟨q0,q1,q2,q3,q4,q5,q6⟩:=cells7_regrown hc
   obtain⟨p0,p1,p2,p3,p4,p5,p6⟩:=cells7_regrown hp
   try simp only at q0 q1 q2 q3 q4 q5 q6
   try simp only at p0 p1 p2 p3 p4 p5 p6
   clear hc hp hx hy hn
   go_wp2_with fail
   refine wp_region_quiet_below (by kernel_rfl) (by kernel_rfl) ?_
   repeat (go_big_quiet_step (with_reducible exact rgB HC.out _ _ _))
   refine wpQuiet_nil ?_
   intro w5 hw5
   have B5:=hD (below2S HB.out (regrown_belowP hw5))
   clear hw5 q0 q1 q2 q3 q4 q5 q6 p0 p1 p2 p3 p4 p5 p6
   go_wp2_with fail
   go_roundw
   case rel => exact⟨h+1,by omega,by omega,by go_num,rfl,B5⟩
   case measure => simp [intOf]; omega
  ·obtain rfl:k=m:=by omega
   go_wp2_with fail
   refine wp_loop_rounds 1 ?_
   rw [rounds_succ]
   go_wp2_with fail
   refine bodyPost_ret (results_none rfl _ _ _) rfl ?_
   exact⟨rfl,HB.out⟩

theorem rsym_hi {w:World} {v:Value} {l:List Ent} (hv:Ents w v l) (hr:Rise l) {a m b d:Nat} (ham:a+1 < m) (hmb:m+1 < b) (hd1:2 * d≤a+b) (hd2:a+b≤2 * d+1) (hdm:d < m) (hrec:∀ w,Ents w v l→Calls Tryz.prog 215 #[v,.int .i64 d,.int .i64 m,.int .i64 b,.func (.func 125) #[] #[]] w fun e w' => e=.returned (.tuple #[])∧Below w.heap.size w w') (hb:b≤l.length) (hl:l.length≤4294967) :
  Calls Tryz.prog 215 #[v,.int .i64 a,.int .i64 m,.int .i64 b,.func (.func 125) #[] #[]] w fun e w' => e=.returned (.tuple #[])∧Below w.heap.size w w':=by
 have HV:=hD hv
 have HR:=hD hr
 obtain⟨ad,cap,rfl,hm⟩:=hv.open'
 clear hv hr
 have HREC:=hD hrec
 clear hrec
 have e1:((m:Int) - (a:Int) == 1)=false:=by rw [beq_eq_false_iff_ne]; omega
 have e2:((b:Int) - (m:Int) == 1)=false:=by rw [beq_eq_false_iff_ne]; omega
 have ed:((a:Int)+(b:Int)) / 2=(d:Int):=by omega
 obtain⟨p,ep,hp1,hp2⟩ : ∃ p:Nat,(d:Int)+(m:Int) - 1=(p:Int)∧p+1≤d+m∧d+m≤p+1:=⟨d+m - 1,by omega,by omega,by omega⟩
 have t1:decide ((d:Int) < (m:Int))=true:=by rw [decide_eq_true_eq]; omega
 obtain⟨s,es,hs1,hs2⟩ : ∃ s:Nat,(d:Int)+(m:Int) - (b:Int)=(s:Int)∧s+b≤d+m∧d+m≤s+b:=⟨d+m - b,by omega,by omega,by omega⟩
 go_enter Tryz.func215,Tryz.ntmps215
 go_wp2_with fail
 go_loopw [20,21] (fun i j wr => ∃ k:Nat,s≤k∧k≤d∧i=.int .i64 k∧j=.int .i64 d∧Hid (Below w.heap.size w wr)) (fun i _ _ => d - (intOf i).toNat)
 case atStart => exact⟨s,by omega,by omega,rfl,rfl,Below.refl _ _⟩
 case round =>
  obtain⟨k,hak,hkb,rfl,rfl,HB⟩:=hrel
  by_cases hlt:k < d
  ·obtain⟨h,eh,hh1,hh2⟩ : ∃ h:Nat,((k:Int)+(d:Int)) / 2=(h:Int)∧k≤h∧h < d:=⟨(k+d) / 2,by omega,by omega,by omega⟩
   obtain⟨g,eg,hg1,hg2⟩ : ∃ g:Nat,(p:Int) - (h:Int)=(g:Int)∧h < g∧g < b:=⟨p - h,by omega,by omega,by omega⟩
   have g0:(0:Int)≤(h:Int):=by omega
   have g1:(h:Int) < (l.length:Int):=by omega
   have g2:(0:Int)≤(g:Int):=by omega
   have g3:(g:Int) < (l.length:Int):=by omega
   obtain⟨bk,off,e1,hc⟩:=HV.out.row HB.out g (by omega)
   subst e1
   obtain⟨b2,off2,e2,hp⟩:=HV.out.row HB.out h (by omega)
   injection e2 with e2
   injection e2 with e3 e4 _
   subst e3 e4
   obtain⟨⟨eo,ec,⟨i1,i2,i3,i4,i5⟩⟩,hx⟩ : ∃ r,l.getD g Ent.zero=r:=⟨_,rfl⟩
   obtain⟨⟨po,pc,⟨j1,j2,j3,j4,j5⟩⟩,hy⟩ : ∃ r,l.getD h Ent.zero=r:=⟨_,rfl⟩
   have hlt2:=rise_back HR.out (show h < g by omega) (by omega) hy hx
   rw [hx] at hc
   rw [hy] at hp
   have HC:=hD (rcompare_any eo ec po pc i1 i2 i3 i4 i5 j1 j2 j3 j4 j5)
   obtain⟨n,hn⟩ : ∃ n,entI ⟨eo,ec,⟨i1,i2,i3,i4,i5⟩⟩ ⟨po,pc,⟨j1,j2,j3,j4,j5⟩⟩=n:=⟨_,rfl⟩
   rw [hn] at HC hlt2
   obtain⟨q0,q1,q2,q3,q4,q5,q6⟩:=cells7_regrown hc
   obtain⟨p0,p1,p2,p3,p4,p5,p6⟩:=cells7_regrown hp
   try simp only at q0 q1 q2 q3 q4 q5 q6
   try simp only at p0 p1 p2 p3 p4 p5 p6
   clear hc hp hx hy hn
   go_wp2_with fail
   refine wp_region_quiet_below (by kernel_rfl) (by kernel_rfl) ?_
   repeat (go_big_quiet_step (with_reducible exact rgB HC.out _ _ _))
   refine wpQuiet_nil ?_
   intro w5 hw5
   have B5:=hD (below2S HB.out (regrown_belowP hw5))
   clear hw5 q0 q1 q2 q3 q4 q5 q6 p0 p1 p2 p3 p4 p5 p6
   go_wp2_with fail
   go_roundw
   case rel => exact⟨h+1,by omega,by omega,by go_num,rfl,B5⟩
   case measure => simp [intOf]; omega
  ·obtain rfl:k=d:=by omega
   have ee:(k:Int)+(m:Int) - (k:Int)=(m:Int):=by omega
   have t2:decide ((a:Int) < (k:Int))=true:=by rw [decide_eq_true_eq]; omega
   have t3:decide ((m:Int) < (b:Int))=true:=by rw [decide_eq_true_eq]; omega
   have W5:=hD (HV.out.later HB.out)
   go_wp2_with fail
   refine (HREC.out _ W5.out).mono ?_
   rintro e w6 ⟨rfl,b6⟩
   have B6:=hD (below2S HB.out b6)
   clear b6
   go_wp2_with fail
   go_end0
   exact⟨rfl,B6.out⟩

theorem rsym_lo {w:World} {v:Value} {l:List Ent} (hv:Ents w v l) (hr:Rise l) {a m b d:Nat} (ham:a+1 < m) (hmb:m+1 < b) (hd1:2 * d≤a+b) (hd2:a+b≤2 * d+1) (hdm:m≤d) (hrec:m < d→∀ w,Ents w v l→Calls Tryz.prog 215 #[v,.int .i64 a,.int .i64 m,.int .i64 d,.func (.func 125) #[] #[]] w fun e w' => e=.returned (.tuple #[])∧Below w.heap.size w w') (hb:b≤l.length) (hl:l.length≤4294967) :
  Calls Tryz.prog 215 #[v,.int .i64 a,.int .i64 m,.int .i64 b,.func (.func 125) #[] #[]] w fun e w' => e=.returned (.tuple #[])∧Below w.heap.size w w':=by
 have HV:=hD hv
 have HR:=hD hr
 obtain⟨ad,cap,rfl,hm⟩:=hv.open'
 clear hv hr
 have HREC:=hD hrec
 clear hrec
 have e1:((m:Int) - (a:Int) == 1)=false:=by rw [beq_eq_false_iff_ne]; omega
 have e2:((b:Int) - (m:Int) == 1)=false:=by rw [beq_eq_false_iff_ne]; omega
 have ed:((a:Int)+(b:Int)) / 2=(d:Int):=by omega
 obtain⟨p,ep,hp1,hp2⟩ : ∃ p:Nat,(d:Int)+(m:Int) - 1=(p:Int)∧p+1≤d+m∧d+m≤p+1:=⟨d+m - 1,by omega,by omega,by omega⟩
 have t1:((d:Int) < (m:Int))=False:=by rw [eq_iff_iff,iff_false]; omega
 go_enter Tryz.func215,Tryz.ntmps215
 go_wp2_with fail
 go_loopw [20,21] (fun i j wr => ∃ k:Nat,a≤k∧k≤m∧i=.int .i64 k∧j=.int .i64 m∧Hid (Below w.heap.size w wr)) (fun i _ _ => m - (intOf i).toNat)
 case atStart => exact⟨a,by omega,by omega,rfl,rfl,Below.refl _ _⟩
 case round =>
  obtain⟨k,hak,hkb,rfl,rfl,HB⟩:=hrel
  by_cases hlt:k < m
  ·obtain⟨h,eh,hh1,hh2⟩ : ∃ h:Nat,((k:Int)+(m:Int)) / 2=(h:Int)∧k≤h∧h < m:=⟨(k+m) / 2,by omega,by omega,by omega⟩
   obtain⟨g,eg,hg1,hg2⟩ : ∃ g:Nat,(p:Int) - (h:Int)=(g:Int)∧h < g∧g < b:=⟨p - h,by omega,by omega,by omega⟩
   have g0:(0:Int)≤(h:Int):=by omega
   have g1:(h:Int) < (l.length:Int):=by omega
   have g2:(0:Int)≤(g:Int):=by omega
   have g3:(g:Int) < (l.length:Int):=by omega
   obtain⟨bk,off,e1,hc⟩:=HV.out.row HB.out g (by omega)
   subst e1
   obtain⟨b2,off2,e2,hp⟩:=HV.out.row HB.out h (by omega)
   injection e2 with e2
   injection e2 with e3 e4 _
   subst e3 e4
   obtain⟨⟨eo,ec,⟨i1,i2,i3,i4,i5⟩⟩,hx⟩ : ∃ r,l.getD g Ent.zero=r:=⟨_,rfl⟩
   obtain⟨⟨po,pc,⟨j1,j2,j3,j4,j5⟩⟩,hy⟩ : ∃ r,l.getD h Ent.zero=r:=⟨_,rfl⟩
   have hlt2:=rise_back HR.out (show h < g by omega) (by omega) hy hx
   rw [hx] at hc
   rw [hy] at hp
   have HC:=hD (rcompare_any eo ec po pc i1 i2 i3 i4 i5 j1 j2 j3 j4 j5)
   obtain⟨n,hn⟩ : ∃ n,entI ⟨eo,ec,⟨i1,i2,i3,i4,i5⟩⟩ ⟨po,pc,⟨j1,j2,j3,j4,j5⟩⟩=n:=⟨_,rfl⟩
   rw [hn] at HC hlt2
   obtain⟨q0,q1,q2,q3,q4,q5,q6⟩:=cells7_regrown hc
   obtain⟨p0,p1,p2,p3,p4,p5,p6⟩:=cells7_regrown hp
   try simp only at q0 q1 q2 q3 q4 q5 q6
   try simp only at p0 p1 p2 p3 p4 p5 p6
   clear hc hp hx hy hn
   go_wp2_with fail
   refine wp_region_quiet_below (by kernel_rfl) (by kernel_rfl) ?_
   repeat (go_big_quiet_step (with_reducible exact rgB HC.out _ _ _))
   refine wpQuiet_nil ?_
   intro w5 hw5
   have B5:=hD (below2S HB.out (regrown_belowP hw5))
   clear hw5 q0 q1 q2 q3 q4 q5 q6 p0 p1 p2 p3 p4 p5 p6
   go_wp2_with fail
   go_roundw
   case rel => exact⟨h+1,by omega,by omega,by go_num,rfl,B5⟩
   case measure => simp [intOf]; omega
  ·obtain rfl:k=m:=by omega
   have ee:(d:Int)+(k:Int) - (k:Int)=(d:Int):=by omega
   have t2:decide ((a:Int) < (k:Int))=true:=by rw [decide_eq_true_eq]; omega
   have W5:=hD (HV.out.later HB.out)
   by_cases hmd:k < d
   ·have t3:decide ((k:Int) < (d:Int))=true:=by rw [decide_eq_true_eq]; omega
    have HR2:=hD (HREC.out hmd)
    go_wp2_with fail
    refine (HR2.out _ W5.out).mono ?_
    rintro e w6 ⟨rfl,b6⟩
    have B6:=hD (below2S HB.out b6)
    clear b6
    go_wp2_with fail
    go_end0
    exact⟨rfl,B6.out⟩
   ·have t3:decide ((k:Int) < (d:Int))=false:=by rw [decide_eq_false_iff_not]; omega
    go_wp2_with fail
    go_end0
    exact⟨rfl,HB.out⟩

theorem rsym_any {v:Value} {l:List Ent} (hr:Rise l) (hl:l.length≤4294967):∀ (n:Nat) {a m b:Nat},b - a≤n→a < m→m < b→b≤l.length→∀ w,Ents w v l →
  Calls Tryz.prog 215 #[v,.int .i64 a,.int .i64 m,.int .i64 b,.func (.func 125) #[] #[]] w fun e w' => e=.returned (.tuple #[])∧Below w.heap.size w w'
 | 0,a,m,b,h,h1,h2,_,_,_ => by omega
 | n+1,a,m,b,h,h1,h2,hb,w,hv => by
  by_cases c1:m≤a+1
  ·exact rsym_one hv hr h1 c1 h2 hb hl
  ·by_cases c2:b≤m+1
   ·exact rsym_two hv hr (by omega) h2 c2 hb hl
   ·by_cases c3:(a+b) / 2 < m
    ·exact rsym_hi (d:=(a+b) / 2) hv hr (by omega) (by omega) (by omega) (by omega) c3 (fun w hv => rsym_any hr hl n (by omega) c3 h2 hb w hv) hb hl
    ·exact rsym_lo (d:=(a+b) / 2) hv hr (by omega) (by omega) (by omega) (by omega) (by omega) (fun hmd w hv => rsym_any hr hl n (by omega) h1 hmd (by omega) w hv) hb hl

end Go.Proofs.YtphfinlfabklmaaGreat

end

section

namespace Go.Proofs.YtphfinlfabklmaaGreat
open Go.RowKit

theorem rstable_rise {w:World} {v:Value} {l:List Ent} (hv:Ents w v l) (hr:Rise l) (hl:l.length≤4294967) :
  Calls Tryz.prog 188 #[v,.int .i64 l.length,.func (.func 125) #[] #[]] w fun e w' => e=.returned (.tuple #[])∧Below w.heap.size w w':=by
 have HV:=hD hv
 have HI:Hid (∀ (a b:Nat),a≤b→b≤l.length→∀ w,Ents w v l→_):=hD (fun a b hab hb w hv => rinsert_any (w:=w) hv hr hab hb hl)
 have HS:Hid (∀ (a m b:Nat),a < m→m < b→b≤l.length→∀ w,Ents w v l→_):=hD (fun a m b h1 h2 hb w hv => rsym_any hr hl _ (Nat.le_refl (b - a)) h1 h2 hb w hv)
 obtain⟨ad,cap,rfl,hm⟩:=hv.open'
 clear hv hr
 go_enter Tryz.func188,Tryz.ntmps188
 go_wp2_with fail
 go_loopw [7,8] (fun i j wr => ∃ k k2:Nat,k≤l.length∧k+20≤k2∧k2≤k+20∧i=.int .i64 k∧j=.int .i64 k2∧Hid (Below w.heap.size w wr)) (fun i _ _ => l.length+1 - (intOf i).toNat)
 case atStart => exact⟨0,20,by omega,by omega,by omega,rfl,rfl,Below.refl _ _⟩
 case round =>
  obtain⟨k,k2',hk,hk1,hk2,rfl,rfl,HB⟩:=hrel
  have W1:=hD (HV.out.later HB.out)
  by_cases hlt:k2'≤l.length
  ·have t1:decide ((k2':Int)≤(l.length:Int))=true:=by rw [decide_eq_true_eq]; omega
   have H1:=hD (HI.out k k2' (by omega) (by omega) _ W1.out)
   obtain⟨k3,ek3,hk3,hk4⟩ : ∃ k3:Nat,(k2':Int)+20=(k3:Int)∧k2'+20≤k3∧k3≤k2'+20:=⟨k2'+20,by omega,by omega,by omega⟩
   go_wp2_with fail
   refine H1.out.mono ?_
   rintro e w1 ⟨rfl,b1⟩
   have B1:=hD (below2S HB.out b1)
   clear b1
   go_wp2_with fail
   go_roundw
   case rel => exact⟨k2',k3,by omega,by omega,by omega,rfl,rfl,B1⟩
   case measure => simp [intOf]; omega
  ·have t1:decide ((k2':Int)≤(l.length:Int))=false:=by rw [decide_eq_false_iff_not]; omega
   have H1:=hD (HI.out k l.length hk (Nat.le_refl _) _ W1.out)
   go_wp2_with fail
   refine H1.out.mono ?_
   rintro e w1 ⟨rfl,b1⟩
   have B1:=hD (below2S HB.out b1)
   clear b1 HB W1 H1 t1 hk hk1 hk2 hlt
   go_wp2_with fail
   go_loopw [6] (fun i wr => ∃ s:Nat,20≤s∧s≤2 * l.length+20∧i=.int .i64 s∧Hid (Below w.heap.size w wr)) (fun i _ => l.length - (intOf i).toNat)
   case atStart => exact⟨20,by omega,by omega,rfl,B1⟩
   case round =>
    obtain⟨s,hs,hs2,rfl,HB2⟩:=hrel
    by_cases hlt2:s < l.length
    ·have t2:decide ((s:Int) < (l.length:Int))=true:=by rw [decide_eq_true_eq]; omega
     obtain⟨s2,es2,hs3,hs4⟩ : ∃ s2:Nat,2 * (s:Int)=(s2:Int)∧s2≤2 * s∧2 * s≤s2:=⟨2 * s,by omega,by omega,by omega⟩
     have es3:(s:Int) * 2=(s2:Int):=by omega
     go_wp2_with fail
     go_loopw [7,8] (fun i j wr => ∃ c c2:Nat,c≤l.length∧c+s2≤c2∧c2≤c+s2∧i=.int .i64 c∧j=.int .i64 c2∧Hid (Below w.heap.size w wr)) (fun i _ _ => l.length+1 - (intOf i).toNat)
     case atStart => exact⟨0,s2,by omega,by omega,by omega,rfl,rfl,HB2⟩
     case round =>
      obtain⟨c,c2,hc,hc1,hc2,rfl,rfl,HB3⟩:=hrel
      have W3:=hD (HV.out.later HB3.out)
      obtain⟨cm,ecm,hm1,hm2⟩ : ∃ cm:Nat,(c:Int)+(s:Int)=(cm:Int)∧cm≤c+s∧c+s≤cm:=⟨c+s,by omega,by omega,by omega⟩
      by_cases hlt3:c2≤l.length
      ·have t3:decide ((c2:Int)≤(l.length:Int))=true:=by rw [decide_eq_true_eq]; omega
       have H3:=hD (HS.out c cm c2 (by omega) (by omega) hlt3 _ W3.out)
       obtain⟨c3,ec3,hc3,hc4⟩ : ∃ c3:Nat,(c2:Int)+(s2:Int)=(c3:Int)∧c3≤c2+s2∧c2+s2≤c3:=⟨c2+s2,by omega,by omega,by omega⟩
       go_wp2_with fail
       refine H3.out.mono ?_
       rintro e w3 ⟨rfl,b3⟩
       have B3:=hD (below2S HB3.out b3)
       clear b3
       go_wp2_with fail
       go_roundw
       case rel => exact⟨c2,c3,by omega,by omega,by omega,rfl,by first | rfl | go_num,B3⟩
       case measure => simp [intOf]; omega
      ·have t3:decide ((c2:Int)≤(l.length:Int))=false:=by rw [decide_eq_false_iff_not]; omega
       by_cases hlt4:cm < l.length
       ·have t4:decide ((cm:Int) < (l.length:Int))=true:=by rw [decide_eq_true_eq]; omega
        have H4:=hD (HS.out c cm l.length (by omega) hlt4 (Nat.le_refl _) _ W3.out)
        go_wp2_with fail
        refine H4.out.mono ?_
        rintro e w4 ⟨rfl,b4⟩
        have B4:=hD (below2S HB3.out b4)
        clear b4
        go_wp2_with fail
        go_roundw
        case rel => exact⟨s2,by omega,by omega,by first | rfl | go_num,B4⟩
        case measure => simp [intOf]; omega
       ·have t4:decide ((cm:Int) < (l.length:Int))=false:=by rw [decide_eq_false_iff_not]; omega
        go_wp2_with fail
        go_roundw
        case rel => exact⟨s2,by omega,by omega,by first | rfl | go_num,HB3⟩
        case measure => simp [intOf]; omega
    ·have t2:decide ((s:Int) < (l.length:Int))=false:=by rw [decide_eq_false_iff_not]; omega
     go_wp2_with fail
     go_end0
     exact⟨rfl,HB2.out⟩

theorem rsort_rise {w:World} {v:Value} {l:List Ent} (hv:Ents w v l) (hr:Rise l) (hl:l.length≤4294967) :
  Calls Tryz.prog 124 #[v,.func (.func 125) #[] #[]] w fun e w' => e=.returned (.tuple #[])∧Below w.heap.size w w':=by
 have HI:=hD (rstable_rise hv hr hl)
 obtain⟨ad,cap,rfl,hm⟩:=hv.open'
 clear hv hr
 go_enter Tryz.func124,Tryz.ntmps124
 go_wp2_with fail
 refine HI.out.mono ?_
 rintro e w1 ⟨rfl,b1⟩
 have B1:=hD b1
 clear b1
 go_wp2_with fail
 go_end0
 exact⟨rfl,B1.out⟩

theorem rwatchers_rise {w:World} {v:Value} {l:List Ent} (hv:Ents w v l) (hr:Rise l) (hl:l.length≤4294967) (n:List UInt8) :
  Calls Tryz.prog 70 #[v,.string ⟨n.toArray⟩] w fun e w' => ∃ u,e=.returned u∧Texts w' u (roWat l n)∧Below w.heap.size w w' :=
 rwatchers_any hv hr hl n (fun hv hr ht => rsort_rise hv hr (Nat.le_trans ht hl))

end Go.Proofs.YtphfinlfabklmaaGreat

end

section

namespace Go.Proofs.YtphfinlfabklmaaGreat
open Go.RowKit

theorem vwwat_may {w:World} {x y:Value} {t:Sta} (h:StAt w x y t) (hok:ShortE t.e∧ShortS t.s) (hl:t.e.length≤4294967) (c:List UInt8) (hm:stMay t=true) {st:List UInt8} {xa xb xc:Int} {k:Bool} (hv:valB (seOf t.s c)=⟨xa,xb,xc,st⟩) (hk:someB (seOf t.s c)=k) :
  Calls Tryz.prog 21 #[.agg #[x,y],.string ⟨c.toArray⟩] w fun e w' => ∃ u,e=.returned u∧Texts w' u (if k=true then roWat t.e c else [])∧Below w.heap.size w w':=by
 have b0:=bl_newZ w (.cells #[x,y] 25)
 have HB:=hD b0
 have H:=hD (h.later b0)
 have F:=hD (heap_newT w (.cells #[x,y] 25))
 have HOK:=hD hok
 have HM:=hD hm
 have HV:=hD hv
 have HK:=hD hk
 have HRI:=hD (stMay_parts hm).1.1
 clear b0 h hok hm hv hk
 obtain⟨c0,c1,-,-⟩:=two_T F.out
 go_enter Tryz.func21,Tryz.ntmps21
 go_wp2_with fail
 refine (stmay_any H.out HOK.out.1 HOK.out.2 HM).mono ?_
 rintro e w1 ⟨rfl,b1⟩
 replace HB:=hD (below2Z HB.out b1)
 replace H:=hD (H.out.later b1)
 replace F:=hD (upT F.out b1)
 clear b1 c0 c1
 obtain⟨c0,c1,-,-⟩:=two_T F.out
 go_wp2_with fail
 refine (shown_any H.out (len_of_may HM.out) (fit_of_may HM.out) c HV.out HK.out).mono ?_
 rintro e w2 ⟨rfl,b2⟩
 have b3:=below2Z b2 (bl_newZ w2 (.cells #[.int .i64 xa,.int .i64 xb,.int .i64 xc,.string ⟨st.toArray⟩] 30))
 replace HB:=hD (below2Z HB.out b3)
 replace H:=hD (H.out.later b3)
 replace F:=hD (upT F.out b3)
 clear b2 b3 c0 c1
 obtain⟨c0,c1,-,-⟩:=two_T F.out
 cases k with
 | false =>
  go_wp2_with fail
  go_ret
  exact⟨_,rfl,texts_nil _,HB.out⟩
 | true =>
  go_wp2_with fail
  refine (rwatchers_rise H.out.1 HRI.out hl c).mono ?_
  rintro e w3 ⟨v3,rfl,o3,b3⟩
  have HO:=hD o3
  replace HB:=hD (below2Z HB.out b3)
  clear b3 c0 c1 o3
  go_wp2_with fail
  go_ret
  exact⟨_,rfl,HO.out,HB.out⟩

theorem vwwat_no {w:World} {x y:Value} {t:Sta} (h:StAt w x y t) (hok:ShortE t.e∧ShortS t.s) (c:List UInt8) (hm:stMay t=false) :
  Calls Tryz.prog 21 #[.agg #[x,y],.string ⟨c.toArray⟩] w fun e w' => ∃ u,e=.returned u∧Texts w' u []∧Below w.heap.size w w':=by
 have b0:=bl_newZ w (.cells #[x,y] 25)
 have HB:=hD b0
 have H:=hD (h.later b0)
 have F:=hD (heap_newT w (.cells #[x,y] 25))
 have HOK:=hD hok
 have HM:=hD hm
 clear b0 h hok hm
 obtain⟨c0,c1,-,-⟩:=two_T F.out
 go_enter Tryz.func21,Tryz.ntmps21
 go_wp2_with fail
 refine (stmay_any H.out HOK.out.1 HOK.out.2 HM).mono ?_
 rintro e w1 ⟨rfl,b1⟩
 replace HB:=hD (below2Z HB.out b1)
 clear b1 c0 c1
 go_wp2_with fail
 go_ret
 exact⟨_,rfl,texts_nil _,HB.out⟩

theorem vwwat_any {w:World} {x y:Value} {t:Sta} (h:StAt w x y t) (hok:ShortE t.e∧ShortS t.s) (hl:t.e.length≤4294967) (c:List UInt8) :
  Calls Tryz.prog 21 #[.agg #[x,y],.string ⟨c.toArray⟩] w fun e w' => ∃ u,e=.returned u∧Texts w' u (vwWat t c)∧Below w.heap.size w w':=by
 cases hm:stMay t with
 | false =>
  have e:vwWat t c=[]:=by unfold vwWat; rw [if_neg (by rw [hm]; simp)]
  rw [e]
  exact vwwat_no h hok c hm
 | true =>
  obtain⟨⟨xa,xb,xc,st⟩,hv⟩ : ∃ v,valB (seOf t.s c)=v:=⟨_,rfl⟩
  have k:=vwwat_may h hok hl c hm hv rfl
  by_cases hs:seOf t.s c=[]
  ·have e:vwWat t c=[]:=by unfold vwWat; rw [if_neg (fun h => h.2 hs)]
   rw [e]
   rw [if_neg (by unfold someB; simpa using hs)] at k
   exact k
  ·have e:vwWat t c=roWat t.e c:=by unfold vwWat; rw [if_pos ⟨hm,hs⟩]
   rw [e]
   rw [if_pos (by unfold someB; simpa using hs)] at k
   exact k

end Go.Proofs.YtphfinlfabklmaaGreat

end

section

namespace Go.Proofs.YtphfinlfabklmaaGreat
open Go.RowKit

def heldB (X:World) (bs:List (Nat × List Value)):Prop:=∀ p ∈ bs,CellsAt X p.1 0 p.2

theorem heldB_nil (X:World):heldB X []:=fun p h => by cases h
theorem heldB_cons {X:World} {b:Nat} {vs:List Value} {bs:List (Nat × List Value)} (h:CellsAt X b 0 vs) (ht:heldB X bs):heldB X ((b,vs) :: bs):=fun p hp => by
 rcases List.mem_cons.1 hp with rfl | hp
 ·exact h
 ·exact ht p hp
theorem heldB_up {W X:World} {bs:List (Nat × List Value)} (hb:Below W.heap.size W X) (h:heldB W bs):heldB X bs:=fun p hp => (h p hp).later hb
theorem heldB_get {X:World} {bs:List (Nat × List Value)} (h:heldB X bs) {b:Nat} {vs:List Value} {i:Nat} {v:Value} (hm:(b,vs) ∈ bs) (hi:vs[i]?=some v):X.cell? ⟨b,i,none⟩=some v:=by
 have:=h _ hm i v hi
 rwa [Nat.zero_add] at this

theorem cellsAt_block {X:World} {b:Nat} {cs:Array Value} {T:TypeId} (h:X.heap[b]?=some (.cells cs T (0,0))):CellsAt X b 0 cs.toList:=by
 intro j u hu
 have hj:cs[j]?=some u:=by rw [← hu]; simp
 rw [Nat.zero_add]
 unfold World.cell?
 rw [h]
 simpa using hj

end Go.Proofs.YtphfinlfabklmaaGreat

end
