/-
 TEXTS OF THE PROOF, one behind the other: StaEvs.
-/
import Derived.Test.YtphfinlfabklmaaGreatB32
import Derived.Test.YtphfinlfabklmaaGreatB23

set_option maxHeartbeats 12800000
set_option maxRecDepth 100000

namespace Go.Proofs.YtphfinlfabklmaaGreat
open Go.RowKit

def evsShort (n:Nat) (l:List Ev):Bool:=decide (l.length≤n) && l.all shortEv

theorem evsShort_get {n:Nat} {l:List Ev} (h:evsShort n l=true):l.length≤n∧∀ e ∈ l,shortEv e=true:=by
 unfold evsShort at h
 simpa only [Bool.and_eq_true,decide_eq_true_eq,List.all_eq_true] using h

theorem evsShort_ev {n:Nat} {l:List Ev} (h:evsShort n l=true):∀ e ∈ l,evShort e:=fun e he => by
 obtain⟨h1,h2,h3⟩:=shortEv_get ((evsShort_get h).2 e he)
 exact⟨Nat.le_trans h1 (by decide),Nat.le_trans h2 (by decide),Nat.le_trans h3 (by decide)⟩

theorem events_any {w:World} {v:Value} {l:List Ev} (hv:Evs w v l) (n:Nat) (hn9:n≤1000) {r:Bool} (hr:Hid (evsShort n l=r)) :
  Calls Tryz.prog 33 #[v,.int .i64 n] w fun e w' => e=.returned (.bool r)∧Below w.heap.size w w':=by
 have HV:=hD hv
 obtain⟨av,cv,rfl,-⟩:=RdS.open' hv
 clear hv
 by_cases hn:l.length≤n
 ·have t1:decide ((n:Int) < (l.length:Int))=false:=by rw [decide_eq_false_iff_not]; omega
  have t1':decide (n < l.length)=false:=by rw [decide_eq_false_iff_not]; omega
  have hr2:l.all shortEv=r:=by have:=hr.out; unfold evsShort at this; rw [decide_eq_true hn,Bool.true_and] at this; exact this
  have HR:=hD hr2
  clear hr hr2
  go_enter Tryz.func33,Tryz.ntmps33
  go_wp2_with fail
  go_loopw [5] (fun i wr => ∃ k:Nat,k≤l.length∧i=.int .i64 k∧Hid (∀ n,n < k→shortEv (l.getD n Ev.zero)=true)∧Hid (Below w.heap.size w wr)) (fun i _ => l.length - (intOf i).toNat)
  case atStart => exact⟨0,by omega,rfl,hD (fun i h => absurd h (by omega)),Below.refl _ _⟩
  case round =>
   obtain⟨k,hk,rfl,HA,HB⟩:=hrel
   by_cases hlt:k < l.length
   ·obtain⟨vb,vo,rfl,hc⟩:=RdS.row HV.out HB.out k hlt
    obtain⟨⟨kk,u,o,id,⟨a,b,c,st⟩⟩,he⟩ : ∃ r,l.getD k Ev.zero=r:=⟨_,rfl⟩
    rw [he] at hc
    obtain⟨m0,m1,m2,m3,m4,m5,m6,m7⟩:=eightAt hc
    obtain⟨q,hq⟩ : ∃ q,shortEv ⟨kk,u,o,id,⟨a,b,c,st⟩⟩=q:=⟨_,rfl⟩
    have HQ:=hD hq
    have HE:=hD he
    have hnn:(0:Int)≤(k:Int):=by omega
    have hli:(k:Int) < (l.length:Int):=by omega
    clear hc he hq
    go_wp2_with fail
    refine (short14_any kk u o st id a b c HQ _).mono ?_
    rintro e w1 ⟨rfl,b1⟩
    have HB1:=hD (below2Z HB.out b1)
    clear b1 m0 m1 m2 m3 m4 m5 m6 m7
    cases q with
    | false =>
     have hf:l.all shortEv=false:=by
      rw [Bool.eq_false_iff]
      intro h
      have:=List.all_eq_true.1 h _ (show l.getD k Ev.zero ∈ l by rw [evgetD hlt]; exact List.getElem_mem hlt)
      rw [HE.out,HQ.out] at this
      cases this
     rw [HR.out] at hf
     subst hf
     go_wp2_with fail
     go_ret
     exact⟨rfl,HB1.out⟩
    | true =>
     have HA2:Hid (∀ i,i < k+1→shortEv (l.getD i Ev.zero)=true):=hD (fun i hi => by
      by_cases h:i < k
      ·exact HA.out i h
      ·obtain rfl:i=k:=by omega
       rw [HE.out]; exact HQ.out)
     go_wp2_with fail
     go_roundw
     case rel => exact⟨k+1,by omega,by go_num,HA2,HB1⟩
     case measure => simp [intOf]; omega
   ·obtain rfl:k=l.length:=by omega
    have hf:l.all shortEv=true:=by
     rw [List.all_eq_true]
     intro e he
     obtain⟨i,hi,e1⟩:=List.getElem_of_mem he
     have:=HA.out i hi
     rw [evgetD hi,e1] at this
     exact this
    rw [HR.out] at hf
    subst hf
    go_wp2_with fail
    go_ret
    exact⟨rfl,HB.out⟩
 ·have t1:decide ((n:Int) < (l.length:Int))=true:=by rw [decide_eq_true_eq]; omega
  have hr2:=hr.out
  unfold evsShort at hr2
  rw [decide_eq_false hn,Bool.false_and] at hr2
  subst hr2
  clear hr
  go_enter Tryz.func33,Tryz.ntmps33
  go_wp2_with fail
  go_ret
  exact⟨rfl,Below.refl _ _⟩

end Go.Proofs.YtphfinlfabklmaaGreat
