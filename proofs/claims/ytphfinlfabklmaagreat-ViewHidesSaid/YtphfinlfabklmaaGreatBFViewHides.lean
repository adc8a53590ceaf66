/-
 THE PROOF OF ViewHides: for every input the law returns true, and each argument reads behind the call as it read before. No condition.
-/
import Derived.Test.YtphfinlfabklmaaGreatB40
import Derived.Test.YtphfinlfabklmaaGreatB41
import Derived.Test.YtphfinlfabklmaaGreatB42
import Derived.Test.YtphfinlfabklmaaGreatB23
import Derived.Test.YtphfinlfabklmaaGreatB37
import Derived.Deep.DeepCutAuto
import Derived.Deep.CutBlock
import Derived.Test.YtphfinlfabklmaaGreatB13
import Derived.Test.YtphfinlfabklmaaGreatRows
import Derived.ProofKit
import Derived.OpenShut
import Derived.ShutString
import Derived.ChangeOld
import Derived.SliceStrings
import Derived.Lib.SmallJoins

set_option maxHeartbeats 12800000
set_option maxRecDepth 100000

section

namespace Go.Proofs.YtphfinlfabklmaaGreat
open Go.RowKit

def heldE (X:World) (bs:List (Nat × List Value)) (b off:Nat) (e:Ev):Prop:=heldB X bs∧CellsAt X b off (evVals e)

theorem heldE_up {W X:World} {bs:List (Nat × List Value)} {b off:Nat} {e:Ev} (hb:Below W.heap.size W X) (h:heldE W bs b off e):heldE X bs b off e:=⟨heldB_up hb h.1,h.2.later hb⟩

def hidOne (a b:List Ent) (m p:List UInt8):Bool:=!(p == m) && (!roSees a m p && !roSees b m p)
def hidTo (a b:List Ent) (m:List UInt8) (l:List (List UInt8)):Bool:=l.all (hidOne a b m)

theorem hid_next {a b:List Ent} {m:List UInt8} {l:List (List UInt8)} {k:Nat} (hk:k < l.length):hidTo a b m (l.take (k+1))=(hidTo a b m (l.take k) && hidOne a b m (l.getD k [])):=by
 unfold hidTo
 rw [List.take_succ_eq_append_getElem hk,List.all_append,List.getD_eq_getElem?_getD,List.getElem?_eq_getElem hk,Option.getD_some,List.all_cons,List.all_nil,Bool.and_true]

theorem tab_keep {w:World} {v:Value} {l:List Row} (h:Tab w v l) {B:Nat} {cs:Array Value} {T:TypeId} (hb:w.heap[B]?=some (.cells cs T (0,0))) (hs:∀ (j:Nat) (s:ByteArray),cs[j]? ≠ some (.string s)) {W:World} (hfar:∀ k,¬ k=B→W.heap[k]?=w.heap[k]?) (hsz:w.heap.size≤W.heap.size):Tab W v l:=by
 obtain⟨a,cap,h1,h2,h3,h4,h5⟩:=h
 refine ⟨a,cap,h1,h2,h3,h4,?_⟩
 rcases h5 with h5 | ⟨b,off,e,hlt,hc⟩
 ·exact .inl h5
 ·by_cases ht:l=[]
  ·exact .inl ht
  ·have hpos:0 < l.length:=List.length_pos_iff.2 ht
   have hne:¬ b=B:=by
    rintro rfl
    have h5:=(hc 0 hpos).1
    rw [Nat.zero_mul,Nat.add_zero] at h5
    simp only [World.cell?,hb] at h5
    exact hs _ _ (by simpa using h5)
   refine .inr ⟨b,off,e,Nat.lt_of_lt_of_le hlt hsz,fun i hi => ?_⟩
   have k:∀ o,W.cell? ⟨b,o,none⟩=w.cell? ⟨b,o,none⟩:=fun o => World.cell?_of_block (hfar b hne)
   obtain⟨c0,c1,c2,c3,c4⟩:=hc i hi
   exact⟨(k _).trans c0,(k _).trans c1,(k _).trans c2,(k _).trans c3,(k _).trans c4⟩

theorem sees8_far {w:World} {v:Value} {l:List Ent} (hv:Ents w v l) (o c:List UInt8) {r:Bool} (h:roSees l o c=r):∀ w',Below w.heap.size w w' →
  Calls Tryz.prog 29 #[v,.string ⟨o.toArray⟩,.string ⟨c.toArray⟩] w' fun e w'' => e=.returned (.bool r)∧Below w'.heap.size w' w'':=fun w' hb => by
 have k:=sees8_any (hv.later hb) o c
 rw [h] at k
 exact k

theorem hid_leaves {t u:Sta} {e:Ev} {n:Nat} (h:stApply t e=(u,n)) {m:List UInt8} (hh:hidTo t.e u.e m (stTouch e)=true) (c:List UInt8):vwVal u m c=vwVal t m c:=by
 by_cases hn:n=0
 ·subst hn
  refine vwVal_hides h (fun p hp => ?_) c
  have:=List.all_eq_true.1 hh p hp
  unfold hidOne at this
  simp only [Bool.and_eq_true,Bool.not_eq_true',beq_eq_false_iff_ne] at this
  exact this
 ·rw [stApply_err h hn]

theorem touch_len (e:Ev):(stTouch e).length≤2:=by
 unfold stTouch
 split
 ·exact mrg_len _
 ·split <;> simp

theorem vhi_1 {w:World} {x y v:Value} {s:Sta} {l:List Ev} (h:StAt w x y s) (hv:Evs w v l) (m:List UInt8) (f1:fewSta s=false) :
  Calls Tryz.prog 6 #[.agg #[x,y],v,.string ⟨m.toArray⟩] w fun e w' => e=.returned (.bool true)∧Below w.heap.size w w':=by
 obtain⟨xa,xc,rfl⟩:=ents_shape h.1 rfl
 obtain⟨ya,yc,rfl⟩:=rdS_shape h.2 rfl
 obtain⟨ln,hln⟩ : ∃ n,l.length=n:=⟨_,rfl⟩
 obtain⟨va,vc,rfl⟩:=rdS_shape hv hln
 have LN:=hD hln
 clear hln
 have b0:=bl_newZ w (.cells #[.slice xa s.e.length xc,.slice ya s.s.length yc] 25)
 have HB:=hD b0
 have H:=hD (h.later b0)
 have V:=hD (hv.later b0)
 have SB:=newQ w (.cells #[.slice xa s.e.length xc,.slice ya s.s.length yc] 25)
 replace SB:=hD SB
 clear b0
 clear h hv
 have F1:=hD f1
 clear f1
 obtain⟨⟨SBc0,SBc1⟩,⟨SBf0,SBf1⟩⟩:=blk2 SB.out
 go_enter Tryz.func6,Tryz.ntmps6
 go_wp2_with fail
 clear SBc0 SBc1 SBf0 SBf1
 refine (fewst_any H.out F1).mono ?_
 rintro e w2 ⟨rfl,b2⟩
 replace SB:=hD (upQ SB.out b2)
 replace H:=hD (H.out.later b2)
 replace V:=hD (RdS.later V.out b2)
 replace HB:=hD (below2Z HB.out b2)
 clear b2
 go_wp2_with fail
 refine (live15 _).mono ?_
 rintro e w3 ⟨rfl,b3⟩
 replace SB:=hD (upQ SB.out b3)
 replace H:=hD (H.out.later b3)
 replace V:=hD (RdS.later V.out b3)
 replace HB:=hD (below2Z HB.out b3)
 clear b3
 go_wp2_with fail
 go_ret
 exact⟨rfl,HB.out⟩

theorem vhi_2 {w:World} {x y v:Value} {s:Sta} {l:List Ev} (h:StAt w x y s) (hv:Evs w v l) (m:List UInt8) (f1:fewSta s=true) (f2:stMay s=false) :
  Calls Tryz.prog 6 #[.agg #[x,y],v,.string ⟨m.toArray⟩] w fun e w' => e=.returned (.bool true)∧Below w.heap.size w w':=by
 obtain⟨xa,xc,rfl⟩:=ents_shape h.1 rfl
 obtain⟨ya,yc,rfl⟩:=rdS_shape h.2 rfl
 obtain⟨ln,hln⟩ : ∃ n,l.length=n:=⟨_,rfl⟩
 obtain⟨va,vc,rfl⟩:=rdS_shape hv hln
 have LN:=hD hln
 clear hln
 have b0:=bl_newZ w (.cells #[.slice xa s.e.length xc,.slice ya s.s.length yc] 25)
 have HB:=hD b0
 have H:=hD (h.later b0)
 have V:=hD (hv.later b0)
 have SB:=newQ w (.cells #[.slice xa s.e.length xc,.slice ya s.s.length yc] 25)
 replace SB:=hD SB
 clear b0
 clear h hv
 obtain⟨HOK,he80,hs50⟩:=fewSta_V f1
 replace HOK:=hD HOK
 have F1:=hD f1
 have F2:=hD f2
 clear f1 f2
 obtain⟨⟨SBc0,SBc1⟩,⟨SBf0,SBf1⟩⟩:=blk2 SB.out
 go_enter Tryz.func6,Tryz.ntmps6
 go_wp2_with fail
 clear SBc0 SBc1 SBf0 SBf1
 refine (fewst_any H.out F1).mono ?_
 rintro e w2 ⟨rfl,b2⟩
 replace SB:=hD (upQ SB.out b2)
 replace H:=hD (H.out.later b2)
 replace V:=hD (RdS.later V.out b2)
 replace HB:=hD (below2Z HB.out b2)
 clear b2
 obtain⟨⟨SBc0,SBc1⟩,⟨SBf0,SBf1⟩⟩:=blk2 SB.out
 go_wp2_with fail
 clear SBc0 SBc1 SBf0 SBf1
 refine (rstmay_any H.out HOK.out.1 (by omega) HOK.out.2 F2).mono ?_
 rintro e w3 ⟨rfl,b3⟩
 replace SB:=hD (upQ SB.out b3)
 replace H:=hD (H.out.later b3)
 replace V:=hD (RdS.later V.out b3)
 replace HB:=hD (below2Z HB.out b3)
 clear b3
 go_wp2_with fail
 refine (live15 _).mono ?_
 rintro e w4 ⟨rfl,b4⟩
 replace SB:=hD (upQ SB.out b4)
 replace H:=hD (H.out.later b4)
 replace V:=hD (RdS.later V.out b4)
 replace HB:=hD (below2Z HB.out b4)
 clear b4
 go_wp2_with fail
 go_ret
 exact⟨rfl,HB.out⟩

theorem vhi_3 {w:World} {x y v:Value} {s:Sta} {l:List Ev} (h:StAt w x y s) (hv:Evs w v l) (m:List UInt8) (f1:fewSta s=true) (f2:stMay s=true) (f3:evsShort 20 l=false) :
  Calls Tryz.prog 6 #[.agg #[x,y],v,.string ⟨m.toArray⟩] w fun e w' => e=.returned (.bool true)∧Below w.heap.size w w':=by
 obtain⟨xa,xc,rfl⟩:=ents_shape h.1 rfl
 obtain⟨ya,yc,rfl⟩:=rdS_shape h.2 rfl
 obtain⟨ln,hln⟩ : ∃ n,l.length=n:=⟨_,rfl⟩
 obtain⟨va,vc,rfl⟩:=rdS_shape hv hln
 have LN:=hD hln
 clear hln
 have b0:=bl_newZ w (.cells #[.slice xa s.e.length xc,.slice ya s.s.length yc] 25)
 have HB:=hD b0
 have H:=hD (h.later b0)
 have V:=hD (hv.later b0)
 have SB:=newQ w (.cells #[.slice xa s.e.length xc,.slice ya s.s.length yc] 25)
 replace SB:=hD SB
 clear b0
 clear h hv
 obtain⟨HOK,he80,hs50⟩:=fewSta_V f1
 replace HOK:=hD HOK
 have F1:=hD f1
 have F2:=hD f2
 have F3:=hD f3
 clear f1 f2 f3
 obtain⟨⟨SBc0,SBc1⟩,⟨SBf0,SBf1⟩⟩:=blk2 SB.out
 go_enter Tryz.func6,Tryz.ntmps6
 go_wp2_with fail
 clear SBc0 SBc1 SBf0 SBf1
 refine (fewst_any H.out F1).mono ?_
 rintro e w2 ⟨rfl,b2⟩
 replace SB:=hD (upQ SB.out b2)
 replace H:=hD (H.out.later b2)
 replace V:=hD (RdS.later V.out b2)
 replace HB:=hD (below2Z HB.out b2)
 clear b2
 obtain⟨⟨SBc0,SBc1⟩,⟨SBf0,SBf1⟩⟩:=blk2 SB.out
 go_wp2_with fail
 clear SBc0 SBc1 SBf0 SBf1
 refine (rstmay_any H.out HOK.out.1 (by omega) HOK.out.2 F2).mono ?_
 rintro e w3 ⟨rfl,b3⟩
 replace SB:=hD (upQ SB.out b3)
 replace H:=hD (H.out.later b3)
 replace V:=hD (RdS.later V.out b3)
 replace HB:=hD (below2Z HB.out b3)
 clear b3
 obtain⟨⟨SBc0,SBc1⟩,⟨SBf0,SBf1⟩⟩:=blk2 SB.out
 go_wp2_with fail
 clear SBc0 SBc1 SBf0 SBf1
 refine (events_any V.out 20 (by decide) F3).mono ?_
 rintro e w4 ⟨rfl,b4⟩
 replace SB:=hD (upQ SB.out b4)
 replace H:=hD (H.out.later b4)
 replace V:=hD (RdS.later V.out b4)
 replace HB:=hD (below2Z HB.out b4)
 clear b4
 go_wp2_with fail
 refine (live15 _).mono ?_
 rintro e w5 ⟨rfl,b5⟩
 replace SB:=hD (upQ SB.out b5)
 replace H:=hD (H.out.later b5)
 replace V:=hD (RdS.later V.out b5)
 replace HB:=hD (below2Z HB.out b5)
 clear b5
 go_wp2_with fail
 go_ret
 exact⟨rfl,HB.out⟩

theorem vhi_4 {w:World} {x y v:Value} {s:Sta} {l:List Ev} (h:StAt w x y s) (hv:Evs w v l) (m:List UInt8) (f1:fewSta s=true) (f2:stMay s=true) (f3:evsShort 20 l=true) (k3:¬ m.length≤40) :
  Calls Tryz.prog 6 #[.agg #[x,y],v,.string ⟨m.toArray⟩] w fun e w' => e=.returned (.bool true)∧Below w.heap.size w w':=by
 obtain⟨xa,xc,rfl⟩:=ents_shape h.1 rfl
 obtain⟨ya,yc,rfl⟩:=rdS_shape h.2 rfl
 obtain⟨ln,hln⟩ : ∃ n,l.length=n:=⟨_,rfl⟩
 obtain⟨va,vc,rfl⟩:=rdS_shape hv hln
 have LN:=hD hln
 clear hln
 have b0:=bl_newZ w (.cells #[.slice xa s.e.length xc,.slice ya s.s.length yc] 25)
 have HB:=hD b0
 have H:=hD (h.later b0)
 have V:=hD (hv.later b0)
 have SB:=newQ w (.cells #[.slice xa s.e.length xc,.slice ya s.s.length yc] 25)
 replace SB:=hD SB
 clear b0
 clear h hv
 obtain⟨HOK,he80,hs50⟩:=fewSta_V f1
 replace HOK:=hD HOK
 have F1:=hD f1
 have F2:=hD f2
 have F3:=hD f3
 clear f1 f2 f3
 have t1:=long_yes k3
 clear k3
 obtain⟨⟨SBc0,SBc1⟩,⟨SBf0,SBf1⟩⟩:=blk2 SB.out
 go_enter Tryz.func6,Tryz.ntmps6
 go_wp2_with fail
 clear SBc0 SBc1 SBf0 SBf1
 refine (fewst_any H.out F1).mono ?_
 rintro e w2 ⟨rfl,b2⟩
 replace SB:=hD (upQ SB.out b2)
 replace H:=hD (H.out.later b2)
 replace V:=hD (RdS.later V.out b2)
 replace HB:=hD (below2Z HB.out b2)
 clear b2
 obtain⟨⟨SBc0,SBc1⟩,⟨SBf0,SBf1⟩⟩:=blk2 SB.out
 go_wp2_with fail
 clear SBc0 SBc1 SBf0 SBf1
 refine (rstmay_any H.out HOK.out.1 (by omega) HOK.out.2 F2).mono ?_
 rintro e w3 ⟨rfl,b3⟩
 replace SB:=hD (upQ SB.out b3)
 replace H:=hD (H.out.later b3)
 replace V:=hD (RdS.later V.out b3)
 replace HB:=hD (below2Z HB.out b3)
 clear b3
 obtain⟨⟨SBc0,SBc1⟩,⟨SBf0,SBf1⟩⟩:=blk2 SB.out
 go_wp2_with fail
 clear SBc0 SBc1 SBf0 SBf1
 refine (events_any V.out 20 (by decide) F3).mono ?_
 rintro e w4 ⟨rfl,b4⟩
 replace SB:=hD (upQ SB.out b4)
 replace H:=hD (H.out.later b4)
 replace V:=hD (RdS.later V.out b4)
 replace HB:=hD (below2Z HB.out b4)
 clear b4
 go_wp2_with fail
 refine (live15 _).mono ?_
 rintro e w5 ⟨rfl,b5⟩
 replace SB:=hD (upQ SB.out b5)
 replace H:=hD (H.out.later b5)
 replace V:=hD (RdS.later V.out b5)
 replace HB:=hD (below2Z HB.out b5)
 clear b5
 go_wp2_with fail
 go_ret
 exact⟨rfl,HB.out⟩

theorem vhi_5 {w:World} {x y v:Value} {s:Sta} {l:List Ev} (h:StAt w x y s) (hv:Evs w v l) (m:List UInt8) (f1:fewSta s=true) (f2:stMay s=true) (f3:evsShort 20 l=true) (k3:m.length≤40) :
  Calls Tryz.prog 6 #[.agg #[x,y],v,.string ⟨m.toArray⟩] w fun e w' => e=.returned (.bool true)∧Below w.heap.size w w':=by
 obtain⟨xa,xc,rfl⟩:=ents_shape h.1 rfl
 obtain⟨ya,yc,rfl⟩:=rdS_shape h.2 rfl
 obtain⟨ln,hln⟩ : ∃ n,l.length=n:=⟨_,rfl⟩
 obtain⟨va,vc,rfl⟩:=rdS_shape hv hln
 have LN:=hD hln
 clear hln
 have b0:=bl_newZ w (.cells #[.slice xa s.e.length xc,.slice ya s.s.length yc] 25)
 have HB:=hD b0
 have H:=hD (h.later b0)
 have V0:=hD hv
 have V:=hD (hv.later b0)
 have SB:=newQ w (.cells #[.slice xa s.e.length xc,.slice ya s.s.length yc] 25)
 replace SB:=hD SB
 clear b0
 clear h hv
 obtain⟨HOK,he80,hs50⟩:=fewSta_V f1
 replace HOK:=hD HOK
 have F1:=hD f1
 have F2:=hD f2
 have F3:=hD f3
 clear f1 f2 f3
 have t1:=long_no k3
 clear k3
 obtain⟨hl20,hes⟩:=evsShort_get F3.out
 rw [LN.out] at hl20
 have HES:=hD (evsShort_ev F3.out)
 obtain⟨na,hna⟩ : ∃ n,(vwOf s m).length=n:=⟨_,rfl⟩
 have NA:=hD hna
 clear hna hes
 obtain⟨⟨SBc0,SBc1⟩,⟨SBf0,SBf1⟩⟩:=blk2 SB.out
 go_enter Tryz.func6,Tryz.ntmps6
 go_wp2_with fail
 clear SBc0 SBc1 SBf0 SBf1
 refine (fewst_any H.out F1).mono ?_
 rintro e w2 ⟨rfl,b2⟩
 replace SB:=hD (upQ SB.out b2)
 replace H:=hD (H.out.later b2)
 replace V:=hD (RdS.later V.out b2)
 replace HB:=hD (below2Z HB.out b2)
 clear b2
 obtain⟨⟨SBc0,SBc1⟩,⟨SBf0,SBf1⟩⟩:=blk2 SB.out
 go_wp2_with fail
 clear SBc0 SBc1 SBf0 SBf1
 refine (rstmay_any H.out HOK.out.1 (by omega) HOK.out.2 F2).mono ?_
 rintro e w3 ⟨rfl,b3⟩
 replace SB:=hD (upQ SB.out b3)
 replace H:=hD (H.out.later b3)
 replace V:=hD (RdS.later V.out b3)
 replace HB:=hD (below2Z HB.out b3)
 clear b3
 obtain⟨⟨SBc0,SBc1⟩,⟨SBf0,SBf1⟩⟩:=blk2 SB.out
 go_wp2_with fail
 clear SBc0 SBc1 SBf0 SBf1
 refine (events_any V.out 20 (by decide) F3).mono ?_
 rintro e w4 ⟨rfl,b4⟩
 replace SB:=hD (upQ SB.out b4)
 replace H:=hD (H.out.later b4)
 replace V:=hD (RdS.later V.out b4)
 replace HB:=hD (below2Z HB.out b4)
 clear b4
 obtain⟨⟨SBc0,SBc1⟩,⟨SBf0,SBf1⟩⟩:=blk2 SB.out
 go_wp2_with fail
 clear SBc0 SBc1 SBf0 SBf1
 refine (vwof_any H.out HOK.out (by omega) m).mono ?_
 rintro e w5 ⟨vA1,rfl,hA1,b5⟩
 replace SB:=hD (upQ SB.out b5)
 replace H:=hD (H.out.later b5)
 replace V:=hD (RdS.later V.out b5)
 replace HB:=hD (below2Z HB.out b5)
 obtain⟨aa,ac,rfl⟩:=tab_shapeV hA1.tab NA.out
 have A1:=hD hA1.tab
 clear hA1
 clear b5
 obtain⟨⟨SBc0,SBc1⟩,⟨SBf0,SBf1⟩⟩:=blk2 SB.out
 go_wp2_with fail
 clear SBc0 SBc1 SBf0 SBf1
 have b6:=bl_newZ w5 (.cells #[.slice xa s.e.length xc,.slice ya s.s.length yc] 25)
 have TB:=newQ w5 (.cells #[.slice xa s.e.length xc,.slice ya s.s.length yc] 25)
 have hTB:w.heap.size≤w5.heap.size:=HB.out.size
 replace SB:=hD (upQ SB.out b6)
 replace H:=hD (H.out.later b6)
 replace V:=hD (RdS.later V.out b6)
 replace A1:=hD (Tab.later A1.out b6)
 replace HB:=hD (below2Z HB.out b6)
 clear b6
 replace TB:=hD TB
 generalize w5.alloc (.cells #[.slice xa s.e.length xc,.slice ya s.s.length yc] 25)=w7 at SB TB H V A1 HB ⊢
 generalize w5.heap.size=B8 at TB hTB ⊢
 clear SB
 go_loopw [9] (fun i wr => ∃ (k:Nat) (tk:Sta) (xk yk:Value),k≤ln∧i=.int .i64 k∧Hid (wr.heap[B8]?=some (.cells #[xk,yk] 25 (0,0)))∧Hid (StAt wr xk yk tk)∧Hid (Tab wr (.slice aa na ac) (vwOf s m))∧Hid (stMay tk=true)∧tk.e.length≤80+2 * k∧Hid (∀ c,vwVal tk m c=vwVal s m c)∧Hid (Below w.heap.size w wr)) (fun i _ => ln - (intOf i).toNat)
 case atStart => exact⟨0,s,_,_,by omega,rfl,TB,H,A1,F2,by omega,(fun _ => rfl),HB⟩
 case round =>
  clear H A1 TB HB
  obtain⟨k,tk,xk,yk,hk,rfl,TB,H,A1,HM,hlen,HV,HB⟩:=hrel
  by_cases hlt:k < ln
  ·obtain⟨wq,hwq⟩ : ∃ X,X=wr:=⟨_,rfl⟩
   subst hwq
   obtain⟨ax,cx,rfl⟩:=ents_shape H.out.1 rfl
   obtain⟨ay,cy,rfl⟩:=rdS_shape H.out.2 rfl
   have VW:=hD (RdS.later V0.out HB.out)
   obtain⟨b,off,rfl,hcc⟩:=RdS.row V0.out HB.out k (by rw [LN.out]; exact hlt)
   have hes:=HES.out _ (by rw [evgetD (by rw [LN.out]; exact hlt)]; exact List.getElem_mem _:l.getD k Ev.zero ∈ l)
   obtain⟨⟨kk,u,c,id,⟨ea,eb,ed,es⟩⟩,hz⟩ : ∃ z,l.getD k Ev.zero=z:=⟨_,rfl⟩
   rw [hz] at hcc hes
   obtain⟨hs1,hs2,hs3⟩:=hes
   simp only at hs1 hs2 hs3
   have RC:=hD hcc
   clear hz hcc
   obtain⟨⟨t2,n2⟩,hap⟩ : ∃ p,stApply tk ⟨kk,u,c,id,⟨ea,eb,ed,es⟩⟩=p:=⟨_,rfl⟩
   have AP:=hD hap
   have hlen2:=stLen_next hap
   have HM2:=hD (stApply_mayall hap HM.out)
   clear hap
   have hkn:(0:Int)≤(k:Int):=by omega
   have hki:(k:Int) < (ln:Int):=by omega
   obtain⟨L,hL⟩ : ∃ L,stTouch ⟨kk,u,c,id,⟨ea,eb,ed,es⟩⟩=L:=⟨_,rfl⟩
   obtain⟨nl,hnl⟩ : ∃ n,L.length=n:=⟨_,rfl⟩
   have hnl2:nl≤2:=by rw [← hnl,← hL]; exact touch_len _
   have HL:=hD hL
   have NL:=hD hnl
   clear hL hnl
   have TOK:=hD (stOK_may HM.out)
   clear VW
   go_upto_region 8 with fail
   go_cut [10,11] from 44 to 52 (fun p z wx => ∃ (B:Nat) (a4 a5:Option Addr) (c4 c5:Nat),p=.pointer (some ⟨B,0,none⟩)∧z=.int .i64 n2∧wq.heap.size≤B∧Hid (wx.heap[B]?=some (.cells #[.slice a4 t2.e.length c4,.slice a5 t2.s.length c5] 25 (0,0)))∧Hid (StAt wx (.slice a4 t2.e.length c4) (.slice a5 t2.s.length c5) t2)∧Hid (Below wq.heap.size wq wx))
   case first =>
    obtain⟨BS,hBS⟩ : ∃ BS:List (Nat × List Value),BS=[(B8,[.slice ax tk.e.length cx,.slice ay tk.s.length cy])]:=⟨_,rfl⟩
    have D0:=hD (show heldE wq BS b (off+k * 8) (⟨kk,u,c,id,⟨ea,eb,ed,es⟩⟩) from ⟨by rw [hBS]; exact heldB_cons (cellsAt_block TB.out) (heldB_nil _),RC.out⟩)
    have hq0:∀ X,heldE X BS b (off+k * 8) (⟨kk,u,c,id,⟨ea,eb,ed,es⟩⟩)→X.cell? ⟨B8,0,none⟩=some (.slice ax tk.e.length cx):=fun X hx => heldB_get (vs:=[.slice ax tk.e.length cx,.slice ay tk.s.length cy]) hx.1 (by rw [hBS]; simp) rfl
    have hq1:∀ X,heldE X BS b (off+k * 8) (⟨kk,u,c,id,⟨ea,eb,ed,es⟩⟩)→X.cell? ⟨B8,1,none⟩=some (.slice ay tk.s.length cy):=fun X hx => heldB_get (vs:=[.slice ax tk.e.length cx,.slice ay tk.s.length cy]) hx.1 (by rw [hBS]; simp) rfl
    have hqe0:∀ X,heldE X BS b (off+k * 8) (⟨kk,u,c,id,⟨ea,eb,ed,es⟩⟩)→X.cell? ⟨b,off+k * 8,none⟩=some (.int .i64 kk):=fun X hx => (eightAt hx.2).1
    have hqe1:∀ X,heldE X BS b (off+k * 8) (⟨kk,u,c,id,⟨ea,eb,ed,es⟩⟩)→X.cell? ⟨b,off+k * 8+1,none⟩=some (.string ⟨u.toArray⟩):=fun X hx => (eightAt hx.2).2.1
    have hqe2:∀ X,heldE X BS b (off+k * 8) (⟨kk,u,c,id,⟨ea,eb,ed,es⟩⟩)→X.cell? ⟨b,off+k * 8+2,none⟩=some (.string ⟨c.toArray⟩):=fun X hx => (eightAt hx.2).2.2.1
    have hqe3:∀ X,heldE X BS b (off+k * 8) (⟨kk,u,c,id,⟨ea,eb,ed,es⟩⟩)→X.cell? ⟨b,off+k * 8+3,none⟩=some (.int .i64 id):=fun X hx => (eightAt hx.2).2.2.2.1
    have hqe4:∀ X,heldE X BS b (off+k * 8) (⟨kk,u,c,id,⟨ea,eb,ed,es⟩⟩)→X.cell? ⟨b,off+k * 8+4,none⟩=some (.int .i64 ea):=fun X hx => (eightAt hx.2).2.2.2.2.1
    have hqe5:∀ X,heldE X BS b (off+k * 8) (⟨kk,u,c,id,⟨ea,eb,ed,es⟩⟩)→X.cell? ⟨b,off+k * 8+5,none⟩=some (.int .i64 eb):=fun X hx => (eightAt hx.2).2.2.2.2.2.1
    have hqe6:∀ X,heldE X BS b (off+k * 8) (⟨kk,u,c,id,⟨ea,eb,ed,es⟩⟩)→X.cell? ⟨b,off+k * 8+6,none⟩=some (.int .i64 ed):=fun X hx => (eightAt hx.2).2.2.2.2.2.2.1
    have hqe7:∀ X,heldE X BS b (off+k * 8) (⟨kk,u,c,id,⟨ea,eb,ed,es⟩⟩)→X.cell? ⟨b,off+k * 8+7,none⟩=some (.string ⟨es.toArray⟩):=fun X hx => (eightAt hx.2).2.2.2.2.2.2.2
    clear hBS
    have K0:Hid (Below wq.heap.size wq wq.drew):=hD (Below.refl _ _).drew
    refine wp_region_held_drew (S:=(fun X => heldE X BS b (off+k * 8) (⟨kk,u,c,id,⟨ea,eb,ed,es⟩⟩))) (by kernel_rfl) ?_ (fun hHeld => ?_)
    ·exact heldE_up K0.out D0.out
    generalize wq.drew=z0 at K0 hHeld ⊢
    refine wpAnyH_take (i:=0) (oi:=⟨some 45,.load 25 (.tmp 8),25,"law.go:101",#[],none⟩) (v:=?_) rfl (by as_aux_lemma => kernel_rfl) (by as_aux_lemma => kernel_rfl) (by as_aux_lemma => kernel_rfl) (fun _ _ _ h => h) (Or.inl ⟨by rfl,?_⟩) (by assumption) ?_
    rotate_left
    ·intro w' hSw
     try dsimp only at hSw
     go_simp
     try with_reducible rfl
    try simp only [Act.put,List.setIfInBounds_toArray,List.set_cons_zero,List.set_cons_succ]
    refine wpAnyH_take (i:=1) (oi:=⟨some 46,.move (.tmp 1),59,"law.go:101",#[],none⟩) (v:=?_) rfl (by as_aux_lemma => kernel_rfl) (by as_aux_lemma => kernel_rfl) (by as_aux_lemma => kernel_rfl) (fun _ _ _ h => h) (Or.inl ⟨by rfl,?_⟩) (by assumption) ?_
    rotate_left
    ·intro w' hSw
     try dsimp only at hSw
     go_simp
     try with_reducible rfl
    try simp only [Act.put,List.setIfInBounds_toArray,List.set_cons_zero,List.set_cons_succ]
    refine wpAnyH_take (i:=2) (oi:=⟨some 47,.move (.tmp 9),3,"law.go:101",#[],none⟩) (v:=?_) rfl (by as_aux_lemma => kernel_rfl) (by as_aux_lemma => kernel_rfl) (by as_aux_lemma => kernel_rfl) (fun _ _ _ h => h) (Or.inl ⟨by rfl,?_⟩) (by assumption) ?_
    rotate_left
    ·intro w' hSw
     try dsimp only at hSw
     go_simp
     try with_reducible rfl
    try simp only [Act.put,List.setIfInBounds_toArray,List.set_cons_zero,List.set_cons_succ]
    refine wpAnyH_take (i:=3) (oi:=⟨some 48,.indexAddr 59 (.tmp 46) (.tmp 47),0,"law.go:101",#[⟨1,.data⟩,⟨2,.data⟩],none⟩) (v:=?_) rfl (by as_aux_lemma => kernel_rfl) (by as_aux_lemma => kernel_rfl) (by as_aux_lemma => kernel_rfl) (fun _ _ _ h => h) (Or.inl ⟨by rfl,?_⟩) (by assumption) ?_
    rotate_left
    ·intro w' hSw
     try dsimp only at hSw
     go_simp
     try with_reducible rfl
    try simp only [Act.put,List.setIfInBounds_toArray,List.set_cons_zero,List.set_cons_succ]
    refine wpAnyH_take (i:=4) (oi:=⟨some 49,.load 50 (.tmp 48),50,"law.go:101",#[⟨3,.data⟩],none⟩) (v:=?_) rfl (by as_aux_lemma => kernel_rfl) (by as_aux_lemma => kernel_rfl) (by as_aux_lemma => kernel_rfl) (fun _ _ _ h => h) (Or.inl ⟨by rfl,?_⟩) (by assumption) ?_
    rotate_left
    ·intro w' hSw
     try dsimp only at hSw
     go_simp
     try with_reducible rfl
    try simp only [Act.put,List.setIfInBounds_toArray,List.set_cons_zero,List.set_cons_succ]
    refine wpAnyH_ready (rs:=[5,9]) (by as_aux_lemma => kernel_rfl) (by simp) ?_
    refine AllReadyH.cons (o:=⟨some 50,.call { callee:=.value (.func 31),args:=#[.tmp 45,.tmp 49],argTypes:=#[25,50] },53,"law.go:101",#[⟨0,.data⟩,⟨4,.data⟩],none⟩) rfl (fun Kx hK => ?_) (AllReadyH.cons (o:=⟨some 10,.alloc 25,0,"law.go:101",#[],none⟩) rfl (fun Kx hK => ?_) (AllReadyH.nil))
    ·go_simp
     refine (stdo_any (H.out.later K0.out) TOK.out.1 (by omega) TOK.out.2 ⟨kk,u,c,id,⟨ea,eb,ed,es⟩⟩ hs1 hs2 hs3 AP.out).mono ?_
     rintro e z8001 ⟨x4,y4,rfl,h4,bz8001⟩
     have K8001:=hD (below2Z K0.out bz8001)
     have D8001:=hD (heldE_up K8001.out D0.out)
     obtain⟨a4,c4,rfl⟩:=ents_shape h4.1 rfl
     obtain⟨a5,c5,rfl⟩:=rdS_shape h4.2 rfl
     have K4:=hD h4
     clear h4
     clear bz8001
     go_wp2_with fail
     refine hK.out _ _ ?_ (fun hHeld2 => ?_)
     ·exact D8001.out
     clear hK Kx hHeld
     have hHeld:=hHeld2
     clear hHeld2
     try simp only [Act.put,List.setIfInBounds_toArray,List.set_cons_zero,List.set_cons_succ]
     refine wpAnyH_take (i:=6) (oi:=⟨some 44,.move (.tmp 50),53,"law.go:101",#[⟨5,.data⟩],none⟩) (v:=?_) rfl (by as_aux_lemma => kernel_rfl) (by as_aux_lemma => kernel_rfl) (by as_aux_lemma => kernel_rfl) (fun _ _ _ h => h) (Or.inl ⟨by rfl,?_⟩) (by assumption) ?_
     rotate_left
     ·intro w' hSw
      try dsimp only at hSw
      go_simp
      try with_reducible rfl
     try simp only [Act.put,List.setIfInBounds_toArray,List.set_cons_zero,List.set_cons_succ]
     refine wpAnyH_take (i:=7) (oi:=⟨some 51,.extract (.tmp 44) 0,25,"law.go:101",#[⟨6,.data⟩],none⟩) (v:=?_) rfl (by as_aux_lemma => kernel_rfl) (by as_aux_lemma => kernel_rfl) (by as_aux_lemma => kernel_rfl) (fun _ _ _ h => h) (Or.inl ⟨by rfl,?_⟩) (by assumption) ?_
     rotate_left
     ·intro w' hSw
      try dsimp only at hSw
      go_simp
      try with_reducible rfl
     try simp only [Act.put,List.setIfInBounds_toArray,List.set_cons_zero,List.set_cons_succ]
     refine wpAnyH_take (i:=8) (oi:=⟨some 52,.extract (.tmp 44) 1,52,"law.go:101",#[⟨6,.data⟩,⟨10,.gcOnly .lateStores⟩],none⟩) (v:=?_) rfl (by as_aux_lemma => kernel_rfl) (by as_aux_lemma => kernel_rfl) (by as_aux_lemma => kernel_rfl) (fun _ _ _ h => h) (Or.inl ⟨by rfl,?_⟩) (by assumption) ?_
     rotate_left
     ·intro w' hSw
      try dsimp only at hSw
      go_simp
      try with_reducible rfl
     try simp only [Act.put,List.setIfInBounds_toArray,List.set_cons_zero,List.set_cons_succ]
     refine wpAnyH_ready (rs:=[9]) (by as_aux_lemma => kernel_rfl) (by simp) ?_
     refine AllReadyH.cons (o:=⟨some 10,.alloc 25,0,"law.go:101",#[],none⟩) rfl (fun Kx hK => ?_) AllReadyH.nil
     go_simp
     refine hK.out _ _ ?_ (fun hHeld2 => ?_)
     ·exact heldE_up (below2Z K8001.out (bl_newZ _ _)) D0.out
     clear hK Kx hHeld
     have hHeld:=hHeld2
     clear hHeld2
     try simp only [Act.put,List.setIfInBounds_toArray,List.set_cons_zero,List.set_cons_succ]
     have bz8002:=bl_newZ z8001 (.cells #[.slice none 0 0,.slice none 0 0] 25)
     have K8002:=hD (below2Z K8001.out bz8002)
     have D8002:=hD (heldE_up K8002.out D0.out)
     have nz8002:=hD ((MapKept.heap_alloc z8001 (.cells #[.slice none 0 0,.slice none 0 0] 25)).1)
     have hB8002:wq.heap.size≤z8001.heap.size:=(K8001.out).size
     replace K4:=hD (StAt.later K4.out bz8002)
     clear bz8002
     generalize z8001.alloc (.cells #[.slice none 0 0,.slice none 0 0] 25)=z8002 at K8002 D8002 nz8002 K4 hHeld ⊢
     generalize z8001.heap.size=B8002 at nz8002 hB8002  ⊢
     obtain⟨r0,r1,g0,g1⟩:=two_T nz8002.out
     refine wpAnyH_ready (rs:=[10]) (by as_aux_lemma => kernel_rfl) (by simp) ?_
     refine AllReadyH.cons (o:=⟨none,.store 25 (.tmp 10) (.tmp 51),0,"law.go:101",#[⟨9,.data⟩,⟨7,.data⟩,⟨5,.chain⟩,⟨0,.phase⟩,⟨1,.phase⟩,⟨2,.phase⟩,⟨3,.phase⟩,⟨4,.phase⟩,⟨5,.phase⟩,⟨6,.phase⟩,⟨7,.phase⟩,⟨8,.textOnly .lateStores⟩,⟨9,.phase⟩],none⟩) rfl (fun Kx hK => ?_) AllReadyH.nil
     go_simp
     clear r0 r1 g0 g1
     obtain⟨z1,z2,z3⟩:=st_box K4.out K8002.out hB8002 nz8002.out allSl_nil
     have Z1:=hD z1
     have KE:=hD z2
     have Z3:=hD z3
     clear z1 z2 z3
     refine hK.out _ _ ?_ (fun hHeld2 => ?_)
     ·exact heldE_up KE.out D0.out
     clear hK Kx hHeld
     have hHeld:=hHeld2
     clear hHeld2
     refine wpAnyH_take (i:=11) (oi:=⟨some 11,.assign (.tmp 52),52,"law.go:101",#[⟨8,.data⟩,⟨10,.chain⟩,⟨0,.phase⟩,⟨1,.phase⟩,⟨2,.phase⟩,⟨3,.phase⟩,⟨4,.phase⟩,⟨5,.phase⟩,⟨6,.phase⟩,⟨7,.phase⟩,⟨8,.phase⟩,⟨9,.phase⟩,⟨10,.phase⟩],none⟩) (v:=?_) rfl (by as_aux_lemma => kernel_rfl) (by as_aux_lemma => kernel_rfl) (by as_aux_lemma => kernel_rfl) (fun _ _ _ h => h) (Or.inl ⟨by rfl,?_⟩) (by assumption) ?_
     rotate_left
     ·intro w' hSw
      try dsimp only at hSw
      go_simp
      try with_reducible rfl
     try simp only [Act.put,List.setIfInBounds_toArray,List.set_cons_zero,List.set_cons_succ]
     refine wpAnyH_done (by kernel_rfl) ?_ _
     go_wp2_with fail
     go_meet
     exact⟨B8002,a4,a5,c4,c5,rfl,rfl,hB8002,Z3,Z1,KE⟩
    ·go_simp
     refine hK.out _ _ ?_ (fun hHeld2 => ?_)
     ·exact heldE_up (below2Z K0.out (bl_newZ _ _)) D0.out
     clear hK Kx hHeld
     have hHeld:=hHeld2
     clear hHeld2
     try simp only [Act.put,List.setIfInBounds_toArray,List.set_cons_zero,List.set_cons_succ]
     have bz8004:=bl_newZ z0 (.cells #[.slice none 0 0,.slice none 0 0] 25)
     have K8004:=hD (below2Z K0.out bz8004)
     have D8004:=hD (heldE_up K8004.out D0.out)
     have nz8004:=hD ((MapKept.heap_alloc z0 (.cells #[.slice none 0 0,.slice none 0 0] 25)).1)
     have hB8004:wq.heap.size≤z0.heap.size:=(K0.out).size
     clear bz8004
     generalize z0.alloc (.cells #[.slice none 0 0,.slice none 0 0] 25)=z8004 at K8004 D8004 nz8004 hHeld ⊢
     generalize z0.heap.size=B8004 at nz8004 hB8004  ⊢
     refine wpAnyH_ready (rs:=[5]) (by as_aux_lemma => kernel_rfl) (by simp) ?_
     refine AllReadyH.cons (o:=⟨some 50,.call { callee:=.value (.func 31),args:=#[.tmp 45,.tmp 49],argTypes:=#[25,50] },53,"law.go:101",#[⟨0,.data⟩,⟨4,.data⟩],none⟩) rfl (fun Kx hK => ?_) AllReadyH.nil
     go_simp
     refine (stdo_any (H.out.later K8004.out) TOK.out.1 (by omega) TOK.out.2 ⟨kk,u,c,id,⟨ea,eb,ed,es⟩⟩ hs1 hs2 hs3 AP.out).mono ?_
     rintro e z8005 ⟨x4,y4,rfl,h4,bz8005⟩
     have K8005:=hD (below2Z K8004.out bz8005)
     have D8005:=hD (heldE_up K8005.out D0.out)
     replace nz8004:=hD (((bz8005).block _ (Array.getElem?_eq_some_iff.1 (nz8004.out)).1).trans (nz8004.out))
     obtain⟨a4,c4,rfl⟩:=ents_shape h4.1 rfl
     obtain⟨a5,c5,rfl⟩:=rdS_shape h4.2 rfl
     have K4:=hD h4
     clear h4
     clear bz8005
     go_wp2_with fail
     refine hK.out _ _ ?_ (fun hHeld2 => ?_)
     ·exact D8005.out
     clear hK Kx hHeld
     have hHeld:=hHeld2
     clear hHeld2
     try simp only [Act.put,List.setIfInBounds_toArray,List.set_cons_zero,List.set_cons_succ]
     refine wpAnyH_take (i:=6) (oi:=⟨some 44,.move (.tmp 50),53,"law.go:101",#[⟨5,.data⟩],none⟩) (v:=?_) rfl (by as_aux_lemma => kernel_rfl) (by as_aux_lemma => kernel_rfl) (by as_aux_lemma => kernel_rfl) (fun _ _ _ h => h) (Or.inl ⟨by rfl,?_⟩) (by assumption) ?_
     rotate_left
     ·intro w' hSw
      try dsimp only at hSw
      go_simp
      try with_reducible rfl
     try simp only [Act.put,List.setIfInBounds_toArray,List.set_cons_zero,List.set_cons_succ]
     refine wpAnyH_take (i:=7) (oi:=⟨some 51,.extract (.tmp 44) 0,25,"law.go:101",#[⟨6,.data⟩],none⟩) (v:=?_) rfl (by as_aux_lemma => kernel_rfl) (by as_aux_lemma => kernel_rfl) (by as_aux_lemma => kernel_rfl) (fun _ _ _ h => h) (Or.inl ⟨by rfl,?_⟩) (by assumption) ?_
     rotate_left
     ·intro w' hSw
      try dsimp only at hSw
      go_simp
      try with_reducible rfl
     try simp only [Act.put,List.setIfInBounds_toArray,List.set_cons_zero,List.set_cons_succ]
     refine wpAnyH_take (i:=8) (oi:=⟨some 52,.extract (.tmp 44) 1,52,"law.go:101",#[⟨6,.data⟩,⟨10,.gcOnly .lateStores⟩],none⟩) (v:=?_) rfl (by as_aux_lemma => kernel_rfl) (by as_aux_lemma => kernel_rfl) (by as_aux_lemma => kernel_rfl) (fun _ _ _ h => h) (Or.inl ⟨by rfl,?_⟩) (by assumption) ?_
     rotate_left
     ·intro w' hSw
      try dsimp only at hSw
      go_simp
      try with_reducible rfl
     try simp only [Act.put,List.setIfInBounds_toArray,List.set_cons_zero,List.set_cons_succ]
     obtain⟨r0,r1,g0,g1⟩:=two_T nz8004.out
     refine wpAnyH_ready (rs:=[10]) (by as_aux_lemma => kernel_rfl) (by simp) ?_
     refine AllReadyH.cons (o:=⟨none,.store 25 (.tmp 10) (.tmp 51),0,"law.go:101",#[⟨9,.data⟩,⟨7,.data⟩,⟨5,.chain⟩,⟨0,.phase⟩,⟨1,.phase⟩,⟨2,.phase⟩,⟨3,.phase⟩,⟨4,.phase⟩,⟨5,.phase⟩,⟨6,.phase⟩,⟨7,.phase⟩,⟨8,.textOnly .lateStores⟩,⟨9,.phase⟩],none⟩) rfl (fun Kx hK => ?_) AllReadyH.nil
     go_simp
     clear r0 r1 g0 g1
     obtain⟨z1,z2,z3⟩:=st_box K4.out K8005.out hB8004 nz8004.out allSl_nil
     have Z1:=hD z1
     have KE:=hD z2
     have Z3:=hD z3
     clear z1 z2 z3
     refine hK.out _ _ ?_ (fun hHeld2 => ?_)
     ·exact heldE_up KE.out D0.out
     clear hK Kx hHeld
     have hHeld:=hHeld2
     clear hHeld2
     refine wpAnyH_take (i:=11) (oi:=⟨some 11,.assign (.tmp 52),52,"law.go:101",#[⟨8,.data⟩,⟨10,.chain⟩,⟨0,.phase⟩,⟨1,.phase⟩,⟨2,.phase⟩,⟨3,.phase⟩,⟨4,.phase⟩,⟨5,.phase⟩,⟨6,.phase⟩,⟨7,.phase⟩,⟨8,.phase⟩,⟨9,.phase⟩,⟨10,.phase⟩],none⟩) (v:=?_) rfl (by as_aux_lemma => kernel_rfl) (by as_aux_lemma => kernel_rfl) (by as_aux_lemma => kernel_rfl) (fun _ _ _ h => h) (Or.inl ⟨by rfl,?_⟩) (by assumption) ?_
     rotate_left
     ·intro w' hSw
      try dsimp only at hSw
      go_simp
      try with_reducible rfl
     try simp only [Act.put,List.setIfInBounds_toArray,List.set_cons_zero,List.set_cons_succ]
     refine wpAnyH_done (by kernel_rfl) ?_ _
     go_wp2_with fail
     go_meet
     exact⟨B8004,a4,a5,c4,c5,rfl,rfl,hB8004,Z3,Z1,KE⟩
   case rest =>
    obtain⟨BU,a4,a5,c4,c5,rfl,rfl,hBU,UB,K,KB9⟩:=hcut
    obtain⟨w8,hw8⟩ : ∃ X,X=wc:=⟨_,rfl⟩
    subst hw8
    have hneU:¬ B8=BU:=by have:=(Array.getElem?_eq_some_iff.1 TB.out).1; omega
    replace TB:=hD (upQ TB.out KB9.out)
    replace H:=hD (H.out.later KB9.out)
    replace A1:=hD (Tab.later A1.out KB9.out)
    replace RC:=hD (CellsAt.later RC.out KB9.out)
    replace HB:=hD (below2Z HB.out KB9.out)
    clear KB9
    obtain⟨r0,r1,r2,r3,r4,r5,r6,r7⟩:=eightAt RC.out
    go_wp2_with fail
    clear r0 r1 r2 r3 r4 r5 r6 r7
    refine (touch_any ⟨kk,u,c,id,⟨ea,eb,ed,es⟩⟩ _).mono ?_
    rintro e w9 ⟨vA2,rfl,hA2,b9⟩
    replace TB:=hD (upQ TB.out b9)
    replace UB:=hD (upQ UB.out b9)
    replace H:=hD (H.out.later b9)
    replace A1:=hD (Tab.later A1.out b9)
    replace RC:=hD (CellsAt.later RC.out b9)
    replace K:=hD (K.out.later b9)
    replace HB:=hD (below2Z HB.out b9)
    rw [HL.out] at hA2
    obtain⟨a2,c2,rfl⟩:=texts_shape hA2 NL.out
    have A2:=hD hA2
    clear hA2
    clear b9
    go_wp2_with fail
    go_loopw [12,14] (fun a i ws => ∃ (j:Nat) (am:Bool),j≤nl∧a=.bool am∧Hid (hidTo tk.e t2.e m (L.take j)=am)∧i=.int .i64 j∧Hid (Below w9.heap.size w9 ws)) (fun _ i _ => nl - (intOf i).toNat)
    case atStart => exact⟨0,true,by omega,rfl,by show _=_; rfl,rfl,Below.refl _ _⟩
    case round =>
     obtain⟨j,am,hj,rfl,HAM,rfl,HN2⟩:=hrel
     by_cases hlt2:j < nl
     ·obtain⟨b2,off2,rfl,hcc⟩:=A2.out.cell HN2.out j (by rw [NL.out]; exact hlt2)
      have hnx:=hid_next (a:=tk.e) (b:=t2.e) (m:=m) (l:=L) (k:=j) (by rw [NL.out]; exact hlt2)
      obtain⟨q2,hq2⟩ : ∃ q,L.getD j []=q:=⟨_,rfl⟩
      rw [HAM.out,hq2] at hnx
      rw [hq2] at hcc
      clear hq2
      have hkn2:(0:Int)≤(j:Int):=by omega
      have hki2:(j:Int) < (nl:Int):=by omega
      have B5:=hD HN2.out.drew
      obtain⟨c0,-,-,-⟩:=two_T (upQ TB.out HN2.out)
      obtain⟨d0,-,-,-⟩:=two_T (upQ UB.out HN2.out)
      have g0:=cell_regrown c0
      have g1:=cell_regrown d0
      have g2:=cell_regrown hcc
      clear c0 d0 hcc
      obtain⟨r1,hr1⟩ : ∃ r,roSees tk.e m q2=r:=⟨_,rfl⟩
      obtain⟨r2,hr2⟩ : ∃ r,roSees t2.e m q2=r:=⟨_,rfl⟩
      have S1:=hD (sees8_far (H.out.later HN2.out).1 m q2 hr1)
      have S2:=hD (sees8_far (K.out.later HN2.out).1 m q2 hr2)
      obtain⟨be,hbe⟩ : ∃ b,(q2 == m)=b:=⟨_,rfl⟩
      have hbn:(q2 != m)=!be:=by rw [← hbe]; rfl
      have hone:hidOne tk.e t2.e m q2=(!be && (!r1 && !r2)):=by unfold hidOne; rw [hbe,hr1,hr2]
      rw [hone] at hnx
      clear hone hr1 hr2
      cases am with
      | false =>
       have HA2:Hid (hidTo tk.e t2.e m (L.take (j+1))=false):=hD (by rw [hnx]; rfl)
       clear hnx
       go_wp2_with fail
       refine wp_region_quiet_below (by kernel_rfl) (by kernel_rfl) ?_
       repeat (go_big_quiet_step (first | with_reducible exact rgM S1.out _ _ | with_reducible exact rgM S2.out _ _))
       refine wpQuiet_nil ?_
       intro w9 hw9
       have HN3:=hD (below2Z HN2.out (regrownZ hw9))
       clear hw9 g0 g1 g2 S1 S2
       go_wp2_with fail
       go_roundw
       case rel => exact⟨j+1,false,by omega,rfl,HA2,by go_num,HN3⟩
       case measure => simp [intOf]; omega
      | true =>
       cases be with
       | true =>
        have HA2:Hid (hidTo tk.e t2.e m (L.take (j+1))=false):=hD (by rw [hnx]; rfl)
        clear hnx
        change (q2 != m)=false at hbn
        go_wp2_with fail
        refine wp_region_quiet_below (by kernel_rfl) (by kernel_rfl) ?_
        repeat (go_big_quiet_step (first | with_reducible exact rgM S1.out _ _ | with_reducible exact rgM S2.out _ _))
        refine wpQuiet_nil ?_
        intro w9 hw9
        have HN3:=hD (below2Z HN2.out (regrownZ hw9))
        clear hw9 g0 g1 g2 S1 S2
        go_wp2_with fail
        go_roundw
        case rel => exact⟨j+1,false,by omega,rfl,HA2,by go_num,HN3⟩
        case measure => simp [intOf]; omega
       | false =>
        cases r1 with
        | true =>
         have HA2:Hid (hidTo tk.e t2.e m (L.take (j+1))=false):=hD (by rw [hnx]; rfl)
         clear hnx
         change (q2 != m)=true at hbn
         go_wp2_with fail
         refine wp_region_quiet_below (by kernel_rfl) (by kernel_rfl) ?_
         repeat (go_big_quiet_step (first | with_reducible exact rgM S1.out _ _ | with_reducible exact rgM S2.out _ _))
         refine wpQuiet_nil ?_
         intro w9 hw9
         have HN3:=hD (below2Z HN2.out (regrownZ hw9))
         clear hw9 g0 g1 g2 S1 S2
         go_wp2_with fail
         go_roundw
         case rel => exact⟨j+1,false,by omega,rfl,HA2,by go_num,HN3⟩
         case measure => simp [intOf]; omega
        | false =>
         cases r2 with
         | true =>
          have HA2:Hid (hidTo tk.e t2.e m (L.take (j+1))=false):=hD (by rw [hnx]; rfl)
          clear hnx
          change (q2 != m)=true at hbn
          go_wp2_with fail
          refine wp_region_quiet_below (by kernel_rfl) (by kernel_rfl) ?_
          repeat (go_big_quiet_step (first | with_reducible exact rgM S1.out _ _ | with_reducible exact rgM S2.out _ _))
          refine wpQuiet_nil ?_
          intro w9 hw9
          have HN3:=hD (below2Z HN2.out (regrownZ hw9))
          clear hw9 g0 g1 g2 S1 S2
          go_wp2_with fail
          go_roundw
          case rel => exact⟨j+1,false,by omega,rfl,HA2,by go_num,HN3⟩
          case measure => simp [intOf]; omega
         | false =>
          have HA2:Hid (hidTo tk.e t2.e m (L.take (j+1))=true):=hD (by rw [hnx]; rfl)
          clear hnx
          change (q2 != m)=true at hbn
          go_wp2_with fail
          refine wp_region_quiet_below (by kernel_rfl) (by kernel_rfl) ?_
          repeat (go_big_quiet_step (first | with_reducible exact rgM S1.out _ _ | with_reducible exact rgM S2.out _ _))
          refine wpQuiet_nil ?_
          intro w9 hw9
          have HN3:=hD (below2Z HN2.out (regrownZ hw9))
          clear hw9 g0 g1 g2 S1 S2
          go_wp2_with fail
          go_roundw
          case rel => exact⟨j+1,true,by omega,rfl,HA2,by go_num,HN3⟩
          case measure => simp [intOf]; omega
     ·obtain rfl:j=nl:=by omega
      have hH:hidTo tk.e t2.e m L=am:=by have h1:=HAM.out; rw [← NL.out,List.take_length] at h1; exact h1
      replace TB:=hD (upQ TB.out HN2.out)
      replace UB:=hD (upQ UB.out HN2.out)
      replace H:=hD (H.out.later HN2.out)
      replace A1:=hD (Tab.later A1.out HN2.out)
      replace RC:=hD (CellsAt.later RC.out HN2.out)
      replace K:=hD (K.out.later HN2.out)
      replace A2:=hD (Texts.later A2.out HN2.out)
      replace HB:=hD (below2Z HB.out HN2.out)
      clear HAM
      cases am with
      | false =>
       clear hH
       obtain⟨⟨TBc0,TBc1⟩,⟨TBf0,TBf1⟩⟩:=blk2 TB.out
       obtain⟨⟨UBc0,UBc1⟩,⟨UBf0,UBf1⟩⟩:=blk2 UB.out
       go_wp2_with fail
       go_roundw
       case rel => exact⟨k+1,tk,_,_,by omega,by go_num,TB,H,A1,HM,by omega,HV,HB⟩
       case measure => simp [intOf]; omega
      | true =>
       have HV2:Hid (∀ c,vwVal t2 m c=vwVal s m c):=hD (fun c => by rw [hid_leaves AP.out (by rw [HL.out]; exact hH) c]; exact HV.out c)
       clear hH
       obtain⟨⟨TBc0,TBc1⟩,⟨TBf0,TBf1⟩⟩:=blk2 TB.out
       obtain⟨⟨UBc0,UBc1⟩,⟨UBf0,UBf1⟩⟩:=blk2 UB.out
       go_wp2_with fail
       clear TBc0 TBc1 TBf0 TBf1 UBc0 UBc1 UBf0 UBf1
       have hsl:AllSl #[.slice ax tk.e.length cx,.slice ay tk.s.length cy]:=allSl_two ⟨_,_,_,rfl⟩ ⟨_,_,_,rfl⟩
       obtain⟨z1,z2,z3⟩:=st_box K.out HB.out hTB TB.out hsl
       have A3:=hD (tab_keep A1.out TB.out (AllSl.no hsl) (W:=(wr.setCell ⟨B8,0,none⟩ (.slice a4 t2.e.length c4)).setCell ⟨B8,1,none⟩ (.slice a5 t2.s.length c5)) (fun k hk => by rw [Below.heap_setCell _ _ _ k hk,Below.heap_setCell _ _ _ k hk]) (by rw [setCell_size,setCell_size]; exact Nat.le_refl _))
       have Z1:=hD z1
       have Z2:=hD z2
       have Z3:=hD z3
       clear z1 z2 z3
       go_roundw
       case rel => exact⟨k+1,t2,_,_,by omega,by go_num,Z3,Z1,A3,HM2,by omega,HV2,Z2⟩
       case measure => simp [intOf]; omega
  ·obtain rfl:k=ln:=by omega
   have HSA:Hid (vwOf tk m=vwOf s m):=hD (vwOf_same F2.out HM.out HV.out)
   have TOK:=hD (stOK_may HM.out)
   obtain⟨⟨TBc0,TBc1⟩,⟨TBf0,TBf1⟩⟩:=blk2 TB.out
   go_wp2_with fail
   clear TBc0 TBc1 TBf0 TBf1
   refine (vwof_any H.out TOK.out (by omega) m).mono ?_
   rintro e w10 ⟨vA3,rfl,hA3,b10⟩
   replace TB:=hD (upQ TB.out b10)
   replace H:=hD (H.out.later b10)
   replace A1:=hD (Tab.later A1.out b10)
   replace HB:=hD (below2Z HB.out b10)
   rw [HSA.out] at hA3
   have A3:=hD hA3.tab
   clear hA3
   clear b10
   go_wp2_with fail
   refine (tsame_eq A3.out A1.out (hD (tSame_iff.2 rfl))).mono ?_
   rintro e w11 ⟨rfl,b11⟩
   replace TB:=hD (upQ TB.out b11)
   replace H:=hD (H.out.later b11)
   replace A1:=hD (Tab.later A1.out b11)
   replace A3:=hD (Tab.later A3.out b11)
   replace HB:=hD (below2Z HB.out b11)
   clear b11
   go_wp2_with fail
   refine (live15 _).mono ?_
   rintro e w12 ⟨rfl,b12⟩
   replace HB:=hD (below2Z HB.out b12)
   clear b12
   go_wp2_with fail
   go_ret
   exact⟨rfl,HB.out⟩

theorem walkViewHides {w:World} {x y v:Value} {s:Sta} {l:List Ev} (h:StAt w x y s) (_:∀ r ∈ s.s,SesFit r) (hv:Evs w v l) (_:∀ e ∈ l,evFit e) (m:List UInt8) (_:m.length≤maxLen) :
  Calls Tryz.prog 6 #[.agg #[x,y],v,.string ⟨m.toArray⟩] w fun z w' => z=.returned (.bool true)∧Below w.heap.size w w':=by
 cases f1:fewSta s with
 | false => exact vhi_1 h hv m f1
 | true =>
 cases f2:stMay s with
 | false => exact vhi_2 h hv m f1 f2
 | true =>
 cases f3:evsShort 20 l with
 | false => exact vhi_3 h hv m f1 f2 f3
 | true =>
 by_cases k3:m.length≤40
 case neg => exact vhi_4 h hv m f1 f2 f3 k3
 exact vhi_5 h hv m f1 f2 f3 k3

end Go.Proofs.YtphfinlfabklmaaGreat

end

section

namespace Go.Proofs.YtphfinlfabklmaaGreat.viewHides
open Go.ChangeShapes Go.WideShapes Go.ChangeAt Go.RowKit
open Go.ChangeMaps (open_string shut_string)
set_option linter.unusedVariables false

theorem own:ownKnob Tryz.prog.godebug=none:=by kernel_rfl
theorem laidOut:laidOutB Tryz.prog=true:=by kernel_rfl

theorem lifted (os:Os) (started:os.Started) (H:Type) (enc:TypeId × Value→H) :
  ReturnsInHanded {} Tryz.checked os 6 .any (Rows.viewHidesSpec.pre6 enc Tryz.prog Tryz.f6 Rows.viewHidesRow.domain false) (Rows.viewHidesSpec.post enc Tryz.prog Tryz.f6 false true false false):=by
 refine returnsInHanded_of_change (C:=Tryz.checked) own started (by kernel_rfl) Tryz.func6
  (ChangeSpec.witness6 (enc:=enc) (C:=Tryz.checked) false ⟨#[],#[.agg #[.slice none 0 0,.slice none 0 0],.slice none 0 0,.string ByteArray.empty],[]⟩ 8 (by kernel_rfl) (by kernel_rfl) (by kernel_rfl) (by kernel_rfl)) ?_
 intro W base args ds gs before hval0 hW hcnd _
 have hval:∀ (j:Nat) t v,Tryz.f6.params[j]?=some t→args[j]?=some v→Value.okWide Tryz.prog W .any base t v:=hval0
 have hW':=hW
 obtain⟨p,q,hA0,hV,rfl,hfz,hnd⟩:=hW
 have hA:DataW.TrodAll enc Tryz.prog W 0 (fun _ => true) true Tryz.f6.params.toList args.toList ds p:=hA0
 rw [Tryz.params6] at hA hval
 obtain⟨v0,vs0,d0,ds0,p0,q0,hargs,rfl,rfl,h0,r0⟩:=trodAll_cons hA
 obtain⟨v1,vs1,d1,ds1,p1,q1,rfl,rfl,rfl,h1,r1⟩:=trodAll_cons r0
 obtain⟨v2,vs2,d2,ds2,p2,q2,rfl,rfl,rfl,h2,r2⟩:=trodAll_cons r1
 obtain⟨rfl,rfl,rfl⟩:=trodAll_nil r2
 obtain rfl:args=#[v0,v1,v2]:=by cases args; simp_all
 obtain⟨rfl,rfl⟩:=trodVars_none hV
 have k0:=h0
 have lt0:∀ x ∈ p0,x.block < W.heap.size:=by obtain⟨m,hm⟩:=k0; exact DataW.trod_lt m _ _ _ hm
 obtain⟨x0,y0,l0,rfl,w0,f0⟩:=open_sta (hval 0 25 v0 rfl rfl) h0
 have k1:=h1
 have lt1:∀ x ∈ p1,x.block < W.heap.size:=by obtain⟨m,hm⟩:=k1; exact DataW.trod_lt m _ _ _ hm
 obtain⟨l1,w1,f1⟩:=open_evs (hval 1 59 v1 rfl rfl) h1
 have k2:=h2
 have lt2:∀ x ∈ p2,x.block < W.heap.size:=by obtain⟨m,hm⟩:=k2; exact DataW.trod_lt m _ _ _ hm
 obtain⟨s2,rfl,hd2,hp2,w2⟩:=open_string Tryz.underlying9 (hval 2 9 v2 rfl rfl) h2
 obtain⟨a2,e2⟩ : ∃ l:List UInt8,s2=⟨l.toArray⟩:=⟨s2.data.toList,by cases s2; simp⟩
 subst e2
 have w2:a2.length≤maxLen:=by rw [← size_bytes]; exact w2
 clear hA0 hval0
 refine (walkViewHides (w:=W) w0 f0 w1 f1 a2 w2).mono fun e W' ⟨he,bel⟩ => ?_
 subst he
 exact⟨_,rfl,_,_,_,[],_,[],hW',trodAll_mk1 (shut_bool Tryz.underlying4 _),(trodAll_cons_mk (Below.trod laidOut (by kernel_rfl) (of_decide_eq_true (by kernel_rfl)) k0 bel lt0) (trodAll_cons_mk (Below.trod laidOut (by kernel_rfl) (of_decide_eq_true (by kernel_rfl)) k1 bel lt1) (trodAll_cons_mk (Below.trod laidOut (by kernel_rfl) (of_decide_eq_true (by kernel_rfl)) k2 bel lt2) trodAll_mk0))),rfl,bel.frame _,fun h => by cases h⟩

theorem over:Rows.viewHidesRow.holds Tryz.pinned (OpenSpec.ofChange Rows.viewHidesSpec) :=
 OpenClaim.holds_of_wide 6 Tryz.f6 rfl rfl rfl rfl rfl rfl rfl ⟨rfl,rfl,rfl,rfl,rfl⟩ rfl rfl rfl rfl rfl (by kernel_rfl) Tryz.func6 (by kernel_rfl)
  (of_decide_eq_true (by kernel_rfl)) (by unfold Func.isWrapper; first | (rw [if_pos (by decide +kernel)]; kernel_rfl) | (rw [if_neg (by decide +kernel)]; exact⟨rfl,rfl⟩))
  (fun os started H enc _ => lifted os started H enc)

theorem proved:Rows.ViewHidesSaid:=over
#print axioms proved
end Go.Proofs.YtphfinlfabklmaaGreat.viewHides

end
