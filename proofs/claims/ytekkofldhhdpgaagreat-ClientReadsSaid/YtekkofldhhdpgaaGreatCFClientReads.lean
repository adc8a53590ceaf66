/-
 THE PROOF OF ClientReads: for every input the law returns true, and each argument reads behind the call as it read before. No condition.
-/
import Derived.Test.YtekkofldhhdpgaaGreatC22
import Derived.Test.YtekkofldhhdpgaaGreatC28
import Derived.Test.YtekkofldhhdpgaaGreatC09
import Derived.Test.YtekkofldhhdpgaaGreatRows
import Derived.ProofKit
import Derived.OpenShut
import Derived.ShutString
import Derived.ChangeOld
import Derived.SliceStrings
import Derived.Lib.SmallJoins

set_option maxHeartbeats 12800000
set_option maxRecDepth 100000

section

namespace Go.Proofs.YtekkofldhhdpgaaGreat
open Go.RowKit

theorem clr_1 {w:World} {v:Value} {t:List Row} (hv:Tab w v t) (n:Int) (o:Bool) (l:List UInt8) (HF:Hid (fewT t=false)) :
  Calls Tryz.prog 4 #[.agg #[v,.int .i64 n,.bool o],.string ⟨l.toArray⟩] w fun e w' => e=.returned (.bool true)∧Below w.heap.size w w':=by
 obtain⟨ca,cc,rfl,-⟩:=hv.open'
 have hs1z:(⟨l.toArray⟩ : ByteArray).size=l.length:=size_bytes l
 have b0:=bl_newZ w (.cells #[.slice ca t.length cc,.int .i64 n,.bool o] 24)
 have HB:=hZq b0
 have VA:=hZq (hv.later b0)
 have CB:=newQ w (.cells #[.slice ca t.length cc,.int .i64 n,.bool o] 24)
 replace CB:=hZq CB
 clear b0
 clear hv
 go_enter Tryz.func4,Tryz.ntmps4
 obtain⟨⟨CBc0,CBc1,CBc2⟩,⟨CBf0,CBf1,CBf2⟩⟩:=blk3 CB.out
 go_wp2_with fail
 clear CBc0 CBc1 CBc2 CBf0 CBf1 CBf2
 refine (clfew_eq VA.out n o HF).mono ?_
 rintro e w2 ⟨rfl,b2⟩
 replace CB:=hZq (upQ CB.out b2)
 replace VA:=hZq (VA.out.later b2)
 replace HB:=hZq (below2Z HB.out b2)
 clear b2
 go_wp2_with fail
 refine (live19 _).mono ?_
 rintro e w3 ⟨rfl,b3⟩
 replace CB:=hZq (upQ CB.out b3)
 replace VA:=hZq (VA.out.later b3)
 replace HB:=hZq (below2Z HB.out b3)
 clear b3
 go_wp2_with fail
 go_ret
 exact⟨rfl,HB.out⟩

theorem clr_2 {w:World} {v:Value} {t:List Row} (hv:Tab w v t) (n:Int) (o:Bool) (l:List UInt8) (hl:1500 < l.length) (HF:Hid (fewT t=true)) :
  Calls Tryz.prog 4 #[.agg #[v,.int .i64 n,.bool o],.string ⟨l.toArray⟩] w fun e w' => e=.returned (.bool true)∧Below w.heap.size w w':=by
 have tl:decide (1500 < (l.length:Int))=true:=by rw [decide_eq_true_eq]; omega
 have tl2:decide (1500 < l.length)=true:=by rw [decide_eq_true_eq]; omega
 obtain⟨ca,cc,rfl,-⟩:=hv.open'
 have hs1z:(⟨l.toArray⟩ : ByteArray).size=l.length:=size_bytes l
 have b0:=bl_newZ w (.cells #[.slice ca t.length cc,.int .i64 n,.bool o] 24)
 have HB:=hZq b0
 have VA:=hZq (hv.later b0)
 have CB:=newQ w (.cells #[.slice ca t.length cc,.int .i64 n,.bool o] 24)
 replace CB:=hZq CB
 clear b0
 clear hv
 go_enter Tryz.func4,Tryz.ntmps4
 obtain⟨⟨CBc0,CBc1,CBc2⟩,⟨CBf0,CBf1,CBf2⟩⟩:=blk3 CB.out
 go_wp2_with fail
 clear CBc0 CBc1 CBc2 CBf0 CBf1 CBf2
 refine (clfew_eq VA.out n o HF).mono ?_
 rintro e w2 ⟨rfl,b2⟩
 replace CB:=hZq (upQ CB.out b2)
 replace VA:=hZq (VA.out.later b2)
 replace HB:=hZq (below2Z HB.out b2)
 clear b2
 go_wp2_with fail
 refine (live19 _).mono ?_
 rintro e w3 ⟨rfl,b3⟩
 replace CB:=hZq (upQ CB.out b3)
 replace VA:=hZq (VA.out.later b3)
 replace HB:=hZq (below2Z HB.out b3)
 clear b3
 go_wp2_with fail
 go_ret
 exact⟨rfl,HB.out⟩

theorem clr_3 {w:World} {v:Value} {t:List Row} (hv:Tab w v t) (n:Int) (o:Bool) (l:List UInt8) (hl:l.length≤1500) (HF:Hid (fewT t=true)) {t2:List Row} {n2:Int} {o2:Bool} {er:Nat} (HR:Hid (clRead ⟨t,n,o⟩ l=(⟨t2,n2,o2⟩,er))) :
  Calls Tryz.prog 4 #[.agg #[v,.int .i64 n,.bool o],.string ⟨l.toArray⟩] w fun e w' => e=.returned (.bool true)∧Below w.heap.size w w':=by
 have tl:decide (1500 < (l.length:Int))=false:=by rw [decide_eq_false_iff_not]; omega
 have tl2:decide (1500 < l.length)=false:=by rw [decide_eq_false_iff_not]; omega
 have hl2:l.length≤4294967296:=by omega
 have hsT:=fewT_short HF.out
 have hlT:=fewT_len HF.out
 obtain⟨ca,cc,rfl,-⟩:=hv.open'
 have hs1z:(⟨l.toArray⟩ : ByteArray).size=l.length:=size_bytes l
 have b0:=bl_newZ w (.cells #[.slice ca t.length cc,.int .i64 n,.bool o] 24)
 have HB:=hZq b0
 have VA:=hZq (hv.later b0)
 have CB:=newQ w (.cells #[.slice ca t.length cc,.int .i64 n,.bool o] 24)
 replace CB:=hZq CB
 clear b0
 clear hv
 go_enter Tryz.func4,Tryz.ntmps4
 obtain⟨⟨CBc0,CBc1,CBc2⟩,⟨CBf0,CBf1,CBf2⟩⟩:=blk3 CB.out
 go_wp2_with fail
 clear CBc0 CBc1 CBc2 CBf0 CBf1 CBf2
 refine (clfew_eq VA.out n o HF).mono ?_
 rintro e w2 ⟨rfl,b2⟩
 replace CB:=hZq (upQ CB.out b2)
 replace VA:=hZq (VA.out.later b2)
 replace HB:=hZq (below2Z HB.out b2)
 clear b2
 obtain⟨⟨CBc0,CBc1,CBc2⟩,⟨CBf0,CBf1,CBf2⟩⟩:=blk3 CB.out
 go_wp2_with fail
 clear CBc0 CBc1 CBc2 CBf0 CBf1 CBf2
 refine (clread_any VA.out hsT hlT n o l hl2 HR).mono ?_
 rintro e w3 ⟨uA,rfl,hA,b3⟩
 replace CB:=hZq (upQ CB.out b3)
 replace VA:=hZq (VA.out.later b3)
 replace HB:=hZq (below2Z HB.out b3)
 replace hA:=RT.tab hA VA.out
 obtain⟨uAa,uAc,rfl,-⟩:=hA.open'
 have TA:=hZq hA
 clear hA
 clear b3
 go_upto_region 4 with fail
 have b4:=bl_newZ w3 (.cells #[.slice uAa t2.length uAc,.int .i64 n2,.bool o2] 24)
 have DA:=newQ w3 (.cells #[.slice uAa t2.length uAc,.int .i64 n2,.bool o2] 24)
 have hDA:w.heap.size≤w3.heap.size:=HB.out.size
 replace CB:=hZq (upQ CB.out b4)
 replace VA:=hZq (VA.out.later b4)
 replace TA:=hZq (Tab.later TA.out b4)
 replace HB:=hZq (below2Z HB.out b4)
 clear b4
 replace DA:=hZq DA
 generalize w3.alloc (.cells #[.slice uAa t2.length uAc,.int .i64 n2,.bool o2] 24)=w5 at CB DA VA TA HB ⊢
 generalize w3.heap.size=BDA at DA hDA ⊢
 obtain⟨⟨CBc0,CBc1,CBc2⟩,⟨CBf0,CBf1,CBf2⟩⟩:=blk3 CB.out
 go_wp2_with fail
 clear CBc0 CBc1 CBc2 CBf0 CBf1 CBf2
 refine (rclread_any VA.out hsT hlT n o l hl2 HR).mono ?_
 rintro e w6 ⟨uB,rfl,hB,b6⟩
 replace CB:=hZq (upQ CB.out b6)
 replace DA:=hZq (upQ DA.out b6)
 replace VA:=hZq (VA.out.later b6)
 replace TA:=hZq (Tab.later TA.out b6)
 replace HB:=hZq (below2Z HB.out b6)
 replace hB:=RT.tab hB VA.out
 obtain⟨uBa,uBc,rfl,-⟩:=hB.open'
 have TB:=hZq hB
 clear hB
 clear b6
 go_upto_region 5 with fail
 have b7:=bl_newZ w6 (.cells #[.slice uBa t2.length uBc,.int .i64 n2,.bool o2] 24)
 have DB:=newQ w6 (.cells #[.slice uBa t2.length uBc,.int .i64 n2,.bool o2] 24)
 have hDB:w.heap.size≤w6.heap.size:=HB.out.size
 replace CB:=hZq (upQ CB.out b7)
 replace DA:=hZq (upQ DA.out b7)
 replace VA:=hZq (VA.out.later b7)
 replace TA:=hZq (Tab.later TA.out b7)
 replace TB:=hZq (Tab.later TB.out b7)
 replace HB:=hZq (below2Z HB.out b7)
 clear b7
 replace DB:=hZq DB
 generalize w6.alloc (.cells #[.slice uBa t2.length uBc,.int .i64 n2,.bool o2] 24)=w8 at CB DA DB VA TA TB HB ⊢
 generalize w6.heap.size=BDB at DB hDB ⊢
 obtain⟨⟨DAc0,DAc1,DAc2⟩,⟨DAf0,DAf1,DAf2⟩⟩:=blk3 DA.out
 obtain⟨⟨DBc0,DBc1,DBc2⟩,⟨DBf0,DBf1,DBf2⟩⟩:=blk3 DB.out
 go_wp2_with fail
 clear DAc0 DAc1 DAc2 DAf0 DAf1 DAf2 DBc0 DBc1 DBc2 DBf0 DBf1 DBf2
 refine (rclsame_eq TA.out TB.out n2 n2 o2 o2 (hZq (clSame_self _))).mono ?_
 rintro e w9 ⟨rfl,b9⟩
 replace CB:=hZq (upQ CB.out b9)
 replace DA:=hZq (upQ DA.out b9)
 replace DB:=hZq (upQ DB.out b9)
 replace VA:=hZq (VA.out.later b9)
 replace TA:=hZq (Tab.later TA.out b9)
 replace TB:=hZq (Tab.later TB.out b9)
 replace HB:=hZq (below2Z HB.out b9)
 clear b9
 go_wp2_with fail
 refine (live19 _).mono ?_
 rintro e w10 ⟨rfl,b10⟩
 replace CB:=hZq (upQ CB.out b10)
 replace DA:=hZq (upQ DA.out b10)
 replace DB:=hZq (upQ DB.out b10)
 replace VA:=hZq (VA.out.later b10)
 replace TA:=hZq (Tab.later TA.out b10)
 replace TB:=hZq (Tab.later TB.out b10)
 replace HB:=hZq (below2Z HB.out b10)
 clear b10
 go_wp2_with fail
 go_ret
 exact⟨rfl,HB.out⟩

theorem walkClientReads {w:World} {v:Value} {t:List Row} (hv:Tab w v t) (n:Int) (o:Bool) (l:List UInt8) (_:l.length≤maxLen) :
  Calls Tryz.prog 4 #[.agg #[v,.int .i64 n,.bool o],.string ⟨l.toArray⟩] w fun e w' => e=.returned (.bool true)∧Below w.heap.size w w':=by
 cases h1:fewT t with
 | false => exact clr_1 hv n o l (hZq h1)
 | true =>
  by_cases hl:1500 < l.length
  ·exact clr_2 hv n o l hl (hZq h1)
  ·obtain⟨⟨t2,n2,o2⟩,er,h⟩ : ∃ c e,clRead ⟨t,n,o⟩ l=(c,e):=⟨_,_,rfl⟩
   exact clr_3 hv n o l (by omega) (hZq h1) (hZq h)

end Go.Proofs.YtekkofldhhdpgaaGreat

end

section

namespace Go.Proofs.YtekkofldhhdpgaaGreat.clientReads
open Go.ChangeShapes Go.WideShapes Go.ChangeAt Go.RowKit
open Go.ChangeMaps (open_string shut_string)
set_option linter.unusedVariables false

theorem own:ownKnob Tryz.prog.godebug=none:=by kernel_rfl
theorem laidOut:laidOutB Tryz.prog=true:=by kernel_rfl

theorem lifted (os:Os) (started:os.Started) (H:Type) (enc:TypeId × Value→H) :
  ReturnsInHanded {} Tryz.checked os 4 .any (Rows.clientReadsSpec.pre6 enc Tryz.prog Tryz.f4 Rows.clientReadsRow.domain false) (Rows.clientReadsSpec.post enc Tryz.prog Tryz.f4 false true false false):=by
 refine returnsInHanded_of_change (C:=Tryz.checked) own started (by kernel_rfl) Tryz.func4
  (ChangeSpec.witness6 (enc:=enc) (C:=Tryz.checked) false ⟨#[],#[.agg #[.slice none 0 0,.int .i64 0,.bool false],.string ByteArray.empty],[]⟩ 8 (by kernel_rfl) (by kernel_rfl) (by kernel_rfl) (by kernel_rfl)) ?_
 intro W base args ds gs before hval0 hW hcnd _
 have hval:∀ (j:Nat) t v,Tryz.f4.params[j]?=some t→args[j]?=some v→Value.okWide Tryz.prog W .any base t v:=hval0
 have hW':=hW
 obtain⟨p,q,hA0,hV,rfl,hfz,hnd⟩:=hW
 have hA:DataW.TrodAll enc Tryz.prog W 0 (fun _ => true) true Tryz.f4.params.toList args.toList ds p:=hA0
 rw [Tryz.params4] at hA hval
 obtain⟨v0,vs0,d0,ds0,p0,q0,hargs,rfl,rfl,h0,r0⟩:=trodAll_cons hA
 obtain⟨v1,vs1,d1,ds1,p1,q1,rfl,rfl,rfl,h1,r1⟩:=trodAll_cons r0
 obtain⟨rfl,rfl,rfl⟩:=trodAll_nil r1
 obtain rfl:args=#[v0,v1]:=by cases args; simp_all
 obtain⟨rfl,rfl⟩:=trodVars_none hV
 have k0:=h0
 have lt0:∀ x ∈ p0,x.block < W.heap.size:=by obtain⟨m,hm⟩:=k0; exact DataW.trod_lt m _ _ _ hm
 obtain⟨t0,n0,o0,u0,rfl,w0⟩:=open_cli (hval 0 24 v0 rfl rfl) h0
 have k1:=h1
 have lt1:∀ x ∈ p1,x.block < W.heap.size:=by obtain⟨m,hm⟩:=k1; exact DataW.trod_lt m _ _ _ hm
 obtain⟨s1,rfl,hd1,hp1,w1⟩:=open_string Tryz.underlying9 (hval 1 9 v1 rfl rfl) h1
 obtain⟨a1,e1⟩ : ∃ l:List UInt8,s1=⟨l.toArray⟩:=⟨s1.data.toList,by cases s1; simp⟩
 subst e1
 have w1:a1.length≤maxLen:=by rw [← size_bytes]; exact w1
 clear hA0 hval0
 refine (walkClientReads (w:=W) w0 n0 o0 a1 w1).mono fun e W' ⟨he,bel⟩ => ?_
 subst he
 exact⟨_,rfl,_,_,_,[],_,[],hW',trodAll_mk1 (shut_bool Tryz.underlying4 _),(trodAll_cons_mk (Below.trod laidOut (by kernel_rfl) (of_decide_eq_true (by kernel_rfl)) k0 bel lt0) (trodAll_cons_mk (Below.trod laidOut (by kernel_rfl) (of_decide_eq_true (by kernel_rfl)) k1 bel lt1) trodAll_mk0)),rfl,bel.frame _,fun h => by cases h⟩

theorem over:Rows.clientReadsRow.holds Tryz.pinned (OpenSpec.ofChange Rows.clientReadsSpec) :=
 OpenClaim.holds_of_wide 4 Tryz.f4 rfl rfl rfl rfl rfl rfl rfl ⟨rfl,rfl,rfl,rfl,rfl⟩ rfl rfl rfl rfl rfl (by kernel_rfl) Tryz.func4 (by kernel_rfl)
  (of_decide_eq_true (by kernel_rfl)) (by unfold Func.isWrapper; first | (rw [if_pos (by decide +kernel)]; kernel_rfl) | (rw [if_neg (by decide +kernel)]; exact⟨rfl,rfl⟩))
  (fun os started H enc _ => lifted os started H enc)

theorem proved:Rows.ClientReadsSaid:=over
#print axioms proved
end Go.Proofs.YtekkofldhhdpgaaGreat.clientReads

end
