/-
 TEXTS OF THE PROOF, one behind the other: RosSet.
-/
import Derived.Test.YtphfinlfabklmaaGreatB18
import Derived.Test.YtphfinlfabklmaaGreatB01
import Derived.WalkSpells

set_option maxHeartbeats 12800000
set_option maxRecDepth 100000

namespace Go.Proofs.YtphfinlfabklmaaGreat
open Go.RowKit

theorem rsO_step {l:List Ent} {k:Nat} (hk:k < l.length) {e:Ent} (he:l.getD k Ent.zero=e) (x:Ent) (d:Bool) :
  rsO entLt entIs x (l.drop k) d=if entIs e x=true then rsO entLt entIs x (l.drop (k+1)) d else if (!d && entLt x e)=true then x :: e :: rsO entLt entIs x (l.drop (k+1)) true else e :: rsO entLt entIs x (l.drop (k+1)) d:=by
 rw [List.drop_eq_getElem_cons hk,← getD_at hk,he]
 rfl

theorem rsO_len (x:Ent):∀ (l:List Ent) (d:Bool),(rsO entLt entIs x l d).length≤l.length+1
 | [],d => by unfold rsO; split <;> simp
 | e :: t,d => by
  have ht:=rsO_drop (lt:=entLt) (eq:=entIs) t x
  have hd:(rsO entLt entIs x t true).length≤t.length:=by rw [ht]; exact List.length_filter_le _ _
  have:=rsO_len x t d
  unfold rsO
  split
  ·simp; omega
  ·split
   ·simp; omega
   ·simp; omega

theorem Cells7.later_at {W0 wr:World} {n:Nat} {x:Ent} (h:Cells7 W0 n 0 x) (hb:Below W0.heap.size W0 wr) (hs:W0.heap.size=n+1):Cells7 wr n 0 x :=
 cells7_at.2 fun j u hu => (hb.cell (p:=⟨n,0+j,none⟩) (by show n < W0.heap.size; omega)).trans (cells7_at.1 h j u hu)

theorem rset8_any {w:World} {v:Value} {l:List Ent} (hv:Ents w v l) (hl:l.length≤1000) (xo xc:List UInt8) (x1 x2 x3 x4 x5:Bool) (keep:Bool) :
  Calls Tryz.prog 179 #[v,.agg #[.string ⟨xo.toArray⟩,.string ⟨xc.toArray⟩,.bool x1,.bool x2,.bool x3,.bool x4,.bool x5],.bool keep] w fun e w' => ∃ u,e=.returned u∧OwnS entVals 7 126 w' w.heap.size u (rsO entLt entIs ⟨xo,xc,⟨x1,x2,x3,x4,x5⟩⟩ l (!keep))∧Below w.heap.size w w':=by
 have bn:=bl_newZ w (.cells #[.string ⟨xo.toArray⟩,.string ⟨xc.toArray⟩,.bool x1,.bool x2,.bool x3,.bool x4,.bool x5] 126)
 have B0:=hD bn
 have HV:=hD (hv.later bn)
 have K0:=hD (cells7_made w ⟨xo,xc,⟨x1,x2,x3,x4,x5⟩⟩ 126)
 have HSZ:=hD (show (w.alloc (.cells #[.string ⟨xo.toArray⟩,.string ⟨xc.toArray⟩,.bool x1,.bool x2,.bool x3,.bool x4,.bool x5] 126)).heap.size=w.heap.size+1 by simp)
 obtain⟨W0,hW0⟩ : ∃ W0,W0=w.alloc (.cells #[.string ⟨xo.toArray⟩,.string ⟨xc.toArray⟩,.bool x1,.bool x2,.bool x3,.bool x4,.bool x5] 126):=⟨_,rfl⟩
 rw [← hW0] at HSZ B0 HV K0
 have HW0:=hD hW0
 obtain⟨R,hR⟩ : ∃ R,rsO entLt entIs ⟨xo,xc,⟨x1,x2,x3,x4,x5⟩⟩ l (!keep)=R:=⟨_,rfl⟩
 rw [hR]
 have HRL:Hid (R.length≤1001):=by
  show _≤_
  rw [← hR]
  have:=rsO_len ⟨xo,xc,⟨x1,x2,x3,x4,x5⟩⟩ l (!keep)
  omega
 have HR:=hD hR
 obtain⟨a,cap,rfl,hm⟩:=hv.open'
 clear hv bn hR hW0
 go_enter Tryz.func179,Tryz.ntmps179
 go_wp2_with fail
 rw [← HW0.out]
 go_loopw [7,8,9] (fun s d i wr => ∃ (k:Nat) (dn:Bool) (out:List Ent) (sv:Value),k≤l.length∧i=.int .i64 k∧d=.bool dn∧sv=s∧Hid (OwnS entVals 7 126 wr W0.heap.size sv out)∧Hid (out ++ rsO entLt entIs ⟨xo,xc,⟨x1,x2,x3,x4,x5⟩⟩ (l.drop k) dn=R)∧Hid (Below W0.heap.size W0 wr)) (fun _ _ i _ => l.length - (intOf i).toNat)
 case atStart => exact⟨0,!keep,[],_,by omega,rfl,rfl,rfl,ownS_nil _ _,by show _=_; rw [List.nil_append,List.drop_zero]; exact HR.out,Below.refl _ _⟩
 case round =>
  obtain⟨k,dn,out,sv,hk,rfl,rfl,rfl,HO,HI,HN⟩:=hrel
  by_cases hlt:k < l.length
  ·obtain⟨b,off,rfl,hc⟩:=HV.out.row HN.out k hlt
   obtain⟨⟨eo,ec,⟨e1,e2,e3,e4,e5⟩⟩,hr⟩ : ∃ r,l.getD k Ent.zero=r:=⟨_,rfl⟩
   have hst:=rsO_step hlt hr ⟨xo,xc,⟨x1,x2,x3,x4,x5⟩⟩ dn
   rw [hr] at hc
   have HE:=hD hc
   have KX:=hD (K0.out.later_at HN.out HSZ.out)
   have hout:out.length≤1001:=by
    have h1:=congrArg List.length HI.out
    rw [List.length_append] at h1
    have:=HRL.out
    omega
   have HOL:=hD hout
   have hnn:(0:Int)≤(k:Int):=by omega
   have hli:(k:Int) < (l.length:Int):=by omega
   have t1:decide ((k:Int) < (l.length:Int))=true:=by simpa using hli
   have HER:=hD hr
   clear hr hc hout
   by_cases ho:eo=xo
   ·by_cases hc:ec=xc
    ·subst ho hc
     have hs:entIs ⟨eo,ec,⟨e1,e2,e3,e4,e5⟩⟩ ⟨eo,ec,⟨x1,x2,x3,x4,x5⟩⟩=true:=entIs_iff.2 ⟨rfl,rfl⟩
     rw [if_pos hs] at hst
     have HI2:Hid (out ++ rsO entLt entIs ⟨eo,ec,⟨x1,x2,x3,x4,x5⟩⟩ (l.drop (k+1)) dn=R):=by
      show _=_
      rw [← hst]
      exact HI.out
     clear hst hs
     obtain⟨q0,q1,q2,q3,q4,q5,q6⟩:=cells7_regrown HE.out
     obtain⟨k0,k1,k2,k3,k4,k5,k6⟩:=cells7_regrown KX.out
     simp only [Nat.zero_add] at k0 k1 k2 k3 k4 k5 k6
     try simp only at q0 q1 q2 q3 q4 q5 q6
     go_wp2_with fail
     refine wp_region_quiet_below (by kernel_rfl) (by kernel_rfl) ?_
     repeat (go_big_quiet_step (fail))
     refine wpQuiet_nil ?_
     intro w5 hw5
     have b5:=regrown_belowP hw5
     replace HE:=hD (HE.out.later b5)
     replace KX:=hD (KX.out.later b5)
     replace HO:=hD (HO.out.later b5)
     replace HN:=hD (below2S HN.out b5)
     clear hw5 b5 q0 q1 q2 q3 q4 q5 q6 k0 k1 k2 k3 k4 k5 k6
     go_wp2_with fail
     go_roundw
     case rel => exact⟨k+1,dn,out,_,by omega,by go_num,rfl,rfl,HO,HI2,HN⟩
     case measure => simp [intOf]; omega
    ·subst ho
     have t2:(eo == eo)=true:=by simp
     have t3:(ec == xc)=false:=by rw [beq_eq_false_iff_ne]; exact hc
     have hs:entIs ⟨eo,ec,⟨e1,e2,e3,e4,e5⟩⟩ ⟨eo,xc,⟨x1,x2,x3,x4,x5⟩⟩=false:=by
      rw [Bool.eq_false_iff]
      intro h'
      have h2:=entIs_iff.1 h'
      exact hc h2.2
     rw [if_neg (by rw [hs]; decide)] at hst
     cases dn with
     | true =>
      rw [if_neg (by simp)] at hst
      have HI2:Hid (out ++ [⟨eo,ec,⟨e1,e2,e3,e4,e5⟩⟩] ++ rsO entLt entIs ⟨eo,xc,⟨x1,x2,x3,x4,x5⟩⟩ (l.drop (k+1)) true=R):=by
       show _=_
       rw [List.append_assoc,List.singleton_append,← hst]
       exact HI.out
      clear hst hs
      obtain⟨q0,q1,q2,q3,q4,q5,q6⟩:=cells7_regrown HE.out
      obtain⟨k0,k1,k2,k3,k4,k5,k6⟩:=cells7_regrown KX.out
      simp only [Nat.zero_add] at k0 k1 k2 k3 k4 k5 k6
      try simp only at q0 q1 q2 q3 q4 q5 q6
      go_wp2_with fail
      refine wp_region_quiet_below (by kernel_rfl) (by kernel_rfl) ?_
      repeat (go_big_quiet_step (fail))
      refine wpQuiet_nil ?_
      intro w5 hw5
      have b5:=regrown_belowP hw5
      replace HE:=hD (HE.out.later b5)
      replace KX:=hD (KX.out.later b5)
      replace HO:=hD (HO.out.later b5)
      replace HN:=hD (below2S HN.out b5)
      clear hw5 b5 q0 q1 q2 q3 q4 q5 q6 k0 k1 k2 k3 k4 k5 k6
      go_wp2_with fail
      obtain⟨q0,q1,q2,q3,q4,q5,q6⟩:=cells7_regrown HE.out
      obtain⟨k0,k1,k2,k3,k4,k5,k6⟩:=cells7_regrown KX.out
      simp only [Nat.zero_add] at k0 k1 k2 k3 k4 k5 k6
      try simp only at q0 q1 q2 q3 q4 q5 q6
      refine wp_region_quiet_below (by kernel_rfl) (by kernel_rfl) ?_
      repeat (go_big_quiet_step (fail))
      refine wpQuiet_nil ?_
      intro w6 hw6
      have b6:=regrown_belowP hw6
      replace HE:=hD (HE.out.later b6)
      replace KX:=hD (KX.out.later b6)
      replace HO:=hD (HO.out.later b6)
      replace HN:=hD (below2S HN.out b6)
      clear hw6 b6 q0 q1 q2 q3 q4 q5 q6 k0 k1 k2 k3 k4 k5 k6
      obtain⟨q0,q1,q2,q3,q4,q5,q6⟩:=HE.out
      try simp only at q0 q1 q2 q3 q4 q5 q6
      have bb:=bl_newZ w6 (.cells #[.string ⟨eo.toArray⟩,.string ⟨ec.toArray⟩,.bool e1,.bool e2,.bool e3,.bool e4,.bool e5] 126)
      have O2:=hD (HO.out.later bb)
      have N2:=hD (below2S HN.out bb)
      have HS:=hD (srcS_new (vals:=entVals) (w:=w6) (r:=⟨eo,ec,⟨e1,e2,e3,e4,e5⟩⟩) (cs:=#[.string ⟨eo.toArray⟩,.string ⟨ec.toArray⟩,.bool e1,.bool e2,.bool e3,.bool e4,.bool e5]) rfl (e:=126) (B:=w6.heap.size) rfl)
      have HBS:=hD N2.out.size
      have HCL:Hid ((out).length+1 < 4294967296):=by show _ < _; have:=HOL.out; simp; omega
      clear bb
      go_wp2_with (at_builtin; go_must (refine wpList_append_S entOK rfl _ _ rfl W0.heap.size _ (out) rfl (by exact O2.out) _ 1 1 [⟨eo,ec,⟨e1,e2,e3,e4,e5⟩⟩] rfl rfl (fun e => nomatch e) ?c1 (by exact HCL.out) (by exact HBS.out) ?_))
      case c1 => first | exact HS.out _ rfl | exact HS.out
      intro v9 w9 hown hb'
      replace HO:=hD hown
      replace HN:=hD (N2.out.trans hb')
      clear hown O2 N2 HS HBS HCL
      clear q0 q1 q2 q3 q4 q5 q6
      go_wp2_with fail
      go_roundw
      case rel => exact⟨k+1,true,_,_,by omega,by go_num,rfl,rfl,HO,HI2,HN⟩
      case measure => simp [intOf]; omega
     | false =>
      obtain⟨p,hp⟩ : ∃ p,entLt ⟨eo,xc,⟨x1,x2,x3,x4,x5⟩⟩ ⟨eo,ec,⟨e1,e2,e3,e4,e5⟩⟩=p:=⟨_,rfl⟩
      have AH:=hD (rahead8_any eo xc x1 x2 x3 x4 x5 eo ec e1 e2 e3 e4 e5 (hD hp))
      rw [hp] at hst
      clear hp hs
      cases p with
      | false =>
       rw [if_neg (by simp)] at hst
       have HI2:Hid (out ++ [⟨eo,ec,⟨e1,e2,e3,e4,e5⟩⟩] ++ rsO entLt entIs ⟨eo,xc,⟨x1,x2,x3,x4,x5⟩⟩ (l.drop (k+1)) false=R):=by
        show _=_
        rw [List.append_assoc,List.singleton_append,← hst]
        exact HI.out
       clear hst
       obtain⟨q0,q1,q2,q3,q4,q5,q6⟩:=cells7_regrown HE.out
       obtain⟨k0,k1,k2,k3,k4,k5,k6⟩:=cells7_regrown KX.out
       simp only [Nat.zero_add] at k0 k1 k2 k3 k4 k5 k6
       try simp only at q0 q1 q2 q3 q4 q5 q6
       go_wp2_with fail
       refine wp_region_quiet_below (by kernel_rfl) (by kernel_rfl) ?_
       repeat (go_big_quiet_step (fail))
       refine wpQuiet_nil ?_
       intro w5 hw5
       have b5:=regrown_belowP hw5
       replace HE:=hD (HE.out.later b5)
       replace KX:=hD (KX.out.later b5)
       replace HO:=hD (HO.out.later b5)
       replace HN:=hD (below2S HN.out b5)
       clear hw5 b5 q0 q1 q2 q3 q4 q5 q6 k0 k1 k2 k3 k4 k5 k6
       go_wp2_with fail
       obtain⟨q0,q1,q2,q3,q4,q5,q6⟩:=cells7_regrown HE.out
       obtain⟨k0,k1,k2,k3,k4,k5,k6⟩:=cells7_regrown KX.out
       simp only [Nat.zero_add] at k0 k1 k2 k3 k4 k5 k6
       try simp only at q0 q1 q2 q3 q4 q5 q6
       refine wp_region_quiet_below (by kernel_rfl) (by kernel_rfl) ?_
       repeat (go_big_quiet_step (with_reducible exact rgB AH.out _ _ _))
       refine wpQuiet_nil ?_
       intro w6 hw6
       have b6:=regrown_belowP hw6
       replace HE:=hD (HE.out.later b6)
       replace KX:=hD (KX.out.later b6)
       replace HO:=hD (HO.out.later b6)
       replace HN:=hD (below2S HN.out b6)
       clear hw6 b6 q0 q1 q2 q3 q4 q5 q6 k0 k1 k2 k3 k4 k5 k6
       obtain⟨q0,q1,q2,q3,q4,q5,q6⟩:=HE.out
       try simp only at q0 q1 q2 q3 q4 q5 q6
       have bb:=bl_newZ w6 (.cells #[.string ⟨eo.toArray⟩,.string ⟨ec.toArray⟩,.bool e1,.bool e2,.bool e3,.bool e4,.bool e5] 126)
       have O2:=hD (HO.out.later bb)
       have N2:=hD (below2S HN.out bb)
       have HS:=hD (srcS_new (vals:=entVals) (w:=w6) (r:=⟨eo,ec,⟨e1,e2,e3,e4,e5⟩⟩) (cs:=#[.string ⟨eo.toArray⟩,.string ⟨ec.toArray⟩,.bool e1,.bool e2,.bool e3,.bool e4,.bool e5]) rfl (e:=126) (B:=w6.heap.size) rfl)
       have HBS:=hD N2.out.size
       have HCL:Hid ((out).length+1 < 4294967296):=by show _ < _; have:=HOL.out; simp; omega
       clear bb
       go_wp2_with (at_builtin; go_must (refine wpList_append_S entOK rfl _ _ rfl W0.heap.size _ (out) rfl (by exact O2.out) _ 1 1 [⟨eo,ec,⟨e1,e2,e3,e4,e5⟩⟩] rfl rfl (fun e => nomatch e) ?c1 (by exact HCL.out) (by exact HBS.out) ?_))
       case c1 => first | exact HS.out _ rfl | exact HS.out
       intro v9 w9 hown hb'
       replace HO:=hD hown
       replace HN:=hD (N2.out.trans hb')
       clear hown O2 N2 HS HBS HCL
       clear q0 q1 q2 q3 q4 q5 q6
       go_wp2_with fail
       go_roundw
       case rel => exact⟨k+1,false,_,_,by omega,by go_num,rfl,rfl,HO,HI2,HN⟩
       case measure => simp [intOf]; omega
      | true =>
       rw [if_pos (by simp)] at hst
       have HI2:Hid (out ++ [⟨eo,xc,⟨x1,x2,x3,x4,x5⟩⟩,⟨eo,ec,⟨e1,e2,e3,e4,e5⟩⟩] ++ rsO entLt entIs ⟨eo,xc,⟨x1,x2,x3,x4,x5⟩⟩ (l.drop (k+1)) true=R):=by
        show _=_
        rw [List.append_assoc,List.cons_append,List.singleton_append,← hst]
        exact HI.out
       clear hst
       obtain⟨q0,q1,q2,q3,q4,q5,q6⟩:=cells7_regrown HE.out
       obtain⟨k0,k1,k2,k3,k4,k5,k6⟩:=cells7_regrown KX.out
       simp only [Nat.zero_add] at k0 k1 k2 k3 k4 k5 k6
       try simp only at q0 q1 q2 q3 q4 q5 q6
       go_wp2_with fail
       refine wp_region_quiet_below (by kernel_rfl) (by kernel_rfl) ?_
       repeat (go_big_quiet_step (fail))
       refine wpQuiet_nil ?_
       intro w5 hw5
       have b5:=regrown_belowP hw5
       replace HE:=hD (HE.out.later b5)
       replace KX:=hD (KX.out.later b5)
       replace HO:=hD (HO.out.later b5)
       replace HN:=hD (below2S HN.out b5)
       clear hw5 b5 q0 q1 q2 q3 q4 q5 q6 k0 k1 k2 k3 k4 k5 k6
       go_wp2_with fail
       obtain⟨q0,q1,q2,q3,q4,q5,q6⟩:=cells7_regrown HE.out
       obtain⟨k0,k1,k2,k3,k4,k5,k6⟩:=cells7_regrown KX.out
       simp only [Nat.zero_add] at k0 k1 k2 k3 k4 k5 k6
       try simp only at q0 q1 q2 q3 q4 q5 q6
       refine wp_region_quiet_below (by kernel_rfl) (by kernel_rfl) ?_
       repeat (go_big_quiet_step (with_reducible exact rgB AH.out _ _ _))
       refine wpQuiet_nil ?_
       intro w6 hw6
       have b6:=regrown_belowP hw6
       replace HE:=hD (HE.out.later b6)
       replace KX:=hD (KX.out.later b6)
       replace HO:=hD (HO.out.later b6)
       replace HN:=hD (below2S HN.out b6)
       clear hw6 b6 q0 q1 q2 q3 q4 q5 q6 k0 k1 k2 k3 k4 k5 k6
       obtain⟨k0,k1,k2,k3,k4,k5,k6⟩:=KX.out
       simp only [Nat.zero_add] at k0 k1 k2 k3 k4 k5 k6
       have bb:=bl_newZ w6 (.cells #[.string ⟨eo.toArray⟩,.string ⟨xc.toArray⟩,.bool x1,.bool x2,.bool x3,.bool x4,.bool x5] 126)
       have O2:=hD (HO.out.later bb)
       have N2:=hD (below2S HN.out bb)
       have HS:=hD (srcS_new (vals:=entVals) (w:=w6) (r:=⟨eo,xc,⟨x1,x2,x3,x4,x5⟩⟩) (cs:=#[.string ⟨eo.toArray⟩,.string ⟨xc.toArray⟩,.bool x1,.bool x2,.bool x3,.bool x4,.bool x5]) rfl (e:=126) (B:=w6.heap.size) rfl)
       have HBS:=hD N2.out.size
       have HCL:Hid ((out).length+1 < 4294967296):=by show _ < _; have:=HOL.out; simp; omega
       clear bb
       go_wp2_with (at_builtin; go_must (refine wpList_append_S entOK rfl _ _ rfl W0.heap.size _ (out) rfl (by exact O2.out) _ 1 1 [⟨eo,xc,⟨x1,x2,x3,x4,x5⟩⟩] rfl rfl (fun e => nomatch e) ?c1 (by exact HCL.out) (by exact HBS.out) ?_))
       case c1 => first | exact HS.out _ rfl | exact HS.out
       intro v8 w8 hown hb'
       replace HO:=hD hown
       replace HN:=hD (N2.out.trans hb')
       clear hown O2 N2 HS HBS HCL
       have HE8:=(HV.out.row HN.out k hlt)
       rw [HER.out] at HE8
       obtain⟨b8,off8,e8,hc8⟩:=HE8
       injection e8 with e8
       injection e8 with e9 e10 _
       subst e9 e10
       replace HE:=hD hc8
       clear hc8
       clear k0 k1 k2 k3 k4 k5 k6
       obtain⟨q0,q1,q2,q3,q4,q5,q6⟩:=HE.out
       try simp only at q0 q1 q2 q3 q4 q5 q6
       have bb:=bl_newZ w8 (.cells #[.string ⟨eo.toArray⟩,.string ⟨ec.toArray⟩,.bool e1,.bool e2,.bool e3,.bool e4,.bool e5] 126)
       have O2:=hD (HO.out.later bb)
       have N2:=hD (below2S HN.out bb)
       have HS:=hD (srcS_new (vals:=entVals) (w:=w8) (r:=⟨eo,ec,⟨e1,e2,e3,e4,e5⟩⟩) (cs:=#[.string ⟨eo.toArray⟩,.string ⟨ec.toArray⟩,.bool e1,.bool e2,.bool e3,.bool e4,.bool e5]) rfl (e:=126) (B:=w8.heap.size) rfl)
       have HBS:=hD N2.out.size
       have HCL:Hid ((out ++ ([⟨eo,xc,⟨x1,x2,x3,x4,x5⟩⟩]:List Ent)).length+1 < 4294967296):=by show _ < _; have:=HOL.out; simp; omega
       clear bb
       go_wp2_with (at_builtin; go_must (refine wpList_append_S entOK rfl _ _ rfl W0.heap.size _ (out ++ ([⟨eo,xc,⟨x1,x2,x3,x4,x5⟩⟩]:List Ent)) rfl (by exact O2.out) _ 1 1 [⟨eo,ec,⟨e1,e2,e3,e4,e5⟩⟩] rfl rfl (fun e => nomatch e) ?c1 (by exact HCL.out) (by exact HBS.out) ?_))
       case c1 => first | exact HS.out _ rfl | exact HS.out
       intro v9 w9 hown hb'
       replace HO:=hD hown
       replace HN:=hD (N2.out.trans hb')
       clear hown O2 N2 HS HBS HCL
       clear q0 q1 q2 q3 q4 q5 q6
       go_wp2_with fail
       go_roundw
       case rel => exact⟨k+1,true,_,_,by omega,by go_num,rfl,rfl,HO,HI2,HN⟩
       case measure => simp [intOf]; omega

   ·skip
    have t2:(eo == xo)=false:=by rw [beq_eq_false_iff_ne]; exact ho
    have hs:entIs ⟨eo,ec,⟨e1,e2,e3,e4,e5⟩⟩ ⟨xo,xc,⟨x1,x2,x3,x4,x5⟩⟩=false:=by
     rw [Bool.eq_false_iff]
     intro h'
     have h2:=entIs_iff.1 h'
     exact ho h2.1
    rw [if_neg (by rw [hs]; decide)] at hst
    cases dn with
    | true =>
     rw [if_neg (by simp)] at hst
     have HI2:Hid (out ++ [⟨eo,ec,⟨e1,e2,e3,e4,e5⟩⟩] ++ rsO entLt entIs ⟨xo,xc,⟨x1,x2,x3,x4,x5⟩⟩ (l.drop (k+1)) true=R):=by
      show _=_
      rw [List.append_assoc,List.singleton_append,← hst]
      exact HI.out
     clear hst hs
     obtain⟨q0,q1,q2,q3,q4,q5,q6⟩:=cells7_regrown HE.out
     obtain⟨k0,k1,k2,k3,k4,k5,k6⟩:=cells7_regrown KX.out
     simp only [Nat.zero_add] at k0 k1 k2 k3 k4 k5 k6
     try simp only at q0 q1 q2 q3 q4 q5 q6
     go_wp2_with fail
     refine wp_region_quiet_below (by kernel_rfl) (by kernel_rfl) ?_
     repeat (go_big_quiet_step (fail))
     refine wpQuiet_nil ?_
     intro w5 hw5
     have b5:=regrown_belowP hw5
     replace HE:=hD (HE.out.later b5)
     replace KX:=hD (KX.out.later b5)
     replace HO:=hD (HO.out.later b5)
     replace HN:=hD (below2S HN.out b5)
     clear hw5 b5 q0 q1 q2 q3 q4 q5 q6 k0 k1 k2 k3 k4 k5 k6
     go_wp2_with fail
     obtain⟨q0,q1,q2,q3,q4,q5,q6⟩:=cells7_regrown HE.out
     obtain⟨k0,k1,k2,k3,k4,k5,k6⟩:=cells7_regrown KX.out
     simp only [Nat.zero_add] at k0 k1 k2 k3 k4 k5 k6
     try simp only at q0 q1 q2 q3 q4 q5 q6
     refine wp_region_quiet_below (by kernel_rfl) (by kernel_rfl) ?_
     repeat (go_big_quiet_step (fail))
     refine wpQuiet_nil ?_
     intro w6 hw6
     have b6:=regrown_belowP hw6
     replace HE:=hD (HE.out.later b6)
     replace KX:=hD (KX.out.later b6)
     replace HO:=hD (HO.out.later b6)
     replace HN:=hD (below2S HN.out b6)
     clear hw6 b6 q0 q1 q2 q3 q4 q5 q6 k0 k1 k2 k3 k4 k5 k6
     obtain⟨q0,q1,q2,q3,q4,q5,q6⟩:=HE.out
     try simp only at q0 q1 q2 q3 q4 q5 q6
     have bb:=bl_newZ w6 (.cells #[.string ⟨eo.toArray⟩,.string ⟨ec.toArray⟩,.bool e1,.bool e2,.bool e3,.bool e4,.bool e5] 126)
     have O2:=hD (HO.out.later bb)
     have N2:=hD (below2S HN.out bb)
     have HS:=hD (srcS_new (vals:=entVals) (w:=w6) (r:=⟨eo,ec,⟨e1,e2,e3,e4,e5⟩⟩) (cs:=#[.string ⟨eo.toArray⟩,.string ⟨ec.toArray⟩,.bool e1,.bool e2,.bool e3,.bool e4,.bool e5]) rfl (e:=126) (B:=w6.heap.size) rfl)
     have HBS:=hD N2.out.size
     have HCL:Hid ((out).length+1 < 4294967296):=by show _ < _; have:=HOL.out; simp; omega
     clear bb
     go_wp2_with (at_builtin; go_must (refine wpList_append_S entOK rfl _ _ rfl W0.heap.size _ (out) rfl (by exact O2.out) _ 1 1 [⟨eo,ec,⟨e1,e2,e3,e4,e5⟩⟩] rfl rfl (fun e => nomatch e) ?c1 (by exact HCL.out) (by exact HBS.out) ?_))
     case c1 => first | exact HS.out _ rfl | exact HS.out
     intro v9 w9 hown hb'
     replace HO:=hD hown
     replace HN:=hD (N2.out.trans hb')
     clear hown O2 N2 HS HBS HCL
     clear q0 q1 q2 q3 q4 q5 q6
     go_wp2_with fail
     go_roundw
     case rel => exact⟨k+1,true,_,_,by omega,by go_num,rfl,rfl,HO,HI2,HN⟩
     case measure => simp [intOf]; omega
    | false =>
     obtain⟨p,hp⟩ : ∃ p,entLt ⟨xo,xc,⟨x1,x2,x3,x4,x5⟩⟩ ⟨eo,ec,⟨e1,e2,e3,e4,e5⟩⟩=p:=⟨_,rfl⟩
     have AH:=hD (rahead8_any xo xc x1 x2 x3 x4 x5 eo ec e1 e2 e3 e4 e5 (hD hp))
     rw [hp] at hst
     clear hp hs
     cases p with
     | false =>
      rw [if_neg (by simp)] at hst
      have HI2:Hid (out ++ [⟨eo,ec,⟨e1,e2,e3,e4,e5⟩⟩] ++ rsO entLt entIs ⟨xo,xc,⟨x1,x2,x3,x4,x5⟩⟩ (l.drop (k+1)) false=R):=by
       show _=_
       rw [List.append_assoc,List.singleton_append,← hst]
       exact HI.out
      clear hst
      obtain⟨q0,q1,q2,q3,q4,q5,q6⟩:=cells7_regrown HE.out
      obtain⟨k0,k1,k2,k3,k4,k5,k6⟩:=cells7_regrown KX.out
      simp only [Nat.zero_add] at k0 k1 k2 k3 k4 k5 k6
      try simp only at q0 q1 q2 q3 q4 q5 q6
      go_wp2_with fail
      refine wp_region_quiet_below (by kernel_rfl) (by kernel_rfl) ?_
      repeat (go_big_quiet_step (fail))
      refine wpQuiet_nil ?_
      intro w5 hw5
      have b5:=regrown_belowP hw5
      replace HE:=hD (HE.out.later b5)
      replace KX:=hD (KX.out.later b5)
      replace HO:=hD (HO.out.later b5)
      replace HN:=hD (below2S HN.out b5)
      clear hw5 b5 q0 q1 q2 q3 q4 q5 q6 k0 k1 k2 k3 k4 k5 k6
      go_wp2_with fail
      obtain⟨q0,q1,q2,q3,q4,q5,q6⟩:=cells7_regrown HE.out
      obtain⟨k0,k1,k2,k3,k4,k5,k6⟩:=cells7_regrown KX.out
      simp only [Nat.zero_add] at k0 k1 k2 k3 k4 k5 k6
      try simp only at q0 q1 q2 q3 q4 q5 q6
      refine wp_region_quiet_below (by kernel_rfl) (by kernel_rfl) ?_
      repeat (go_big_quiet_step (with_reducible exact rgB AH.out _ _ _))
      refine wpQuiet_nil ?_
      intro w6 hw6
      have b6:=regrown_belowP hw6
      replace HE:=hD (HE.out.later b6)
      replace KX:=hD (KX.out.later b6)
      replace HO:=hD (HO.out.later b6)
      replace HN:=hD (below2S HN.out b6)
      clear hw6 b6 q0 q1 q2 q3 q4 q5 q6 k0 k1 k2 k3 k4 k5 k6
      obtain⟨q0,q1,q2,q3,q4,q5,q6⟩:=HE.out
      try simp only at q0 q1 q2 q3 q4 q5 q6
      have bb:=bl_newZ w6 (.cells #[.string ⟨eo.toArray⟩,.string ⟨ec.toArray⟩,.bool e1,.bool e2,.bool e3,.bool e4,.bool e5] 126)
      have O2:=hD (HO.out.later bb)
      have N2:=hD (below2S HN.out bb)
      have HS:=hD (srcS_new (vals:=entVals) (w:=w6) (r:=⟨eo,ec,⟨e1,e2,e3,e4,e5⟩⟩) (cs:=#[.string ⟨eo.toArray⟩,.string ⟨ec.toArray⟩,.bool e1,.bool e2,.bool e3,.bool e4,.bool e5]) rfl (e:=126) (B:=w6.heap.size) rfl)
      have HBS:=hD N2.out.size
      have HCL:Hid ((out).length+1 < 4294967296):=by show _ < _; have:=HOL.out; simp; omega
      clear bb
      go_wp2_with (at_builtin; go_must (refine wpList_append_S entOK rfl _ _ rfl W0.heap.size _ (out) rfl (by exact O2.out) _ 1 1 [⟨eo,ec,⟨e1,e2,e3,e4,e5⟩⟩] rfl rfl (fun e => nomatch e) ?c1 (by exact HCL.out) (by exact HBS.out) ?_))
      case c1 => first | exact HS.out _ rfl | exact HS.out
      intro v9 w9 hown hb'
      replace HO:=hD hown
      replace HN:=hD (N2.out.trans hb')
      clear hown O2 N2 HS HBS HCL
      clear q0 q1 q2 q3 q4 q5 q6
      go_wp2_with fail
      go_roundw
      case rel => exact⟨k+1,false,_,_,by omega,by go_num,rfl,rfl,HO,HI2,HN⟩
      case measure => simp [intOf]; omega
     | true =>
      rw [if_pos (by simp)] at hst
      have HI2:Hid (out ++ [⟨xo,xc,⟨x1,x2,x3,x4,x5⟩⟩,⟨eo,ec,⟨e1,e2,e3,e4,e5⟩⟩] ++ rsO entLt entIs ⟨xo,xc,⟨x1,x2,x3,x4,x5⟩⟩ (l.drop (k+1)) true=R):=by
       show _=_
       rw [List.append_assoc,List.cons_append,List.singleton_append,← hst]
       exact HI.out
      clear hst
      obtain⟨q0,q1,q2,q3,q4,q5,q6⟩:=cells7_regrown HE.out
      obtain⟨k0,k1,k2,k3,k4,k5,k6⟩:=cells7_regrown KX.out
      simp only [Nat.zero_add] at k0 k1 k2 k3 k4 k5 k6
      try simp only at q0 q1 q2 q3 q4 q5 q6
      go_wp2_with fail
      refine wp_region_quiet_below (by kernel_rfl) (by kernel_rfl) ?_
      repeat (go_big_quiet_step (fail))
      refine wpQuiet_nil ?_
      intro w5 hw5
      have b5:=regrown_belowP hw5
      replace HE:=hD (HE.out.later b5)
      replace KX:=hD (KX.out.later b5)
      replace HO:=hD (HO.out.later b5)
      replace HN:=hD (below2S HN.out b5)
      clear hw5 b5 q0 q1 q2 q3 q4 q5 q6 k0 k1 k2 k3 k4 k5 k6
      go_wp2_with fail
      obtain⟨q0,q1,q2,q3,q4,q5,q6⟩:=cells7_regrown HE.out
      obtain⟨k0,k1,k2,k3,k4,k5,k6⟩:=cells7_regrown KX.out
      simp only [Nat.zero_add] at k0 k1 k2 k3 k4 k5 k6
      try simp only at q0 q1 q2 q3 q4 q5 q6
      refine wp_region_quiet_below (by kernel_rfl) (by kernel_rfl) ?_
      repeat (go_big_quiet_step (with_reducible exact rgB AH.out _ _ _))
      refine wpQuiet_nil ?_
      intro w6 hw6
      have b6:=regrown_belowP hw6
      replace HE:=hD (HE.out.later b6)
      replace KX:=hD (KX.out.later b6)
      replace HO:=hD (HO.out.later b6)
      replace HN:=hD (below2S HN.out b6)
      clear hw6 b6 q0 q1 q2 q3 q4 q5 q6 k0 k1 k2 k3 k4 k5 k6
      obtain⟨k0,k1,k2,k3,k4,k5,k6⟩:=KX.out
      simp only [Nat.zero_add] at k0 k1 k2 k3 k4 k5 k6
      have bb:=bl_newZ w6 (.cells #[.string ⟨xo.toArray⟩,.string ⟨xc.toArray⟩,.bool x1,.bool x2,.bool x3,.bool x4,.bool x5] 126)
      have O2:=hD (HO.out.later bb)
      have N2:=hD (below2S HN.out bb)
      have HS:=hD (srcS_new (vals:=entVals) (w:=w6) (r:=⟨xo,xc,⟨x1,x2,x3,x4,x5⟩⟩) (cs:=#[.string ⟨xo.toArray⟩,.string ⟨xc.toArray⟩,.bool x1,.bool x2,.bool x3,.bool x4,.bool x5]) rfl (e:=126) (B:=w6.heap.size) rfl)
      have HBS:=hD N2.out.size
      have HCL:Hid ((out).length+1 < 4294967296):=by show _ < _; have:=HOL.out; simp; omega
      clear bb
      go_wp2_with (at_builtin; go_must (refine wpList_append_S entOK rfl _ _ rfl W0.heap.size _ (out) rfl (by exact O2.out) _ 1 1 [⟨xo,xc,⟨x1,x2,x3,x4,x5⟩⟩] rfl rfl (fun e => nomatch e) ?c1 (by exact HCL.out) (by exact HBS.out) ?_))
      case c1 => first | exact HS.out _ rfl | exact HS.out
      intro v8 w8 hown hb'
      replace HO:=hD hown
      replace HN:=hD (N2.out.trans hb')
      clear hown O2 N2 HS HBS HCL
      have HE8:=(HV.out.row HN.out k hlt)
      rw [HER.out] at HE8
      obtain⟨b8,off8,e8,hc8⟩:=HE8
      injection e8 with e8
      injection e8 with e9 e10 _
      subst e9 e10
      replace HE:=hD hc8
      clear hc8
      clear k0 k1 k2 k3 k4 k5 k6
      obtain⟨q0,q1,q2,q3,q4,q5,q6⟩:=HE.out
      try simp only at q0 q1 q2 q3 q4 q5 q6
      have bb:=bl_newZ w8 (.cells #[.string ⟨eo.toArray⟩,.string ⟨ec.toArray⟩,.bool e1,.bool e2,.bool e3,.bool e4,.bool e5] 126)
      have O2:=hD (HO.out.later bb)
      have N2:=hD (below2S HN.out bb)
      have HS:=hD (srcS_new (vals:=entVals) (w:=w8) (r:=⟨eo,ec,⟨e1,e2,e3,e4,e5⟩⟩) (cs:=#[.string ⟨eo.toArray⟩,.string ⟨ec.toArray⟩,.bool e1,.bool e2,.bool e3,.bool e4,.bool e5]) rfl (e:=126) (B:=w8.heap.size) rfl)
      have HBS:=hD N2.out.size
      have HCL:Hid ((out ++ ([⟨xo,xc,⟨x1,x2,x3,x4,x5⟩⟩]:List Ent)).length+1 < 4294967296):=by show _ < _; have:=HOL.out; simp; omega
      clear bb
      go_wp2_with (at_builtin; go_must (refine wpList_append_S entOK rfl _ _ rfl W0.heap.size _ (out ++ ([⟨xo,xc,⟨x1,x2,x3,x4,x5⟩⟩]:List Ent)) rfl (by exact O2.out) _ 1 1 [⟨eo,ec,⟨e1,e2,e3,e4,e5⟩⟩] rfl rfl (fun e => nomatch e) ?c1 (by exact HCL.out) (by exact HBS.out) ?_))
      case c1 => first | exact HS.out _ rfl | exact HS.out
      intro v9 w9 hown hb'
      replace HO:=hD hown
      replace HN:=hD (N2.out.trans hb')
      clear hown O2 N2 HS HBS HCL
      clear q0 q1 q2 q3 q4 q5 q6
      go_wp2_with fail
      go_roundw
      case rel => exact⟨k+1,true,_,_,by omega,by go_num,rfl,rfl,HO,HI2,HN⟩
      case measure => simp [intOf]; omega

  ·obtain rfl:k=l.length:=by omega
   have hI:=HI.out
   rw [List.drop_length] at hI
   have hwz:Hid (w.heap.size≤W0.heap.size):=by show _≤_; have:=HSZ.out; omega
   have HOL:Hid (out.length≤1001):=by
    show _≤_
    have h1:=congrArg List.length HI.out
    rw [List.length_append] at h1
    have:=HRL.out
    omega
   cases dn with
   | true =>
    have HI2:Hid (out=R):=by
     show _=_
     rw [← hI]
     unfold rsO
     simp
    clear hI
    go_wp2_with fail
    go_ret
    exact⟨_,rfl,by rw [← HI2.out]; exact ownS_low HO.out hwz.out,B0.out.trans (HN.out.mono hwz.out)⟩
   | false =>
    have HI2:Hid (out ++ [⟨xo,xc,⟨x1,x2,x3,x4,x5⟩⟩]=R):=by
     show _=_
     rw [← hI]
     unfold rsO
     simp
    have KX:=hD (K0.out.later_at HN.out HSZ.out)
    clear hI
    obtain⟨k0,k1,k2,k3,k4,k5,k6⟩:=KX.out
    simp only [Nat.zero_add] at k0 k1 k2 k3 k4 k5 k6
    have bb:=bl_newZ wr (.cells #[.string ⟨xo.toArray⟩,.string ⟨xc.toArray⟩,.bool x1,.bool x2,.bool x3,.bool x4,.bool x5] 126)
    have O2:=hD (HO.out.later bb)
    have N2:=hD (below2S HN.out bb)
    have HS:=hD (srcS_new (vals:=entVals) (w:=wr) (r:=⟨xo,xc,⟨x1,x2,x3,x4,x5⟩⟩) (cs:=#[.string ⟨xo.toArray⟩,.string ⟨xc.toArray⟩,.bool x1,.bool x2,.bool x3,.bool x4,.bool x5]) rfl (e:=126) (B:=wr.heap.size) rfl)
    have HBS:=hD N2.out.size
    have HCL:Hid ((out).length+1 < 4294967296):=by show _ < _; have:=HOL.out; simp; omega
    clear bb
    go_wp2_with (at_builtin; go_must (refine wpList_append_S entOK rfl _ _ rfl W0.heap.size _ (out) rfl (by exact O2.out) _ 1 1 [⟨xo,xc,⟨x1,x2,x3,x4,x5⟩⟩] rfl rfl (fun e => nomatch e) ?c1 (by exact HCL.out) (by exact HBS.out) ?_))
    case c1 => first | exact HS.out _ rfl | exact HS.out
    intro v8 w8 hown hb'
    replace HO:=hD hown
    replace HN:=hD (N2.out.trans hb')
    clear hown O2 N2 HS HBS HCL
    clear k0 k1 k2 k3 k4 k5 k6
    go_wp2_with fail
    go_ret
    exact⟨_,rfl,by rw [← HI2.out]; exact ownS_low HO.out hwz.out,B0.out.trans (HN.out.mono hwz.out)⟩

end Go.Proofs.YtphfinlfabklmaaGreat
