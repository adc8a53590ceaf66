/-
 TEXTS OF THE PROOF, one behind the other: PacRef, LnkRef, LnkW.
-/
import Derived.Test.YtfocooajnignbaaW08
import Derived.Test.YtfocooajnignbaaW05
import Derived.Test.YtfocooajnignbaaW07
import Derived.Laws.StructEq
import Derived.Deep.Cut
import Derived.Test.YtfocooajnignbaaW11

set_option maxHeartbeats 12800000
set_option maxRecDepth 100000

namespace Go.Proofs.Ytfocooajnignbaa
section
open Go.RowKit

theorem rpmay_any (a b d e:Int) {r:Bool} (h:Hid (pcMay ⟨a,b,d,e⟩=r)) (w:World) :
  Calls Try.prog 5 #[.agg #[.int .i64 a,.int .i64 b,.int .i64 d,.int .i64 e]] w fun e w' => e=.returned (.bool r)∧Below w.heap.size w w':=by
 have B0:=hZq (bl_newZ w (.cells #[.int .i64 a,.int .i64 b,.int .i64 d,.int .i64 e] 23))
 have HR:=h.out
 unfold pcMay at HR
 simp only at HR
 clear h
 cases t0:decide (1≤a) with
 | false =>
  rw [t0] at HR
  obtain rfl:false=r:=HR
  go_enter Try.func5,Try.ntmps5
  go_wp2_with fail
  go_ret
  exact⟨rfl,B0.out⟩
 | true =>
  cases t1:decide (a≤16) with
  | false =>
   rw [t0,t1] at HR
   obtain rfl:false=r:=HR
   go_enter Try.func5,Try.ntmps5
   go_wp2_with fail
   go_ret
   exact⟨rfl,B0.out⟩
  | true =>
   cases t2:decide (1≤b) with
   | false =>
    rw [t0,t1,t2] at HR
    obtain rfl:false=r:=HR
    go_enter Try.func5,Try.ntmps5
    go_wp2_with fail
    go_ret
    exact⟨rfl,B0.out⟩
   | true =>
    cases t3:decide (b≤64) with
    | false =>
     rw [t0,t1,t2,t3] at HR
     obtain rfl:false=r:=HR
     go_enter Try.func5,Try.ntmps5
     go_wp2_with fail
     go_ret
     exact⟨rfl,B0.out⟩
    | true =>
     cases t4:decide (1≤d) with
     | false =>
      rw [t0,t1,t2,t3,t4] at HR
      obtain rfl:false=r:=HR
      go_enter Try.func5,Try.ntmps5
      go_wp2_with fail
      go_ret
      exact⟨rfl,B0.out⟩
     | true =>
      cases t5:decide (d≤16) with
      | false =>
       rw [t0,t1,t2,t3,t4,t5] at HR
       obtain rfl:false=r:=HR
       go_enter Try.func5,Try.ntmps5
       go_wp2_with fail
       go_ret
       exact⟨rfl,B0.out⟩
      | true =>
       cases t6:decide (1≤e) with
       | false =>
        rw [t0,t1,t2,t3,t4,t5,t6] at HR
        obtain rfl:false=r:=HR
        go_enter Try.func5,Try.ntmps5
        go_wp2_with fail
        go_ret
        exact⟨rfl,B0.out⟩
       | true =>
        cases t7:decide (e≤1000) with
        | false =>
         rw [t0,t1,t2,t3,t4,t5,t6,t7] at HR
         obtain rfl:false=r:=HR
         go_enter Try.func5,Try.ntmps5
         go_wp2_with fail
         go_ret
         exact⟨rfl,B0.out⟩
        | true =>
         rw [t0,t1,t2,t3,t4,t5,t6,t7] at HR
         obtain rfl:true=r:=HR
         go_enter Try.func5,Try.ntmps5
         go_wp2_with fail
         go_ret
         exact⟨rfl,B0.out⟩
end
section
open Go.RowKit

set_option linter.unusedSimpArgs false

theorem bkt_eqInL (d:Nat) (a b a' b':Int) (w:World) :
  (Op.equalIn (d+1+1) 31 (.agg #[.int .i64 a,.int .i64 b]) (.agg #[.int .i64 a',.int .i64 b'])).run Try.prog w=.ok (decide (a=a') && decide (b=b')) w:=by
 have hS:Try.prog.underlying 31=some (.struct (Try.prog.fieldsOf 31)):=by kernel_rfl
 have hp:Try.prog.stoodInHeld 31=false:=by kernel_rfl
 have u3:=Try.underlying3
 have a3:=Try.isAgg3
 have z3:=Try.sizeOf3
 rw [run_equalIn_agg w (d+1) 31 _ _ hS hp]
 simp only [Program.fieldsOf,Try.underlying31]
 go_simp
 by_cases h1:a=a' <;> by_cases h2:b=b' <;> simp [h1,h2]

theorem bkt_eqlL (a b a' b':Int) {r:Bool} (h:(decide (a=a') && decide (b=b'))=r):∀ w,(binOp .eql 31 (.agg #[.int .i64 a,.int .i64 b]) (.agg #[.int .i64 a',.int .i64 b'])).run Try.prog w=.ok (.bool r) w:=fun w => by
 rw [run_eql_struct,show (10000:Nat)=9998+1+1 from rfl,bkt_eqInL 9998,h]
 rfl

theorem bool_eqlL (q:Bool):(q == q)=true:=by cases q <;> rfl

theorem rlsame_yes {w:World} {v u:Value} {l:List Chg} (hv:Chgs w v l) (hu:Chgs w u l) (la sn:Bool) (seq tok at' dg:Int) :
  Calls Try.prog 12 #[.agg #[.int .i64 seq,v,.bool la,.int .i64 tok,.int .i64 at',.bool sn,.int .i64 dg],.agg #[.int .i64 seq,u,.bool la,.int .i64 tok,.int .i64 at',.bool sn,.int .i64 dg]] w fun e w' => e=.returned (.bool true)∧Below w.heap.size w w':=by
 obtain⟨n,hn⟩ : ∃ n,l.length=n:=⟨_,rfl⟩
 obtain⟨ao,cap,rfl⟩:=chgs_shape hv hn
 obtain⟨ao2,cap2,rfl⟩:=chgs_shape hu hn
 obtain⟨LB,MB,HB⟩:=ent2 w (.cells #[.int .i64 seq,.slice ao n cap,.bool la,.int .i64 tok,.int .i64 at',.bool sn,.int .i64 dg] 33) (.cells #[.int .i64 seq,.slice ao2 n cap2,.bool la,.int .i64 tok,.int .i64 at',.bool sn,.int .i64 dg] 33)
 have V:=hZq (hv.later HB.out)
 have U:=hZq (hu.later HB.out)
 clear hv hu hn
 have e1:=bkt_eqlL tok at' tok at' (r:=true) (by simp)
 have e2:=bool_eqlL la
 have e3:=bool_eqlL sn
 have LBo:=blk7 LB.out
 have MBo:=blk7 MB.out
 go_enter Try.func12,Try.ntmps12
 go_wp2_with fail
 clear LBo MBo
 refine (qusame_any V.out U.out la la (hZq (quSame_self _))).mono ?_
 rintro e w3 ⟨rfl,b3⟩
 replace LB:=hZq (upQ LB.out b3)
 replace MB:=hZq (upQ MB.out b3)
 replace V:=hZq (V.out.later b3)
 replace U:=hZq (U.out.later b3)
 replace HB:=hZq (below2Z HB.out b3)
 clear b3
 have LBo:=blk7 LB.out
 have MBo:=blk7 MB.out
 go_wp2_with fail
 go_ret
 exact⟨rfl,HB.out⟩
end
section
open Go.RowKit

theorem lemit_eq {w:World} {v vt:Value} {ql:List Chg} {view:List Row} (hv:Chgs w v ql) (ht:Tab w vt view) (hs:ShortC ql) (hl:ql.length≤100) (hsh:Short view) (ca cb cd ce seq tok at' dg now:Int) (la sn:Bool)
  {ms mt ma md:Int} {mq:List Chg} {ml mn:Bool} {fs:List Frm} (hr:Hid (lnEmit ⟨ca,cb,cd,ce⟩ ⟨seq,⟨ql,la⟩,⟨tok,at'⟩,sn,dg⟩ view now=(⟨ms,⟨mq,ml⟩,⟨mt,ma⟩,mn,md⟩,fs))) :
  Calls Try.prog 9 #[.agg #[.int .i64 ca,.int .i64 cb,.int .i64 cd,.int .i64 ce],.agg #[.int .i64 seq,v,.bool la,.int .i64 tok,.int .i64 at',.bool sn,.int .i64 dg],vt,.int .i64 now] w fun e w' =>
   ∃ u fv ps,e=.returned (.tuple #[.agg #[.int .i64 ms,u,.bool ml,.int .i64 mt,.int .i64 ma,.bool mn,.int .i64 md],fv])∧Chgs w' u mq∧KF w w' fv ps∧ps.map FrS.f=fs∧Below w.heap.size w w' :=
 lemit_any hv ht hs hl hsh ca cb cd ce seq tok at' dg now la sn hr

theorem lpush_eq {w:World} {v:Value} {l:List Chg} (hv:Chgs w v l) (hl:l.length≤1000) (la sn:Bool) (ca cb cd ce seq tok at' dg xa xb xd:Int) (xo:Bool) (xc xs:List UInt8) {ms mt ma md:Int} {mq:List Chg} {ml mn:Bool}
  (hr:Hid (lnPush ⟨ca,cb,cd,ce⟩ ⟨seq,⟨l,la⟩,⟨tok,at'⟩,sn,dg⟩ ⟨xc,xo,⟨xa,xb,xd,xs⟩⟩=⟨ms,⟨mq,ml⟩,⟨mt,ma⟩,mn,md⟩)) :
  Calls Try.prog 10 #[.agg #[.int .i64 ca,.int .i64 cb,.int .i64 cd,.int .i64 ce],.agg #[.int .i64 seq,v,.bool la,.int .i64 tok,.int .i64 at',.bool sn,.int .i64 dg],.agg #[.string ⟨xc.toArray⟩,.bool xo,.int .i64 xa,.int .i64 xb,.int .i64 xd,.string ⟨xs.toArray⟩]] w fun e w' => ∃ u,e=.returned (.agg #[.int .i64 ms,u,.bool ml,.int .i64 mt,.int .i64 ma,.bool mn,.int .i64 md])∧Chgs w' u mq∧Below w.heap.size w w' :=
 lpush_any hv hl la sn ca cb cd ce seq tok at' dg xa xb xd xo xc xs hr

theorem lnew_eq (ca cb cd ce now:Int) {ms mt ma md:Int} {ml mn:Bool} {mq:List Chg} {n:Nat} (hr:Hid (lnNew ⟨ca,cb,cd,ce⟩ now=(⟨ms,⟨mq,ml⟩,⟨mt,ma⟩,mn,md⟩,n))) (w:World) :
  Calls Try.prog 7 #[.agg #[.int .i64 ca,.int .i64 cb,.int .i64 cd,.int .i64 ce],.int .i64 now] w fun e w' => e=.returned (.tuple #[.agg #[.int .i64 ms,.slice none 0 0,.bool ml,.int .i64 mt,.int .i64 ma,.bool mn,.int .i64 md],.int .i64 n])∧Below w.heap.size w w' :=
 (lnew_any ca cb cd ce now hr w).mono fun _ _ ⟨h1,_,h3⟩ => ⟨h1,h3⟩

def frCells (f:Frm) (tv:Value):List Value:=[.int .i64 f.k,.int .i64 f.s,.bool f.on,.string ⟨f.c.toArray⟩,.int .i64 f.v.sh,.int .i64 f.v.pr,.int .i64 f.v.si,.string ⟨f.v.st.toArray⟩,.int .u64 f.sum,tv]

theorem kf_cells {w W:World} {v:Value} {ps:List FrS} {fs:List Frm} (h:KF w W v ps) (hm:ps.map FrS.f=fs) :
  ∃ a c,v=.slice a fs.length c∧∀ k,k < fs.length→∃ g pa pc,a=some ⟨g,0,none⟩∧CellsAt W g (k * 10) (frCells (fs.getD k Frm.zero) (.slice pa (fs.getD k Frm.zero).t.length pc))∧Tab W (.slice pa (fs.getD k Frm.zero).t.length pc) (fs.getD k Frm.zero).t:=by
 subst hm
 obtain⟨a,c,rfl⟩:=kf_shape h
 refine ⟨a,c,by rw [List.length_map],fun k hk => ?_⟩
 rw [List.length_map] at hk
 have hf:(ps.map FrS.f).getD k Frm.zero=(ps.getD k FrS.zero).f:=by
  rw [List.getD_eq_getElem?_getD,List.getElem?_map,List.getD_eq_getElem?_getD,List.getElem?_eq_getElem hk]
  rfl
 rw [hf]
 have ht:=(h.2 (ps.getD k FrS.zero) (by rw [List.getD_eq_getElem?_getD,List.getElem?_eq_getElem hk]; exact List.getElem_mem hk)).tab
 rcases h.1.2 with ⟨e,h0⟩ | ⟨g,cap,cur,e,_⟩
 ·omega
 ·simp only [Value.slice.injEq] at e
  obtain⟨rfl,_,rfl⟩:=e
  have hr:=OwnS.row frSOK h.1 hk
  generalize ps.getD k FrS.zero=p at hr ht ⊢
  obtain⟨f,pa,pn,pc⟩:=p
  have hn:pn=f.t.length:=by
   obtain⟨x,y,e,_⟩:=ht
   simp only [FrS.tv,Value.slice.injEq] at e
   exact e.2.1
  subst hn
  exact⟨g,pa,pc,rfl,hr,ht⟩

theorem kf_zero {w W:World} {v:Value} {ps:List FrS} (h:KF w W v ps) (hm:ps.map FrS.f=[]):∃ a c,v=.slice a 0 c:=by
 obtain⟨a,c,e,_⟩:=kf_cells h hm
 exact⟨a,c,e⟩

theorem kf_one {w W:World} {v:Value} {ps:List FrS} {f:Frm} (h:KF w W v ps) (hm:ps.map FrS.f=[f]):∃ g c pa pc,v=.slice (some ⟨g,0,none⟩) 1 c∧CellsAt W g 0 (frCells f (.slice pa f.t.length pc))∧Tab W (.slice pa f.t.length pc) f.t:=by
 obtain⟨a,c,e,hk⟩:=kf_cells h hm
 obtain⟨g,pa,pc,rfl,h1,h2⟩:=hk 0 (by simp)
 rw [Nat.zero_mul] at h1
 exact⟨g,c,pa,pc,e,h1,h2⟩

theorem kf_two {w W:World} {v:Value} {ps:List FrS} {f1 f2:Frm} (h:KF w W v ps) (hm:ps.map FrS.f=[f1,f2]):∃ g c pa pc qa qc,v=.slice (some ⟨g,0,none⟩) 2 c∧CellsAt W g 0 (frCells f1 (.slice pa f1.t.length pc))∧CellsAt W g 10 (frCells f2 (.slice qa f2.t.length qc)):=by
 obtain⟨a,c,e,hk⟩:=kf_cells h hm
 obtain⟨g,pa,pc,rfl,h1,h2⟩:=hk 0 (by simp)
 obtain⟨g2,qa,qc,e2,h3,h4⟩:=hk 1 (by simp)
 simp only [Option.some.injEq,Addr.mk.injEq,and_true] at e2
 subst e2
 rw [Nat.zero_mul] at h1
 rw [Nat.one_mul] at h3
 exact⟨g,c,pa,pc,qa,qc,e,h1,h3⟩
end
end Go.Proofs.Ytfocooajnignbaa
