/-
 TEXTS OF THE PROOF, one behind the other: PacRef, LnkRef, LnkW, HeldC, LnkLive, LnkP.
-/
import Derived.Test.YtekkofldhhdpgaaGreatD29
import Derived.Test.YtekkofldhhdpgaaGreatD28
import Derived.Laws.StructEq
import Derived.Deep.Cut
import Derived.Test.YtekkofldhhdpgaaGreatD32
import Derived.Test.YtekkofldhhdpgaaGreatD20

set_option maxHeartbeats 12800000
set_option maxRecDepth 100000

section

namespace Go.Proofs.YtekkofldhhdpgaaGreat
open Go.RowKit

theorem rpmay_any (a b d e:Int) {r:Bool} (h:Hid (pcMay ⟨a,b,d,e⟩=r)) (w:World) :
  Calls Tryz.prog 26 #[.agg #[.int .i64 a,.int .i64 b,.int .i64 d,.int .i64 e]] w fun e w' => e=.returned (.bool r)∧Below w.heap.size w w':=by
 have B0:=hZq (bl_newZ w (.cells #[.int .i64 a,.int .i64 b,.int .i64 d,.int .i64 e] 44))
 have HR:=h.out
 unfold pcMay at HR
 simp only at HR
 clear h
 cases t0:decide (1≤a) with
 | false =>
  rw [t0] at HR
  obtain rfl:false=r:=HR
  go_enter Tryz.func26,Tryz.ntmps26
  go_wp2_with fail
  go_ret
  exact⟨rfl,B0.out⟩
 | true =>
  cases t1:decide (a≤16) with
  | false =>
   rw [t0,t1] at HR
   obtain rfl:false=r:=HR
   go_enter Tryz.func26,Tryz.ntmps26
   go_wp2_with fail
   go_ret
   exact⟨rfl,B0.out⟩
  | true =>
   cases t2:decide (1≤b) with
   | false =>
    rw [t0,t1,t2] at HR
    obtain rfl:false=r:=HR
    go_enter Tryz.func26,Tryz.ntmps26
    go_wp2_with fail
    go_ret
    exact⟨rfl,B0.out⟩
   | true =>
    cases t3:decide (b≤64) with
    | false =>
     rw [t0,t1,t2,t3] at HR
     obtain rfl:false=r:=HR
     go_enter Tryz.func26,Tryz.ntmps26
     go_wp2_with fail
     go_ret
     exact⟨rfl,B0.out⟩
    | true =>
     cases t4:decide (1≤d) with
     | false =>
      rw [t0,t1,t2,t3,t4] at HR
      obtain rfl:false=r:=HR
      go_enter Tryz.func26,Tryz.ntmps26
      go_wp2_with fail
      go_ret
      exact⟨rfl,B0.out⟩
     | true =>
      cases t5:decide (d≤16) with
      | false =>
       rw [t0,t1,t2,t3,t4,t5] at HR
       obtain rfl:false=r:=HR
       go_enter Tryz.func26,Tryz.ntmps26
       go_wp2_with fail
       go_ret
       exact⟨rfl,B0.out⟩
      | true =>
       cases t6:decide (1≤e) with
       | false =>
        rw [t0,t1,t2,t3,t4,t5,t6] at HR
        obtain rfl:false=r:=HR
        go_enter Tryz.func26,Tryz.ntmps26
        go_wp2_with fail
        go_ret
        exact⟨rfl,B0.out⟩
       | true =>
        cases t7:decide (e≤1000) with
        | false =>
         rw [t0,t1,t2,t3,t4,t5,t6,t7] at HR
         obtain rfl:false=r:=HR
         go_enter Tryz.func26,Tryz.ntmps26
         go_wp2_with fail
         go_ret
         exact⟨rfl,B0.out⟩
        | true =>
         rw [t0,t1,t2,t3,t4,t5,t6,t7] at HR
         obtain rfl:true=r:=HR
         go_enter Tryz.func26,Tryz.ntmps26
         go_wp2_with fail
         go_ret
         exact⟨rfl,B0.out⟩

end Go.Proofs.YtekkofldhhdpgaaGreat

end

section

namespace Go.Proofs.YtekkofldhhdpgaaGreat
open Go.RowKit

set_option linter.unusedSimpArgs false

end Go.Proofs.YtekkofldhhdpgaaGreat

end

section

namespace Go.Proofs.YtekkofldhhdpgaaGreat
open Go.RowKit

theorem lemit_eq {w:World} {v vt:Value} {ql:List Chg} {view:List Row} (hv:Chgs w v ql) (ht:Tab w vt view) (hs:ShortC ql) (hl:ql.length≤100) (hsh:Short view) (ca cb cd ce seq tok at' dg now:Int) (la sn:Bool)
  {ms mt ma md:Int} {mq:List Chg} {ml mn:Bool} {fs:List Frm} (hr:Hid (lnEmit ⟨ca,cb,cd,ce⟩ ⟨seq,⟨ql,la⟩,⟨tok,at'⟩,sn,dg⟩ view now=(⟨ms,⟨mq,ml⟩,⟨mt,ma⟩,mn,md⟩,fs))) :
  Calls Tryz.prog 33 #[.agg #[.int .i64 ca,.int .i64 cb,.int .i64 cd,.int .i64 ce],.agg #[.int .i64 seq,v,.bool la,.int .i64 tok,.int .i64 at',.bool sn,.int .i64 dg],vt,.int .i64 now] w fun e w' =>
   ∃ u fv ps,e=.returned (.tuple #[.agg #[.int .i64 ms,u,.bool ml,.int .i64 mt,.int .i64 ma,.bool mn,.int .i64 md],fv])∧Chgs w' u mq∧KF w w' fv ps∧ps.map FrS.f=fs∧Below w.heap.size w w' :=
 lemit_any hv ht hs hl hsh ca cb cd ce seq tok at' dg now la sn hr

theorem lpush_eq {w:World} {v:Value} {l:List Chg} (hv:Chgs w v l) (hl:l.length≤1000) (la sn:Bool) (ca cb cd ce seq tok at' dg xa xb xd:Int) (xo:Bool) (xc xs:List UInt8) {ms mt ma md:Int} {mq:List Chg} {ml mn:Bool}
  (hr:Hid (lnPush ⟨ca,cb,cd,ce⟩ ⟨seq,⟨l,la⟩,⟨tok,at'⟩,sn,dg⟩ ⟨xc,xo,⟨xa,xb,xd,xs⟩⟩=⟨ms,⟨mq,ml⟩,⟨mt,ma⟩,mn,md⟩)) :
  Calls Tryz.prog 32 #[.agg #[.int .i64 ca,.int .i64 cb,.int .i64 cd,.int .i64 ce],.agg #[.int .i64 seq,v,.bool la,.int .i64 tok,.int .i64 at',.bool sn,.int .i64 dg],.agg #[.string ⟨xc.toArray⟩,.bool xo,.int .i64 xa,.int .i64 xb,.int .i64 xd,.string ⟨xs.toArray⟩]] w fun e w' => ∃ u,e=.returned (.agg #[.int .i64 ms,u,.bool ml,.int .i64 mt,.int .i64 ma,.bool mn,.int .i64 md])∧Chgs w' u mq∧Below w.heap.size w w' :=
 lpush_any hv hl la sn ca cb cd ce seq tok at' dg xa xb xd xo xc xs hr

theorem lnew_eq (ca cb cd ce now:Int) {ms mt ma md:Int} {ml mn:Bool} {mq:List Chg} {n:Nat} (hr:Hid (lnNew ⟨ca,cb,cd,ce⟩ now=(⟨ms,⟨mq,ml⟩,⟨mt,ma⟩,mn,md⟩,n))) (w:World) :
  Calls Tryz.prog 28 #[.agg #[.int .i64 ca,.int .i64 cb,.int .i64 cd,.int .i64 ce],.int .i64 now] w fun e w' => e=.returned (.tuple #[.agg #[.int .i64 ms,.slice none 0 0,.bool ml,.int .i64 mt,.int .i64 ma,.bool mn,.int .i64 md],.int .i64 n])∧Below w.heap.size w w' :=
 (lnew_any ca cb cd ce now hr w).mono fun _ _ ⟨h1,_,h3⟩ => ⟨h1,h3⟩

def frCells (f:Frm) (tv:Value):List Value:=[.int .i64 f.k,.int .i64 f.s,.bool f.on,.string ⟨f.c.toArray⟩,.int .i64 f.v.sh,.int .i64 f.v.pr,.int .i64 f.v.si,.string ⟨f.v.st.toArray⟩,.int .u64 f.sum,tv]

theorem kf_cells {w W:World} {v:Value} {ps:List FrS} {fs:List Frm} (h:KF w W v ps) (hm:ps.map FrS.f=fs) :
  ∃ a c,v=.slice a fs.length c∧∀ k,k < fs.length→∃ g pa pc,a=some ⟨g,0,none⟩∧CellsAt W g (k * 10) (frCells (fs.getD k Frm.zero) (.slice pa (fs.getD k Frm.zero).t.length pc))∧Tab W (.slice pa (fs.getD k Frm.zero).t.length pc) (fs.getD k Frm.zero).t:=by
 subst hm
 obtain⟨a,c,rfl⟩:=kf_shape h
 refine ⟨a,c,by rw [List.length_map],fun k hk => ?_⟩
 rw [List.length_map] at hk
 have hf:(ps.map FrS.f).getD k Frm.zero=(ps.getD k FrS.zero).f:=by
  rw [List.getD_eq_getElem?_getD,List.getElem?_map,List.getD_eq_getElem?_getD,List.getElem?_eq_getElem hk]
  rfl
 rw [hf]
 have ht:=(h.2 (ps.getD k FrS.zero) (by rw [List.getD_eq_getElem?_getD,List.getElem?_eq_getElem hk]; exact List.getElem_mem hk)).tab
 rcases h.1.2 with ⟨e,h0⟩ | ⟨g,cap,cur,e,_⟩
 ·omega
 ·simp only [Value.slice.injEq] at e
  obtain⟨rfl,_,rfl⟩:=e
  have hr:=OwnS.row frSOK h.1 hk
  generalize ps.getD k FrS.zero=p at hr ht ⊢
  obtain⟨f,pa,pn,pc⟩:=p
  have hn:pn=f.t.length:=by
   obtain⟨x,y,e,_⟩:=ht
   simp only [FrS.tv,Value.slice.injEq] at e
   exact e.2.1
  subst hn
  exact⟨g,pa,pc,rfl,hr,ht⟩

end Go.Proofs.YtekkofldhhdpgaaGreat

end

section

namespace Go.Proofs.YtekkofldhhdpgaaGreat
open Go.RowKit

def heldC (X:World) (cs:List (Nat × Nat × Value)):Prop:=∀ p ∈ cs,X.cell? ⟨p.1,p.2.1,none⟩=some p.2.2

theorem heldC_nil (X:World):heldC X []:=fun p h => by cases h
theorem heldC_cons {X:World} {b o:Nat} {v:Value} {cs:List (Nat × Nat × Value)} (h:X.cell? ⟨b,o,none⟩=some v) (ht:heldC X cs):heldC X ((b,o,v) :: cs):=fun p hp => by
 rcases List.mem_cons.1 hp with rfl | hp
 ·exact h
 ·exact ht p hp
theorem heldC_up {W X:World} {cs:List (Nat × Nat × Value)} (hb:Below W.heap.size W X) (h:heldC W cs):heldC X cs:=fun p hp => cellLaterZ (h p hp) hb
theorem heldC_get {X:World} {cs:List (Nat × Nat × Value)} (h:heldC X cs) {b o:Nat} {v:Value} (hm:(b,o,v) ∈ cs):X.cell? ⟨b,o,none⟩=some v:=h _ hm

end Go.Proofs.YtekkofldhhdpgaaGreat

end

section

namespace Go.Proofs.YtekkofldhhdpgaaGreat
open Go.RowKit

end Go.Proofs.YtekkofldhhdpgaaGreat

end

section

namespace Go.Proofs.YtekkofldhhdpgaaGreat
open Go.RowKit

theorem emit_run {c:Cfg} {l:Lnk} {view:List Row} {now:Int} (h1:lnMay c l=true) (h2:diMay view=true) (h3:pcTime now=true):lnEmit c l view now=lnRun c view now 65 l:=by
 unfold lnEmit
 rw [if_pos (by rw [h1,h2,h3]; rfl)]

end Go.Proofs.YtekkofldhhdpgaaGreat

end
