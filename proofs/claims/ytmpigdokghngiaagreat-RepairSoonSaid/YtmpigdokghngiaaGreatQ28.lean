/-
 TEXTS OF THE PROOF, one behind the other: HeldC, LnkRW, RepDoc.
-/
import Derived.Test.YtmpigdokghngiaaGreatQ05
import Derived.Test.YtmpigdokghngiaaGreatQ27
import Derived.Test.YtmpigdokghngiaaGreatQ24
import Derived.Test.YtmpigdokghngiaaGreatQ13
import Derived.Deep.Cut
import Derived.Test.YtmpigdokghngiaaGreatQ25
import Derived.Test.YtmpigdokghngiaaGreatQ20

set_option maxHeartbeats 12800000
set_option maxRecDepth 100000

namespace Go.Proofs.YtmpigdokghngiaaGreat
section
open Go.RowKit

def heldC (X:World) (cs:List (Nat × Nat × Value)):Prop:=∀ p ∈ cs,X.cell? ⟨p.1,p.2.1,none⟩=some p.2.2
end
section
open Go.RowKit

def FrC (W:World) (v:Value) (fs:List Frm):Prop :=
 ∃ a c,v=.slice a fs.length c∧∀ k,k < fs.length→∃ g pa pc,a=some ⟨g,0,none⟩∧CellsAt W g (k * 10) (frCells (fs.getD k Frm.zero) (.slice pa (fs.getD k Frm.zero).t.length pc))∧Tab W (.slice pa (fs.getD k Frm.zero).t.length pc) (fs.getD k Frm.zero).t

theorem FrC.later {w W:World} {v:Value} {fs:List Frm} (h:FrC w v fs) (hb:Below w.heap.size w W):FrC W v fs:=by
 obtain⟨a,c,e,hk⟩:=h
 refine ⟨a,c,e,fun k hk2 => ?_⟩
 obtain⟨g,pa,pc,e1,h1,h2⟩:=hk k hk2
 exact⟨g,pa,pc,e1,CellsAt.later h1 hb,Tab.later h2 hb⟩
end
section
open Go.RowKit

theorem aggRSide:AggTy 35 10:=⟨⟨_,Tryz.underlying35,rfl⟩,by kernel_rfl⟩

theorem rrpfew_f {w:World} {v cv:Value} {ql:List Chg} {ct:List Row} (hv:Chgs w v ql) (hc:Tab w cv ct) (seq tok at' dg nn:Int) (la sn oo:Bool) (HF:Hid (fewC ql 30=false)) :
  Calls Tryz.prog 9 #[.agg #[.int .i64 seq,v,.bool la,.int .i64 tok,.int .i64 at',.bool sn,.int .i64 dg,cv,.int .i64 nn,.bool oo]] w fun e w' => e=.returned (.bool false)∧Below w.heap.size w w':=by
 obtain⟨qa,qc,rfl,-⟩:=hv.open'
 obtain⟨ta,tc,rfl,-⟩:=hc.open'
 obtain⟨XB,HB⟩:=ent1 w (.cells #[.int .i64 seq,.slice qa ql.length qc,.bool la,.int .i64 tok,.int .i64 at',.bool sn,.int .i64 dg,.slice ta ct.length tc,.int .i64 nn,.bool oo] 35)
 have HV:=hZq ((hv).later HB.out)
 have HC:=hZq ((hc).later HB.out)
 clear hv hc
 go_enter Tryz.func9,Tryz.ntmps9
 go_wp2_with (with_reducible refine ldA aggLink _ rfl rfl (w.heap.size) 0 rfl XB.out [.int .i64 seq,.slice qa ql.length qc,.bool la,.int .i64 tok,.int .i64 at',.bool sn,.int .i64 dg] rfl rfl ?_)
 refine (rlfew_any HV.out la sn seq tok at' dg HF).mono ?_
 rintro e w2 ⟨rfl,b2⟩
 replace XB:=hZq (upQ XB.out b2)
 replace HV:=hZq (HV.out.later b2)
 replace HC:=hZq (HC.out.later b2)
 replace HB:=hZq (below2Z HB.out b2)
 clear b2
 go_wp2_with fail
 go_ret
 exact⟨rfl,HB.out⟩

theorem rrpfew_t {w:World} {v cv:Value} {ql:List Chg} {ct:List Row} (hv:Chgs w v ql) (hc:Tab w cv ct) (seq tok at' dg nn:Int) (la sn oo:Bool) (HF:Hid (fewC ql 30=true)) {r:Bool} (HT:Hid (fewT ct=r)) :
  Calls Tryz.prog 9 #[.agg #[.int .i64 seq,v,.bool la,.int .i64 tok,.int .i64 at',.bool sn,.int .i64 dg,cv,.int .i64 nn,.bool oo]] w fun e w' => e=.returned (.bool r)∧Below w.heap.size w w':=by
 obtain⟨qa,qc,rfl,-⟩:=hv.open'
 obtain⟨ta,tc,rfl,-⟩:=hc.open'
 obtain⟨XB,HB⟩:=ent1 w (.cells #[.int .i64 seq,.slice qa ql.length qc,.bool la,.int .i64 tok,.int .i64 at',.bool sn,.int .i64 dg,.slice ta ct.length tc,.int .i64 nn,.bool oo] 35)
 have HV:=hZq ((hv).later HB.out)
 have HC:=hZq ((hc).later HB.out)
 clear hv hc
 go_enter Tryz.func9,Tryz.ntmps9
 go_wp2_with (with_reducible refine ldA aggLink _ rfl rfl (w.heap.size) 0 rfl XB.out [.int .i64 seq,.slice qa ql.length qc,.bool la,.int .i64 tok,.int .i64 at',.bool sn,.int .i64 dg] rfl rfl ?_)
 refine (rlfew_any HV.out la sn seq tok at' dg HF).mono ?_
 rintro e w2 ⟨rfl,b2⟩
 replace XB:=hZq (upQ XB.out b2)
 replace HV:=hZq (HV.out.later b2)
 replace HC:=hZq (HC.out.later b2)
 replace HB:=hZq (below2Z HB.out b2)
 clear b2
 go_wp2_with (with_reducible refine ldG aggCli _ rfl rfl (w.heap.size) 7 rfl XB.out [.slice ta ct.length tc,.int .i64 nn,.bool oo] rfl rfl ?_)
 refine (clfew_eq HC.out nn oo HT).mono ?_
 rintro e w3 ⟨rfl,b3⟩
 replace XB:=hZq (upQ XB.out b3)
 replace HV:=hZq (HV.out.later b3)
 replace HC:=hZq (HC.out.later b3)
 replace HB:=hZq (below2Z HB.out b3)
 clear b3
 go_wp2_with fail
 go_ret
 exact⟨rfl,HB.out⟩

theorem rrpfew {w:World} {v cv:Value} {ql:List Chg} {ct:List Row} (hv:Chgs w v ql) (hc:Tab w cv ct) (seq tok at' dg nn:Int) (la sn oo:Bool) {r:Bool} (h:Hid ((fewC ql 30 && fewT ct)=r)) :
  Calls Tryz.prog 9 #[.agg #[.int .i64 seq,v,.bool la,.int .i64 tok,.int .i64 at',.bool sn,.int .i64 dg,cv,.int .i64 nn,.bool oo]] w fun e w' => e=.returned (.bool r)∧Below w.heap.size w w':=by
 have h:=h.out
 cases hf:fewC ql 30 with
 | true => rw [hf,Bool.true_and] at h; exact rrpfew_t hv hc seq tok at' dg nn la sn oo (hZq hf) (hZq h)
 | false => rw [hf,Bool.false_and] at h; subst h; exact rrpfew_f hv hc seq tok at' dg nn la sn oo (hZq hf)

theorem few_short {ql:List Chg} {ct:List Row} (h:(fewC ql 30 && fewT ct)=true):ShortC ql∧ql.length≤100∧Short ct∧ct.length≤1000:=by
 simp only [Bool.and_eq_true] at h
 obtain⟨a1,a2⟩:=fewC_get h.1
 obtain⟨b1,b2⟩:=fewT_yes h.2
 exact⟨fun x hx => ⟨by have:=(a2 x hx).1; omega,by have:=(a2 x hx).2; omega⟩,by omega,fun r hr => ⟨by have:=(b2 r hr).1; omega,by have:=(b2 r hr).2; omega⟩,by omega⟩

theorem rpmine {w:World} {v cv:Value} {ql:List Chg} {ct:List Row} (hv:Chgs w v ql) (hc:Tab w cv ct) (seq tok at' dg nn:Int) (la sn oo:Bool) :
  Calls Tryz.prog 12 #[.agg #[.int .i64 seq,v,.bool la,.int .i64 tok,.int .i64 at',.bool sn,.int .i64 dg,cv,.int .i64 nn,.bool oo]] w fun e w' => e=.returned (.agg #[.int .i64 seq,v,.bool la,.int .i64 tok,.int .i64 at',.bool sn,.int .i64 dg,cv,.int .i64 nn,.bool oo])∧Below w.heap.size w w':=by
 obtain⟨qa,qc,rfl,-⟩:=hv.open'
 obtain⟨ta,tc,rfl,-⟩:=hc.open'
 clear hv hc
 obtain⟨XB,RB,HB⟩:=ent2 w (.cells #[.int .i64 seq,.slice qa ql.length qc,.bool la,.int .i64 tok,.int .i64 at',.bool sn,.int .i64 dg,.slice ta ct.length tc,.int .i64 nn,.bool oo] 35) (.cells #[.int .i64 0,.slice none 0 0,.bool false,.int .i64 0,.int .i64 0,.bool false,.int .i64 0,.slice none 0 0,.int .i64 0,.bool false] 41)
 go_enter Tryz.func12,Tryz.ntmps12
 go_wp2_with (first | (with_reducible refine ldA aggLink _ rfl rfl (w.heap.size) 0 rfl XB.out [.int .i64 seq,.slice qa ql.length qc,.bool la,.int .i64 tok,.int .i64 at',.bool sn,.int .i64 dg] rfl rfl ?_) | (with_reducible refine ldA aggCli _ rfl rfl (w.heap.size) 7 rfl XB.out [.slice ta ct.length tc,.int .i64 nn,.bool oo] rfl rfl ?_) | (with_reducible refine stA aggSide _ _ rfl rfl (w.heap.size+1) 0 rfl RB.out [.int .i64 seq,.slice qa ql.length qc,.bool la,.int .i64 tok,.int .i64 at',.bool sn,.int .i64 dg,.slice ta ct.length tc,.int .i64 nn,.bool oo] rfl rfl (Nat.le_of_ble_eq_true rfl) rfl [.int .i64 seq,.slice qa ql.length qc,.bool la,.int .i64 tok,.int .i64 at',.bool sn,.int .i64 dg,.slice ta ct.length tc,.int .i64 nn,.bool oo] rfl ?_))
 intro w3 hst
 have HBz:=hZq (hst.bel HB.out (show w.heap.size≤w.heap.size+1 by omega))
 have XBz:=hZq (hst.keep XB.out (show ¬ w.heap.size=w.heap.size+1 by omega))
 have RBz:=hZq hst.at'
 clear hst HB XB RB
 have HB:=HBz
 have XB:=XBz
 have RB:=RBz
 clear HBz XBz RBz
 go_wp2_with fail
 refine retA aggSide _ (w.heap.size+1) Tryz.results12 rfl (cs:=[.int .i64 seq,.slice qa ql.length qc,.bool la,.int .i64 tok,.int .i64 at',.bool sn,.int .i64 dg,.slice ta ct.length tc,.int .i64 nn,.bool oo]) RB.out rfl rfl ?_
 exact⟨rfl,HB.out⟩
end
end Go.Proofs.YtmpigdokghngiaaGreat
