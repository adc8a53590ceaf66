/-
 TEXTS OF THE PROOF, one behind the other: FraMay.
-/
import Derived.Test.YtmpigdokghngiaaGreatP04
import Derived.Deep.RegionHeld3
import Derived.Laws.EntriesVeiled

set_option maxHeartbeats 12800000
set_option maxRecDepth 100000

set_option linter.unusedVariables false

namespace Go.Proofs.YtmpigdokghngiaaGreat
open Go.RowKit

theorem below_regrownF {w w':World} (h:∃ p:Regrown,w'=Sort.grow (redrawn w p.d) p.os):Below w.heap.size w w':=by
 obtain⟨p,rfl⟩:=h
 exact below_regrown _ _ _

theorem isKind_any (k:Int) (w:World):Calls Tryz.prog 102 #[.int .i64 k] w fun e w' => e=.returned (.bool (decide (1≤k) && decide (k≤4)))∧w=w':=by
 by_cases h1:1≤k
 ·by_cases h4:k≤4
  ·have e:(decide (1≤k) && decide (k≤4))=true:=by simp [h1,h4]
   rw [e]
   go_enter Tryz.func102,Tryz.ntmps102
   go_wp2_with fail
   go_ret
   exact⟨rfl,rfl⟩
  ·have e:(decide (1≤k) && decide (k≤4))=false:=by simp [h4]
   rw [e]
   go_enter Tryz.func102,Tryz.ntmps102
   go_wp2_with fail
   go_ret
   exact⟨rfl,rfl⟩
 ·have e:(decide (1≤k) && decide (k≤4))=false:=by simp [h1]
  rw [e]
  go_enter Tryz.func102,Tryz.ntmps102
  go_wp2_with fail
  go_ret
  exact⟨rfl,rfl⟩

theorem change_any (k s:Int) (on:Bool) (c:List UInt8) (sh pr si:Int) (st:List UInt8) (sum:Nat) (v:Value) (w:World) :
  Calls Tryz.prog 158 #[.agg #[.int .i64 k,.int .i64 s,.bool on,.string ⟨c.toArray⟩,.int .i64 sh,.int .i64 pr,.int .i64 si,.string ⟨st.toArray⟩,.int .u64 sum,v]] w fun e w' => e=.returned (.agg #[.string ⟨c.toArray⟩,.bool on,.int .i64 sh,.int .i64 pr,.int .i64 si,.string ⟨st.toArray⟩])∧Below w.heap.size w w':=by
 go_enter Tryz.func158,Tryz.ntmps158
 go_wp2_with fail
 refine bodyPost_ret (v:=.agg #[.string ⟨c.toArray⟩,.bool on,.int .i64 sh,.int .i64 pr,.int .i64 si,.string ⟨st.toArray⟩]) (by simp [results,Tryz.results158,go_sem]) rfl ⟨rfl,?_⟩
 repeat (first | exact Below.refl _ _ | refine Below.setCell ?_ (by first | (simp; done) | (simp; omega)) _ | refine Below.alloc ?_ (by first | (simp; done) | (simp; omega)) _ | refine Below.drew ?_)

abbrev kindsV:Value:=.agg #[.nilFunc,.nilFunc,.nilFunc,.func (.func 131) #[] #[],.func (.func 132) #[] #[],.func (.func 133) #[] #[],.func (.func 134) #[] #[],.func (.func 135) #[] #[],.func (.func 136) #[] #[],.func (.func 137) #[] #[],.func (.func 138) #[] #[],.func (.func 139) #[] #[],.func (.func 140) #[] #[],.func (.func 141) #[] #[],.func (.func 142) #[] #[]]

theorem kindsF_any  (w:World) :
  Calls Tryz.prog 104 #[] w fun e w' => e=.returned (kindsV)∧Below w.heap.size w w':=by
 go_enter Tryz.func104,Tryz.ntmps104
 go_wp2_with fail
 refine bodyPost_ret (v:=kindsV) (by simp [results,Tryz.results104,go_sem]) rfl ⟨rfl,?_⟩
 repeat (first | exact Below.refl _ _ | refine Below.setCell ?_ (by first | (simp; done) | (simp; omega)) _ | refine Below.alloc ?_ (by first | (simp; done) | (simp; omega)) _ | refine Below.drew ?_)

theorem chg_zero (c:List UInt8) (on:Bool) (sh pr si:Int) (st:List UInt8):cSame ⟨c,on,sh,pr,si,st⟩ ⟨[],false,0,0,0,[]⟩=(!on && (c == [] && vSame ⟨sh,pr,si,st⟩ Val.zero)):=by
 unfold cSame Val.zero
 cases on <;> cases c <;> simp

theorem bcellF {W w1:World} (hb:Below W.heap.size W w1):(∀ b o,b < W.heap.size→w1.cell? ⟨b,o,none⟩=W.cell? ⟨b,o,none⟩)∧(∀ b o,b < W.heap.size→w1.frozen? ⟨b,o,none⟩=W.frozen? ⟨b,o,none⟩) :=
 ⟨fun b o h => hb.cell (p:=⟨b,o,none⟩) h,fun b o h => hb.frozen (p:=⟨b,o,none⟩) h⟩

theorem mayDelta_any {w:World} {v:Value} {t:List Row} (hv:Tab w v t) (k s:Int) (on:Bool) (c:List UInt8) (sh pr si:Int) (st:List UInt8) (sum:Nat) (hc:c.length≤4294967296) (hs:st.length≤4294967296) :
  Calls Tryz.prog 131 #[.agg #[.int .i64 k,.int .i64 s,.bool on,.string ⟨c.toArray⟩,.int .i64 sh,.int .i64 pr,.int .i64 si,.string ⟨st.toArray⟩,.int .u64 sum,v]] w fun e w' => e=.returned (.bool (decide (sum=0) && (decide (t.length=0) && (idIs c && (if on=true then vaMay ⟨sh,pr,si,st⟩ else vSame ⟨sh,pr,si,st⟩ Val.zero)))))∧Below w.heap.size w w':=by
 obtain⟨a,cap,rfl,_⟩:=hv.open'
 clear hv
 have B0:Hid (Below w.heap.size w (w.alloc (.cells #[.int .i64 k,.int .i64 s,.bool on,.string ⟨c.toArray⟩,.int .i64 sh,.int .i64 pr,.int .i64 si,.string ⟨st.toArray⟩,.int .u64 sum,.slice a t.length cap] 56))):=hZq ((Below.refl _ _).alloc (Nat.le_refl _) _)
 by_cases h1:sum=0
 ·subst h1
  by_cases h2:t.length=0
  ·have e2:((t.length:Int) != 0)=false:=by simp [h2]
   have H2:=hZq h2
   clear h2
   cases hi:idIs c with
   | false =>
    have HI:=hZq hi
    rw [show (decide ((0:Nat)=0) && (decide (t.length=0) && (false && (if on=true then vaMay ⟨sh,pr,si,st⟩ else vSame ⟨sh,pr,si,st⟩ Val.zero))))=false by simp]
    clear hi
    go_enter Tryz.func131,Tryz.ntmps131
    go_wp2_with fail
    refine (is_eq c hc HI _).mono ?_
    rintro e w1 ⟨rfl,b⟩
    have B1:=hZq (below2' B0.out b)
    clear b
    go_wp2_with fail
    go_ret
    exact⟨rfl,B1.out⟩
   | true =>
    have HI:=hZq hi
    clear hi
    cases on with
    | false =>
     rw [show (decide ((0:Nat)=0) && (decide (t.length=0) && (true && (if false=true then vaMay ⟨sh,pr,si,st⟩ else vSame ⟨sh,pr,si,st⟩ Val.zero))))=vSame ⟨sh,pr,si,st⟩ Val.zero by simp [H2.out]]
     have hq:∀ w,(binOp .eql 53 (.agg #[.int .i64 sh,.int .i64 pr,.int .i64 si,.string ⟨st.toArray⟩]) (.agg #[.int .i64 0,.int .i64 0,.int .i64 0,.string ⟨#[]⟩])).run Tryz.prog w=.ok (.bool (vSame ⟨sh,pr,si,st⟩ Val.zero)) w:=fun w => val_eql5 sh pr si 0 0 0 st [] w
     obtain⟨r,hr⟩ : ∃ r,vSame ⟨sh,pr,si,st⟩ Val.zero=r:=⟨_,rfl⟩
     rw [hr]
     simp only [hr] at hq
     clear hr
     go_enter Tryz.func131,Tryz.ntmps131
     go_wp2_with fail
     refine (is_eq c hc HI _).mono ?_
     rintro e w1 ⟨rfl,b⟩
     have B1:=hZq (below2' B0.out b)
     obtain⟨hcl,_⟩:=bcellF b
     clear b
     go_wp2_with fail
     go_ret
     exact⟨rfl,B1.out⟩
    | true =>
     rw [show (decide ((0:Nat)=0) && (decide (t.length=0) && (true && (if true=true then vaMay ⟨sh,pr,si,st⟩ else vSame ⟨sh,pr,si,st⟩ Val.zero))))=vaMay ⟨sh,pr,si,st⟩ by simp [H2.out]]
     obtain⟨r,hr⟩ : ∃ r,vaMay ⟨sh,pr,si,st⟩=r:=⟨_,rfl⟩
     rw [hr]
     have HM:=hZq hr
     clear hr
     go_enter Tryz.func131,Tryz.ntmps131
     go_wp2_with fail
     refine (is_eq c hc HI _).mono ?_
     rintro e w1 ⟨rfl,b⟩
     have B1:=hZq (below2' B0.out b)
     obtain⟨hcl,_⟩:=bcellF b
     clear b
     go_wp2_with fail
     refine (may_eq sh pr si st hs HM _).mono ?_
     rintro e w2 ⟨rfl,b⟩
     have B2:=hZq (below2' B1.out b)
     clear b
     go_wp2_with fail
     go_ret
     exact⟨rfl,B2.out⟩
  ·have e2:((t.length:Int) != 0)=true:=by rw [bne_iff_ne]; omega
   rw [show (decide ((0:Nat)=0) && (decide (t.length=0) && (idIs c && (if on=true then vaMay ⟨sh,pr,si,st⟩ else vSame ⟨sh,pr,si,st⟩ Val.zero))))=false by simp [h2]]
   clear h2
   go_enter Tryz.func131,Tryz.ntmps131
   go_wp2_with fail
   go_ret
   exact⟨rfl,B0.out⟩
 ·have e1:((sum:Int) != 0)=true:=by rw [bne_iff_ne]; omega
  rw [show (decide (sum=0) && (decide (t.length=0) && (idIs c && (if on=true then vaMay ⟨sh,pr,si,st⟩ else vSame ⟨sh,pr,si,st⟩ Val.zero))))=false by simp [h1]]
  clear h1
  go_enter Tryz.func131,Tryz.ntmps131
  go_wp2_with fail
  go_ret
  exact⟨rfl,B0.out⟩

theorem mayDigest_any {w:World} {v:Value} {t:List Row} (hv:Tab w v t) (k s:Int) (on:Bool) (c:List UInt8) (sh pr si:Int) (st:List UInt8) (sum:Nat) (hc:c.length≤4294967296) (hs:st.length≤4294967296) :
  Calls Tryz.prog 134 #[.agg #[.int .i64 k,.int .i64 s,.bool on,.string ⟨c.toArray⟩,.int .i64 sh,.int .i64 pr,.int .i64 si,.string ⟨st.toArray⟩,.int .u64 sum,v]] w fun e w' => e=.returned (.bool ((!on && (c == [] && vSame ⟨sh,pr,si,st⟩ Val.zero)) && decide (t.length=0)))∧Below w.heap.size w w':=by
 have HV:=hZq hv
 obtain⟨a,cap,rfl,_⟩:=hv.open'
 clear hv
 have B0:Hid (Below w.heap.size w (w.alloc (.cells #[.int .i64 k,.int .i64 s,.bool on,.string ⟨c.toArray⟩,.int .i64 sh,.int .i64 pr,.int .i64 si,.string ⟨st.toArray⟩,.int .u64 sum,.slice a t.length cap] 56))):=hZq ((Below.refl _ _).alloc (Nat.le_refl _) _)
 have hq:∀ w,(binOp .eql 105 (.agg #[.string ⟨c.toArray⟩,.bool on,.int .i64 sh,.int .i64 pr,.int .i64 si,.string ⟨st.toArray⟩]) (.agg #[.string ⟨#[]⟩,.bool false,.int .i64 0,.int .i64 0,.int .i64 0,.string ⟨#[]⟩])).run Tryz.prog w=.ok (.bool (!on && (c == [] && vSame ⟨sh,pr,si,st⟩ Val.zero))) w:=fun w => by
  have:=chg_eql6 c [] on false sh pr si 0 0 0 st [] w
  rw [chg_zero] at this
  exact this
 have hgd:Tryz.prog.eqGuardType Tryz.prog.depth 105=false:=by kernel_rfl
 obtain⟨r,hr⟩ : ∃ r,(!on && (c == [] && vSame ⟨sh,pr,si,st⟩ Val.zero))=r:=⟨_,rfl⟩
 rw [hr]
 simp only [hr] at hq
 clear hr
 cases r with
 | false =>
  rw [Bool.false_and]
  go_enter Tryz.func134,Tryz.ntmps134
  go_wp2_with fail
  refine (change_any k s on c sh pr si st sum _ _).mono ?_
  rintro e w1 ⟨rfl,b⟩
  have B1:=hZq (below2' B0.out b)
  obtain⟨hcl,_⟩:=bcellF b
  clear b
  go_wp2_with fail
  go_ret
  exact⟨rfl,B1.out⟩
 | true =>
  rw [Bool.true_and]
  by_cases hzlen:t.length=0
  ·have elen:((t.length:Int) == 0)=true:=by simp [hzlen]
   rw [show decide (t.length=0)=true by simp [hzlen]]
   clear hzlen
   go_enter Tryz.func134,Tryz.ntmps134
   go_wp2_with fail
   refine (change_any k s on c sh pr si st sum _ _).mono ?_
   rintro e w1 ⟨rfl,b⟩
   have B1:=hZq (below2' B0.out b)
   obtain⟨hcl,_⟩:=bcellF b
   clear b
   go_wp2_with fail
   go_ret
   exact⟨rfl,B1.out⟩
  ·have elen:((t.length:Int) == 0)=false:=by rw [beq_eq_false_iff_ne]; omega
   rw [show decide (t.length=0)=false by simp [hzlen]]
   clear hzlen
   go_enter Tryz.func134,Tryz.ntmps134
   go_wp2_with fail
   refine (change_any k s on c sh pr si st sum _ _).mono ?_
   rintro e w1 ⟨rfl,b⟩
   have B1:=hZq (below2' B0.out b)
   obtain⟨hcl,_⟩:=bcellF b
   clear b
   go_wp2_with fail
   go_ret
   exact⟨rfl,B1.out⟩

theorem maySnapshot_any {w:World} {v:Value} {t:List Row} (hv:Tab w v t) (k s:Int) (on:Bool) (c:List UInt8) (sh pr si:Int) (st:List UInt8) (sum:Nat) (hc:c.length≤4294967296) (hs:st.length≤4294967296) (hsh:Short t) :
  Calls Tryz.prog 137 #[.agg #[.int .i64 k,.int .i64 s,.bool on,.string ⟨c.toArray⟩,.int .i64 sh,.int .i64 pr,.int .i64 si,.string ⟨st.toArray⟩,.int .u64 sum,v]] w fun e w' => e=.returned (.bool ((!on && (c == [] && vSame ⟨sh,pr,si,st⟩ Val.zero)) && (decide (sum=0) && diMay t)))∧Below w.heap.size w w':=by
 have HV:=hZq hv
 obtain⟨a,cap,rfl,_⟩:=hv.open'
 clear hv
 have B0:Hid (Below w.heap.size w (w.alloc (.cells #[.int .i64 k,.int .i64 s,.bool on,.string ⟨c.toArray⟩,.int .i64 sh,.int .i64 pr,.int .i64 si,.string ⟨st.toArray⟩,.int .u64 sum,.slice a t.length cap] 56))):=hZq ((Below.refl _ _).alloc (Nat.le_refl _) _)
 have hq:∀ w,(binOp .eql 105 (.agg #[.string ⟨c.toArray⟩,.bool on,.int .i64 sh,.int .i64 pr,.int .i64 si,.string ⟨st.toArray⟩]) (.agg #[.string ⟨#[]⟩,.bool false,.int .i64 0,.int .i64 0,.int .i64 0,.string ⟨#[]⟩])).run Tryz.prog w=.ok (.bool (!on && (c == [] && vSame ⟨sh,pr,si,st⟩ Val.zero))) w:=fun w => by
  have:=chg_eql6 c [] on false sh pr si 0 0 0 st [] w
  rw [chg_zero] at this
  exact this
 have hgd:Tryz.prog.eqGuardType Tryz.prog.depth 105=false:=by kernel_rfl
 obtain⟨r,hr⟩ : ∃ r,(!on && (c == [] && vSame ⟨sh,pr,si,st⟩ Val.zero))=r:=⟨_,rfl⟩
 rw [hr]
 simp only [hr] at hq
 clear hr
 cases r with
 | false =>
  rw [Bool.false_and]
  go_enter Tryz.func137,Tryz.ntmps137
  go_wp2_with fail
  refine (change_any k s on c sh pr si st sum _ _).mono ?_
  rintro e w1 ⟨rfl,b⟩
  have B1:=hZq (below2' B0.out b)
  obtain⟨hcl,_⟩:=bcellF b
  clear b
  go_wp2_with fail
  go_ret
  exact⟨rfl,B1.out⟩
 | true =>
  rw [Bool.true_and]
  by_cases hzsum:sum=0
  ·have esum:((sum:Int) == 0)=true:=by simp [hzsum]
   rw [show decide (sum=0)=true by simp [hzsum],Bool.true_and]
   clear hzsum
   obtain⟨r2,hr2⟩ : ∃ r2,diMay t=r2:=⟨_,rfl⟩
   rw [hr2]
   have HM:=hZq hr2
   clear hr2
   go_enter Tryz.func137,Tryz.ntmps137
   go_wp2_with fail
   refine (change_any k s on c sh pr si st sum _ _).mono ?_
   rintro e w1 ⟨rfl,b⟩
   have B1:=hZq (below2' B0.out b)
   obtain⟨hcl,_⟩:=bcellF b
   clear b
   go_wp2_with fail
   refine (dimay_eq (HV.out.later B1.out) hsh HM).mono ?_
   rintro e w2 ⟨rfl,b⟩
   have B2:=hZq (below2' B1.out b)
   clear b
   go_wp2_with fail
   go_ret
   exact⟨rfl,B2.out⟩
  ·have esum:((sum:Int) == 0)=false:=by rw [beq_eq_false_iff_ne]; omega
   rw [show decide (sum=0)=false by simp [hzsum],Bool.false_and]
   clear hzsum
   go_enter Tryz.func137,Tryz.ntmps137
   go_wp2_with fail
   refine (change_any k s on c sh pr si st sum _ _).mono ?_
   rintro e w1 ⟨rfl,b⟩
   have B1:=hZq (below2' B0.out b)
   obtain⟨hcl,_⟩:=bcellF b
   clear b
   go_wp2_with fail
   go_ret
   exact⟨rfl,B1.out⟩

theorem mayResync_any {w:World} {v:Value} {t:List Row} (hv:Tab w v t) (k s:Int) (on:Bool) (c:List UInt8) (sh pr si:Int) (st:List UInt8) (sum:Nat) (hc:c.length≤4294967296) (hs:st.length≤4294967296) :
  Calls Tryz.prog 140 #[.agg #[.int .i64 k,.int .i64 s,.bool on,.string ⟨c.toArray⟩,.int .i64 sh,.int .i64 pr,.int .i64 si,.string ⟨st.toArray⟩,.int .u64 sum,v]] w fun e w' => e=.returned (.bool ((!on && (c == [] && vSame ⟨sh,pr,si,st⟩ Val.zero)) && (decide (sum=0) && decide (t.length=0))))∧Below w.heap.size w w':=by
 have HV:=hZq hv
 obtain⟨a,cap,rfl,_⟩:=hv.open'
 clear hv
 have B0:Hid (Below w.heap.size w (w.alloc (.cells #[.int .i64 k,.int .i64 s,.bool on,.string ⟨c.toArray⟩,.int .i64 sh,.int .i64 pr,.int .i64 si,.string ⟨st.toArray⟩,.int .u64 sum,.slice a t.length cap] 56))):=hZq ((Below.refl _ _).alloc (Nat.le_refl _) _)
 have hq:∀ w,(binOp .eql 105 (.agg #[.string ⟨c.toArray⟩,.bool on,.int .i64 sh,.int .i64 pr,.int .i64 si,.string ⟨st.toArray⟩]) (.agg #[.string ⟨#[]⟩,.bool false,.int .i64 0,.int .i64 0,.int .i64 0,.string ⟨#[]⟩])).run Tryz.prog w=.ok (.bool (!on && (c == [] && vSame ⟨sh,pr,si,st⟩ Val.zero))) w:=fun w => by
  have:=chg_eql6 c [] on false sh pr si 0 0 0 st [] w
  rw [chg_zero] at this
  exact this
 have hgd:Tryz.prog.eqGuardType Tryz.prog.depth 105=false:=by kernel_rfl
 obtain⟨r,hr⟩ : ∃ r,(!on && (c == [] && vSame ⟨sh,pr,si,st⟩ Val.zero))=r:=⟨_,rfl⟩
 rw [hr]
 simp only [hr] at hq
 clear hr
 cases r with
 | false =>
  rw [Bool.false_and]
  go_enter Tryz.func140,Tryz.ntmps140
  go_wp2_with fail
  refine (change_any k s on c sh pr si st sum _ _).mono ?_
  rintro e w1 ⟨rfl,b⟩
  have B1:=hZq (below2' B0.out b)
  obtain⟨hcl,_⟩:=bcellF b
  clear b
  go_wp2_with fail
  go_ret
  exact⟨rfl,B1.out⟩
 | true =>
  rw [Bool.true_and]
  by_cases hzsum:sum=0
  ·have esum:((sum:Int) == 0)=true:=by simp [hzsum]
   rw [show decide (sum=0)=true by simp [hzsum],Bool.true_and]
   clear hzsum
   by_cases hzlen:t.length=0
   ·have elen:((t.length:Int) == 0)=true:=by simp [hzlen]
    rw [show decide (t.length=0)=true by simp [hzlen]]
    clear hzlen
    go_enter Tryz.func140,Tryz.ntmps140
    go_wp2_with fail
    refine (change_any k s on c sh pr si st sum _ _).mono ?_
    rintro e w1 ⟨rfl,b⟩
    have B1:=hZq (below2' B0.out b)
    obtain⟨hcl,_⟩:=bcellF b
    clear b
    go_wp2_with fail
    go_ret
    exact⟨rfl,B1.out⟩
   ·have elen:((t.length:Int) == 0)=false:=by rw [beq_eq_false_iff_ne]; omega
    rw [show decide (t.length=0)=false by simp [hzlen]]
    clear hzlen
    go_enter Tryz.func140,Tryz.ntmps140
    go_wp2_with fail
    refine (change_any k s on c sh pr si st sum _ _).mono ?_
    rintro e w1 ⟨rfl,b⟩
    have B1:=hZq (below2' B0.out b)
    obtain⟨hcl,_⟩:=bcellF b
    clear b
    go_wp2_with fail
    go_ret
    exact⟨rfl,B1.out⟩
  ·have esum:((sum:Int) == 0)=false:=by rw [beq_eq_false_iff_ne]; omega
   rw [show decide (sum=0)=false by simp [hzsum],Bool.false_and]
   clear hzsum
   go_enter Tryz.func140,Tryz.ntmps140
   go_wp2_with fail
   refine (change_any k s on c sh pr si st sum _ _).mono ?_
   rintro e w1 ⟨rfl,b⟩
   have B1:=hZq (below2' B0.out b)
   obtain⟨hcl,_⟩:=bcellF b
   clear b
   go_wp2_with fail
   go_ret
   exact⟨rfl,B1.out⟩
end Go.Proofs.YtmpigdokghngiaaGreat
