/-
 TEXTS OF THE PROOF, one behind the other: FraMayF, FraPut, FraSum, FraPutK.
-/
import Derived.Test.YtmpigdokghngiaaGreatQ06
import Derived.Test.YtmpigdokghngiaaGreatQ02
import Derived.Test.YtmpigdokghngiaaGreatQ01
import Derived.Deep.RegionHeld

set_option maxHeartbeats 12800000
set_option maxRecDepth 100000

set_option linter.unusedVariables false

namespace Go.Proofs.YtmpigdokghngiaaGreat
section
open Go.RowKit

abbrev frBox (w:World) (k s:Int) (on:Bool) (c:List UInt8) (sh pr si:Int) (st:List UInt8) (sum:Nat) (v:Value):World :=
 w.alloc (.cells #[.int .i64 k,.int .i64 s,.bool on,.string ⟨c.toArray⟩,.int .i64 sh,.int .i64 pr,.int .i64 si,.string ⟨st.toArray⟩,.int .u64 sum,v] 56)

theorem frmay_out (k s:Int) (on:Bool) (c:List UInt8) (sh pr si:Int) (st:List UInt8) (sum:Nat) (v:Value) (hk:k < 1∨4 < k) (w:World) :
  Calls Tryz.prog 79 #[.agg #[.int .i64 k,.int .i64 s,.bool on,.string ⟨c.toArray⟩,.int .i64 sh,.int .i64 pr,.int .i64 si,.string ⟨st.toArray⟩,.int .u64 sum,v]] w fun e w' => e=.returned (.bool false)∧Below w.heap.size w w':=by
 have e0:(decide (1≤k) && decide (k≤4))=false:=by simp; omega
 have HI:=hZq fun w => isKind_any k w
 simp only [e0] at HI
 have B0:Hid (Below w.heap.size w (w.alloc (.cells #[.int .i64 k,.int .i64 s,.bool on,.string ⟨c.toArray⟩,.int .i64 sh,.int .i64 pr,.int .i64 si,.string ⟨st.toArray⟩,.int .u64 sum,v] 56))):=hZq ((Below.refl _ _).alloc (Nat.le_refl _) _)
 have g0:=cell_regrown (w:=w.alloc (.cells #[.int .i64 k,.int .i64 s,.bool on,.string ⟨c.toArray⟩,.int .i64 sh,.int .i64 pr,.int .i64 si,.string ⟨st.toArray⟩,.int .u64 sum,v] 56)) (a:=⟨w.heap.size,0,none⟩) (v:=.int .i64 k) (by simp)
 have g1:=cell_regrown (w:=w.alloc (.cells #[.int .i64 k,.int .i64 s,.bool on,.string ⟨c.toArray⟩,.int .i64 sh,.int .i64 pr,.int .i64 si,.string ⟨st.toArray⟩,.int .u64 sum,v] 56)) (a:=⟨w.heap.size,1,none⟩) (v:=.int .i64 s) (by simp)
 have g2:=cell_regrown (w:=w.alloc (.cells #[.int .i64 k,.int .i64 s,.bool on,.string ⟨c.toArray⟩,.int .i64 sh,.int .i64 pr,.int .i64 si,.string ⟨st.toArray⟩,.int .u64 sum,v] 56)) (a:=⟨w.heap.size,2,none⟩) (v:=.bool on) (by simp)
 have g3:=cell_regrown (w:=w.alloc (.cells #[.int .i64 k,.int .i64 s,.bool on,.string ⟨c.toArray⟩,.int .i64 sh,.int .i64 pr,.int .i64 si,.string ⟨st.toArray⟩,.int .u64 sum,v] 56)) (a:=⟨w.heap.size,3,none⟩) (v:=.string ⟨c.toArray⟩) (by simp)
 have g4:=cell_regrown (w:=w.alloc (.cells #[.int .i64 k,.int .i64 s,.bool on,.string ⟨c.toArray⟩,.int .i64 sh,.int .i64 pr,.int .i64 si,.string ⟨st.toArray⟩,.int .u64 sum,v] 56)) (a:=⟨w.heap.size,4,none⟩) (v:=.int .i64 sh) (by simp)
 have g5:=cell_regrown (w:=w.alloc (.cells #[.int .i64 k,.int .i64 s,.bool on,.string ⟨c.toArray⟩,.int .i64 sh,.int .i64 pr,.int .i64 si,.string ⟨st.toArray⟩,.int .u64 sum,v] 56)) (a:=⟨w.heap.size,5,none⟩) (v:=.int .i64 pr) (by simp)
 have g6:=cell_regrown (w:=w.alloc (.cells #[.int .i64 k,.int .i64 s,.bool on,.string ⟨c.toArray⟩,.int .i64 sh,.int .i64 pr,.int .i64 si,.string ⟨st.toArray⟩,.int .u64 sum,v] 56)) (a:=⟨w.heap.size,6,none⟩) (v:=.int .i64 si) (by simp)
 have g7:=cell_regrown (w:=w.alloc (.cells #[.int .i64 k,.int .i64 s,.bool on,.string ⟨c.toArray⟩,.int .i64 sh,.int .i64 pr,.int .i64 si,.string ⟨st.toArray⟩,.int .u64 sum,v] 56)) (a:=⟨w.heap.size,7,none⟩) (v:=.string ⟨st.toArray⟩) (by simp)
 have g8:=cell_regrown (w:=w.alloc (.cells #[.int .i64 k,.int .i64 s,.bool on,.string ⟨c.toArray⟩,.int .i64 sh,.int .i64 pr,.int .i64 si,.string ⟨st.toArray⟩,.int .u64 sum,v] 56)) (a:=⟨w.heap.size,8,none⟩) (v:=.int .u64 sum) (by simp)
 have g9:=cell_regrown (w:=w.alloc (.cells #[.int .i64 k,.int .i64 s,.bool on,.string ⟨c.toArray⟩,.int .i64 sh,.int .i64 pr,.int .i64 si,.string ⟨st.toArray⟩,.int .u64 sum,v] 56)) (a:=⟨w.heap.size,9,none⟩) (v:=v) (by simp)
 clear hk e0
 go_enter Tryz.func79,Tryz.ntmps79
 go_wp2_with fail
 refine wp_region_quiet_below (by kernel_rfl) (by kernel_rfl) ?_
 repeat (go_big_quiet_step (with_reducible exact rgS HI.out _ _ _))
 refine wpQuiet_nil ?_
 intro w5 hw5
 have B5:=hZq (below2' B0.out (below_regrownF hw5))
 clear hw5 g0 g1 g2 g3 g4 g5 g6 g7 g8 g9
 go_wp2_with fail
 go_ret
 exact⟨rfl,B5.out⟩

theorem frmay_1 {w:World} {v:Value} {t:List Row} (hv:Tab w v t) (hsh:Short t) (s:Int) (on:Bool) (c:List UInt8) (sh pr si:Int) (st:List UInt8) (sum:Nat) (hc:c.length≤4294967296) (hs:st.length≤4294967296) :
  Calls Tryz.prog 79 #[.agg #[.int .i64 1,.int .i64 s,.bool on,.string ⟨c.toArray⟩,.int .i64 sh,.int .i64 pr,.int .i64 si,.string ⟨st.toArray⟩,.int .u64 sum,v]] w fun e w' => e=.returned (.bool (frMay ⟨1,s,on,c,⟨sh,pr,si,st⟩,sum,t⟩))∧Below w.heap.size w w':=by
 have e0:(decide ((1:Int)≤1) && decide ((1:Int)≤4))=true:=by decide
 have HI:=hZq fun w => isKind_any 1 w
 simp only [e0] at HI
 clear e0
 have B0:Hid (Below w.heap.size w (w.alloc (.cells #[.int .i64 1,.int .i64 s,.bool on,.string ⟨c.toArray⟩,.int .i64 sh,.int .i64 pr,.int .i64 si,.string ⟨st.toArray⟩,.int .u64 sum,v] 56))):=hZq ((Below.refl _ _).alloc (Nat.le_refl _) _)
 have g0:=cell_regrown (w:=w.alloc (.cells #[.int .i64 1,.int .i64 s,.bool on,.string ⟨c.toArray⟩,.int .i64 sh,.int .i64 pr,.int .i64 si,.string ⟨st.toArray⟩,.int .u64 sum,v] 56)) (a:=⟨w.heap.size,0,none⟩) (v:=.int .i64 1) (by simp)
 have g1:=cell_regrown (w:=w.alloc (.cells #[.int .i64 1,.int .i64 s,.bool on,.string ⟨c.toArray⟩,.int .i64 sh,.int .i64 pr,.int .i64 si,.string ⟨st.toArray⟩,.int .u64 sum,v] 56)) (a:=⟨w.heap.size,1,none⟩) (v:=.int .i64 s) (by simp)
 have g2:=cell_regrown (w:=w.alloc (.cells #[.int .i64 1,.int .i64 s,.bool on,.string ⟨c.toArray⟩,.int .i64 sh,.int .i64 pr,.int .i64 si,.string ⟨st.toArray⟩,.int .u64 sum,v] 56)) (a:=⟨w.heap.size,2,none⟩) (v:=.bool on) (by simp)
 have g3:=cell_regrown (w:=w.alloc (.cells #[.int .i64 1,.int .i64 s,.bool on,.string ⟨c.toArray⟩,.int .i64 sh,.int .i64 pr,.int .i64 si,.string ⟨st.toArray⟩,.int .u64 sum,v] 56)) (a:=⟨w.heap.size,3,none⟩) (v:=.string ⟨c.toArray⟩) (by simp)
 have g4:=cell_regrown (w:=w.alloc (.cells #[.int .i64 1,.int .i64 s,.bool on,.string ⟨c.toArray⟩,.int .i64 sh,.int .i64 pr,.int .i64 si,.string ⟨st.toArray⟩,.int .u64 sum,v] 56)) (a:=⟨w.heap.size,4,none⟩) (v:=.int .i64 sh) (by simp)
 have g5:=cell_regrown (w:=w.alloc (.cells #[.int .i64 1,.int .i64 s,.bool on,.string ⟨c.toArray⟩,.int .i64 sh,.int .i64 pr,.int .i64 si,.string ⟨st.toArray⟩,.int .u64 sum,v] 56)) (a:=⟨w.heap.size,5,none⟩) (v:=.int .i64 pr) (by simp)
 have g6:=cell_regrown (w:=w.alloc (.cells #[.int .i64 1,.int .i64 s,.bool on,.string ⟨c.toArray⟩,.int .i64 sh,.int .i64 pr,.int .i64 si,.string ⟨st.toArray⟩,.int .u64 sum,v] 56)) (a:=⟨w.heap.size,6,none⟩) (v:=.int .i64 si) (by simp)
 have g7:=cell_regrown (w:=w.alloc (.cells #[.int .i64 1,.int .i64 s,.bool on,.string ⟨c.toArray⟩,.int .i64 sh,.int .i64 pr,.int .i64 si,.string ⟨st.toArray⟩,.int .u64 sum,v] 56)) (a:=⟨w.heap.size,7,none⟩) (v:=.string ⟨st.toArray⟩) (by simp)
 have g8:=cell_regrown (w:=w.alloc (.cells #[.int .i64 1,.int .i64 s,.bool on,.string ⟨c.toArray⟩,.int .i64 sh,.int .i64 pr,.int .i64 si,.string ⟨st.toArray⟩,.int .u64 sum,v] 56)) (a:=⟨w.heap.size,8,none⟩) (v:=.int .u64 sum) (by simp)
 have g9:=cell_regrown (w:=w.alloc (.cells #[.int .i64 1,.int .i64 s,.bool on,.string ⟨c.toArray⟩,.int .i64 sh,.int .i64 pr,.int .i64 si,.string ⟨st.toArray⟩,.int .u64 sum,v] 56)) (a:=⟨w.heap.size,9,none⟩) (v:=v) (by simp)
 have HK:Hid (∀ d os,Calls Tryz.prog 131 #[.agg #[.int .i64 1,.int .i64 s,.bool on,.string ⟨c.toArray⟩,.int .i64 sh,.int .i64 pr,.int .i64 si,.string ⟨st.toArray⟩,.int .u64 sum,v]] (Sort.grow (redrawn (w.alloc (.cells #[.int .i64 1,.int .i64 s,.bool on,.string ⟨c.toArray⟩,.int .i64 sh,.int .i64 pr,.int .i64 si,.string ⟨st.toArray⟩,.int .u64 sum,v] 56)) d) os) fun e w'' => e=.returned (.bool (frRest ⟨1,s,on,c,⟨sh,pr,si,st⟩,sum,t⟩))∧∃ p:Regrown,w''=Sort.grow (redrawn (w.alloc (.cells #[.int .i64 1,.int .i64 s,.bool on,.string ⟨c.toArray⟩,.int .i64 sh,.int .i64 pr,.int .i64 si,.string ⟨st.toArray⟩,.int .u64 sum,v] 56)) p.d) p.os):=hZq fun d os =>
  Calls.regrown_of ((mayDelta_any ((hv.later B0.out).later (below_regrown _ d os)) 1 s on c sh pr si st sum hc hs).mono fun e w' h => ⟨h.1.trans (by unfold frRest; simp),h.2⟩)
 have hix:∀ w,(Instr.index 138 kindsV (.int .i64 1)).run Tryz.prog w=.ok (.agg #[.func (.func 131) #[] #[],.func (.func 132) #[] #[],.func (.func 133) #[] #[]]) w:=fun _ => by kernel_rfl
 have hfd:∀ w,(Instr.field 137 (.agg #[.func (.func 131) #[] #[],.func (.func 132) #[] #[],.func (.func 133) #[] #[]]) 0).run Tryz.prog w=.ok (.func (.func 131) #[] #[]) w:=fun _ => by kernel_rfl
 have HKD:=hZq kindsF_any
 have hm:frMay ⟨1,s,on,c,⟨sh,pr,si,st⟩,sum,t⟩=((decide (0≤s) && decide (s≤1099511627776)) && frRest ⟨1,s,on,c,⟨sh,pr,si,st⟩,sum,t⟩):=by unfold frMay; simp
 rw [hm]
 obtain⟨r,hr⟩ : ∃ r,frRest ⟨1,s,on,c,⟨sh,pr,si,st⟩,sum,t⟩=r:=⟨_,rfl⟩
 rw [hr] at HK ⊢
 clear hr hm hv hsh hc hs
 by_cases h0:0≤s
 ·by_cases h1:s≤1099511627776
  ·rw [show ((decide (0≤s) && decide (s≤1099511627776)) && r)=r by simp [h0,h1]]
   go_enter Tryz.func79,Tryz.ntmps79
   go_wp2_with fail
   refine wp_region_quiet_below (by kernel_rfl) (by kernel_rfl) ?_
   repeat (go_big_quiet_step (first | with_reducible exact rgS HI.out _ _ _ | with_reducible exact rgB HKD.out _ _ _ | with_reducible exact HK.out _ _))
   refine wpQuiet_nil ?_
   intro w5 hw5
   have B5:=hZq (below2' B0.out (below_regrownF hw5))
   clear hw5 g0 g1 g2 g3 g4 g5 g6 g7 g8 g9
   go_wp2_with fail
   go_ret
   exact⟨rfl,B5.out⟩
  ·rw [show ((decide (0≤s) && decide (s≤1099511627776)) && r)=false by simp [h1]]
   have t1:decide (s≤1099511627776)=false:=by simpa using h1
   go_enter Tryz.func79,Tryz.ntmps79
   go_wp2_with fail
   refine wp_region_quiet_below (by kernel_rfl) (by kernel_rfl) ?_
   repeat (go_big_quiet_step (with_reducible exact rgS HI.out _ _ _))
   refine wpQuiet_nil ?_
   intro w5 hw5
   have B5:=hZq (below2' B0.out (below_regrownF hw5))
   clear hw5 g0 g1 g2 g3 g4 g5 g6 g7 g8 g9
   go_wp2_with fail
   go_ret
   exact⟨rfl,B5.out⟩
 ·rw [show ((decide (0≤s) && decide (s≤1099511627776)) && r)=false by simp [h0]]
  have t1:decide (0≤s)=false:=by simpa using h0
  go_enter Tryz.func79,Tryz.ntmps79
  go_wp2_with fail
  refine wp_region_quiet_below (by kernel_rfl) (by kernel_rfl) ?_
  repeat (go_big_quiet_step (with_reducible exact rgS HI.out _ _ _))
  refine wpQuiet_nil ?_
  intro w5 hw5
  have B5:=hZq (below2' B0.out (below_regrownF hw5))
  clear hw5 g0 g1 g2 g3 g4 g5 g6 g7 g8 g9
  go_wp2_with fail
  go_ret
  exact⟨rfl,B5.out⟩

theorem frmay_2 {w:World} {v:Value} {t:List Row} (hv:Tab w v t) (hsh:Short t) (s:Int) (on:Bool) (c:List UInt8) (sh pr si:Int) (st:List UInt8) (sum:Nat) (hc:c.length≤4294967296) (hs:st.length≤4294967296) :
  Calls Tryz.prog 79 #[.agg #[.int .i64 2,.int .i64 s,.bool on,.string ⟨c.toArray⟩,.int .i64 sh,.int .i64 pr,.int .i64 si,.string ⟨st.toArray⟩,.int .u64 sum,v]] w fun e w' => e=.returned (.bool (frMay ⟨2,s,on,c,⟨sh,pr,si,st⟩,sum,t⟩))∧Below w.heap.size w w':=by
 have e0:(decide ((1:Int)≤2) && decide ((2:Int)≤4))=true:=by decide
 have HI:=hZq fun w => isKind_any 2 w
 simp only [e0] at HI
 clear e0
 have B0:Hid (Below w.heap.size w (w.alloc (.cells #[.int .i64 2,.int .i64 s,.bool on,.string ⟨c.toArray⟩,.int .i64 sh,.int .i64 pr,.int .i64 si,.string ⟨st.toArray⟩,.int .u64 sum,v] 56))):=hZq ((Below.refl _ _).alloc (Nat.le_refl _) _)
 have g0:=cell_regrown (w:=w.alloc (.cells #[.int .i64 2,.int .i64 s,.bool on,.string ⟨c.toArray⟩,.int .i64 sh,.int .i64 pr,.int .i64 si,.string ⟨st.toArray⟩,.int .u64 sum,v] 56)) (a:=⟨w.heap.size,0,none⟩) (v:=.int .i64 2) (by simp)
 have g1:=cell_regrown (w:=w.alloc (.cells #[.int .i64 2,.int .i64 s,.bool on,.string ⟨c.toArray⟩,.int .i64 sh,.int .i64 pr,.int .i64 si,.string ⟨st.toArray⟩,.int .u64 sum,v] 56)) (a:=⟨w.heap.size,1,none⟩) (v:=.int .i64 s) (by simp)
 have g2:=cell_regrown (w:=w.alloc (.cells #[.int .i64 2,.int .i64 s,.bool on,.string ⟨c.toArray⟩,.int .i64 sh,.int .i64 pr,.int .i64 si,.string ⟨st.toArray⟩,.int .u64 sum,v] 56)) (a:=⟨w.heap.size,2,none⟩) (v:=.bool on) (by simp)
 have g3:=cell_regrown (w:=w.alloc (.cells #[.int .i64 2,.int .i64 s,.bool on,.string ⟨c.toArray⟩,.int .i64 sh,.int .i64 pr,.int .i64 si,.string ⟨st.toArray⟩,.int .u64 sum,v] 56)) (a:=⟨w.heap.size,3,none⟩) (v:=.string ⟨c.toArray⟩) (by simp)
 have g4:=cell_regrown (w:=w.alloc (.cells #[.int .i64 2,.int .i64 s,.bool on,.string ⟨c.toArray⟩,.int .i64 sh,.int .i64 pr,.int .i64 si,.string ⟨st.toArray⟩,.int .u64 sum,v] 56)) (a:=⟨w.heap.size,4,none⟩) (v:=.int .i64 sh) (by simp)
 have g5:=cell_regrown (w:=w.alloc (.cells #[.int .i64 2,.int .i64 s,.bool on,.string ⟨c.toArray⟩,.int .i64 sh,.int .i64 pr,.int .i64 si,.string ⟨st.toArray⟩,.int .u64 sum,v] 56)) (a:=⟨w.heap.size,5,none⟩) (v:=.int .i64 pr) (by simp)
 have g6:=cell_regrown (w:=w.alloc (.cells #[.int .i64 2,.int .i64 s,.bool on,.string ⟨c.toArray⟩,.int .i64 sh,.int .i64 pr,.int .i64 si,.string ⟨st.toArray⟩,.int .u64 sum,v] 56)) (a:=⟨w.heap.size,6,none⟩) (v:=.int .i64 si) (by simp)
 have g7:=cell_regrown (w:=w.alloc (.cells #[.int .i64 2,.int .i64 s,.bool on,.string ⟨c.toArray⟩,.int .i64 sh,.int .i64 pr,.int .i64 si,.string ⟨st.toArray⟩,.int .u64 sum,v] 56)) (a:=⟨w.heap.size,7,none⟩) (v:=.string ⟨st.toArray⟩) (by simp)
 have g8:=cell_regrown (w:=w.alloc (.cells #[.int .i64 2,.int .i64 s,.bool on,.string ⟨c.toArray⟩,.int .i64 sh,.int .i64 pr,.int .i64 si,.string ⟨st.toArray⟩,.int .u64 sum,v] 56)) (a:=⟨w.heap.size,8,none⟩) (v:=.int .u64 sum) (by simp)
 have g9:=cell_regrown (w:=w.alloc (.cells #[.int .i64 2,.int .i64 s,.bool on,.string ⟨c.toArray⟩,.int .i64 sh,.int .i64 pr,.int .i64 si,.string ⟨st.toArray⟩,.int .u64 sum,v] 56)) (a:=⟨w.heap.size,9,none⟩) (v:=v) (by simp)
 have HK:Hid (∀ d os,Calls Tryz.prog 134 #[.agg #[.int .i64 2,.int .i64 s,.bool on,.string ⟨c.toArray⟩,.int .i64 sh,.int .i64 pr,.int .i64 si,.string ⟨st.toArray⟩,.int .u64 sum,v]] (Sort.grow (redrawn (w.alloc (.cells #[.int .i64 2,.int .i64 s,.bool on,.string ⟨c.toArray⟩,.int .i64 sh,.int .i64 pr,.int .i64 si,.string ⟨st.toArray⟩,.int .u64 sum,v] 56)) d) os) fun e w'' => e=.returned (.bool (frRest ⟨2,s,on,c,⟨sh,pr,si,st⟩,sum,t⟩))∧∃ p:Regrown,w''=Sort.grow (redrawn (w.alloc (.cells #[.int .i64 2,.int .i64 s,.bool on,.string ⟨c.toArray⟩,.int .i64 sh,.int .i64 pr,.int .i64 si,.string ⟨st.toArray⟩,.int .u64 sum,v] 56)) p.d) p.os):=hZq fun d os =>
  Calls.regrown_of ((mayDigest_any ((hv.later B0.out).later (below_regrown _ d os)) 2 s on c sh pr si st sum hc hs).mono fun e w' h => ⟨h.1.trans (by unfold frRest; simp),h.2⟩)
 have hix:∀ w,(Instr.index 138 kindsV (.int .i64 2)).run Tryz.prog w=.ok (.agg #[.func (.func 134) #[] #[],.func (.func 135) #[] #[],.func (.func 136) #[] #[]]) w:=fun _ => by kernel_rfl
 have hfd:∀ w,(Instr.field 137 (.agg #[.func (.func 134) #[] #[],.func (.func 135) #[] #[],.func (.func 136) #[] #[]]) 0).run Tryz.prog w=.ok (.func (.func 134) #[] #[]) w:=fun _ => by kernel_rfl
 have HKD:=hZq kindsF_any
 have hm:frMay ⟨2,s,on,c,⟨sh,pr,si,st⟩,sum,t⟩=((decide (0≤s) && decide (s≤1099511627776)) && frRest ⟨2,s,on,c,⟨sh,pr,si,st⟩,sum,t⟩):=by unfold frMay; simp
 rw [hm]
 obtain⟨r,hr⟩ : ∃ r,frRest ⟨2,s,on,c,⟨sh,pr,si,st⟩,sum,t⟩=r:=⟨_,rfl⟩
 rw [hr] at HK ⊢
 clear hr hm hv hsh hc hs
 by_cases h0:0≤s
 ·by_cases h1:s≤1099511627776
  ·rw [show ((decide (0≤s) && decide (s≤1099511627776)) && r)=r by simp [h0,h1]]
   go_enter Tryz.func79,Tryz.ntmps79
   go_wp2_with fail
   refine wp_region_quiet_below (by kernel_rfl) (by kernel_rfl) ?_
   repeat (go_big_quiet_step (first | with_reducible exact rgS HI.out _ _ _ | with_reducible exact rgB HKD.out _ _ _ | with_reducible exact HK.out _ _))
   refine wpQuiet_nil ?_
   intro w5 hw5
   have B5:=hZq (below2' B0.out (below_regrownF hw5))
   clear hw5 g0 g1 g2 g3 g4 g5 g6 g7 g8 g9
   go_wp2_with fail
   go_ret
   exact⟨rfl,B5.out⟩
  ·rw [show ((decide (0≤s) && decide (s≤1099511627776)) && r)=false by simp [h1]]
   have t1:decide (s≤1099511627776)=false:=by simpa using h1
   go_enter Tryz.func79,Tryz.ntmps79
   go_wp2_with fail
   refine wp_region_quiet_below (by kernel_rfl) (by kernel_rfl) ?_
   repeat (go_big_quiet_step (with_reducible exact rgS HI.out _ _ _))
   refine wpQuiet_nil ?_
   intro w5 hw5
   have B5:=hZq (below2' B0.out (below_regrownF hw5))
   clear hw5 g0 g1 g2 g3 g4 g5 g6 g7 g8 g9
   go_wp2_with fail
   go_ret
   exact⟨rfl,B5.out⟩
 ·rw [show ((decide (0≤s) && decide (s≤1099511627776)) && r)=false by simp [h0]]
  have t1:decide (0≤s)=false:=by simpa using h0
  go_enter Tryz.func79,Tryz.ntmps79
  go_wp2_with fail
  refine wp_region_quiet_below (by kernel_rfl) (by kernel_rfl) ?_
  repeat (go_big_quiet_step (with_reducible exact rgS HI.out _ _ _))
  refine wpQuiet_nil ?_
  intro w5 hw5
  have B5:=hZq (below2' B0.out (below_regrownF hw5))
  clear hw5 g0 g1 g2 g3 g4 g5 g6 g7 g8 g9
  go_wp2_with fail
  go_ret
  exact⟨rfl,B5.out⟩

theorem frmay_3 {w:World} {v:Value} {t:List Row} (hv:Tab w v t) (hsh:Short t) (s:Int) (on:Bool) (c:List UInt8) (sh pr si:Int) (st:List UInt8) (sum:Nat) (hc:c.length≤4294967296) (hs:st.length≤4294967296) :
  Calls Tryz.prog 79 #[.agg #[.int .i64 3,.int .i64 s,.bool on,.string ⟨c.toArray⟩,.int .i64 sh,.int .i64 pr,.int .i64 si,.string ⟨st.toArray⟩,.int .u64 sum,v]] w fun e w' => e=.returned (.bool (frMay ⟨3,s,on,c,⟨sh,pr,si,st⟩,sum,t⟩))∧Below w.heap.size w w':=by
 have e0:(decide ((1:Int)≤3) && decide ((3:Int)≤4))=true:=by decide
 have HI:=hZq fun w => isKind_any 3 w
 simp only [e0] at HI
 clear e0
 have B0:Hid (Below w.heap.size w (w.alloc (.cells #[.int .i64 3,.int .i64 s,.bool on,.string ⟨c.toArray⟩,.int .i64 sh,.int .i64 pr,.int .i64 si,.string ⟨st.toArray⟩,.int .u64 sum,v] 56))):=hZq ((Below.refl _ _).alloc (Nat.le_refl _) _)
 have g0:=cell_regrown (w:=w.alloc (.cells #[.int .i64 3,.int .i64 s,.bool on,.string ⟨c.toArray⟩,.int .i64 sh,.int .i64 pr,.int .i64 si,.string ⟨st.toArray⟩,.int .u64 sum,v] 56)) (a:=⟨w.heap.size,0,none⟩) (v:=.int .i64 3) (by simp)
 have g1:=cell_regrown (w:=w.alloc (.cells #[.int .i64 3,.int .i64 s,.bool on,.string ⟨c.toArray⟩,.int .i64 sh,.int .i64 pr,.int .i64 si,.string ⟨st.toArray⟩,.int .u64 sum,v] 56)) (a:=⟨w.heap.size,1,none⟩) (v:=.int .i64 s) (by simp)
 have g2:=cell_regrown (w:=w.alloc (.cells #[.int .i64 3,.int .i64 s,.bool on,.string ⟨c.toArray⟩,.int .i64 sh,.int .i64 pr,.int .i64 si,.string ⟨st.toArray⟩,.int .u64 sum,v] 56)) (a:=⟨w.heap.size,2,none⟩) (v:=.bool on) (by simp)
 have g3:=cell_regrown (w:=w.alloc (.cells #[.int .i64 3,.int .i64 s,.bool on,.string ⟨c.toArray⟩,.int .i64 sh,.int .i64 pr,.int .i64 si,.string ⟨st.toArray⟩,.int .u64 sum,v] 56)) (a:=⟨w.heap.size,3,none⟩) (v:=.string ⟨c.toArray⟩) (by simp)
 have g4:=cell_regrown (w:=w.alloc (.cells #[.int .i64 3,.int .i64 s,.bool on,.string ⟨c.toArray⟩,.int .i64 sh,.int .i64 pr,.int .i64 si,.string ⟨st.toArray⟩,.int .u64 sum,v] 56)) (a:=⟨w.heap.size,4,none⟩) (v:=.int .i64 sh) (by simp)
 have g5:=cell_regrown (w:=w.alloc (.cells #[.int .i64 3,.int .i64 s,.bool on,.string ⟨c.toArray⟩,.int .i64 sh,.int .i64 pr,.int .i64 si,.string ⟨st.toArray⟩,.int .u64 sum,v] 56)) (a:=⟨w.heap.size,5,none⟩) (v:=.int .i64 pr) (by simp)
 have g6:=cell_regrown (w:=w.alloc (.cells #[.int .i64 3,.int .i64 s,.bool on,.string ⟨c.toArray⟩,.int .i64 sh,.int .i64 pr,.int .i64 si,.string ⟨st.toArray⟩,.int .u64 sum,v] 56)) (a:=⟨w.heap.size,6,none⟩) (v:=.int .i64 si) (by simp)
 have g7:=cell_regrown (w:=w.alloc (.cells #[.int .i64 3,.int .i64 s,.bool on,.string ⟨c.toArray⟩,.int .i64 sh,.int .i64 pr,.int .i64 si,.string ⟨st.toArray⟩,.int .u64 sum,v] 56)) (a:=⟨w.heap.size,7,none⟩) (v:=.string ⟨st.toArray⟩) (by simp)
 have g8:=cell_regrown (w:=w.alloc (.cells #[.int .i64 3,.int .i64 s,.bool on,.string ⟨c.toArray⟩,.int .i64 sh,.int .i64 pr,.int .i64 si,.string ⟨st.toArray⟩,.int .u64 sum,v] 56)) (a:=⟨w.heap.size,8,none⟩) (v:=.int .u64 sum) (by simp)
 have g9:=cell_regrown (w:=w.alloc (.cells #[.int .i64 3,.int .i64 s,.bool on,.string ⟨c.toArray⟩,.int .i64 sh,.int .i64 pr,.int .i64 si,.string ⟨st.toArray⟩,.int .u64 sum,v] 56)) (a:=⟨w.heap.size,9,none⟩) (v:=v) (by simp)
 have HK:Hid (∀ d os,Calls Tryz.prog 137 #[.agg #[.int .i64 3,.int .i64 s,.bool on,.string ⟨c.toArray⟩,.int .i64 sh,.int .i64 pr,.int .i64 si,.string ⟨st.toArray⟩,.int .u64 sum,v]] (Sort.grow (redrawn (w.alloc (.cells #[.int .i64 3,.int .i64 s,.bool on,.string ⟨c.toArray⟩,.int .i64 sh,.int .i64 pr,.int .i64 si,.string ⟨st.toArray⟩,.int .u64 sum,v] 56)) d) os) fun e w'' => e=.returned (.bool (frRest ⟨3,s,on,c,⟨sh,pr,si,st⟩,sum,t⟩))∧∃ p:Regrown,w''=Sort.grow (redrawn (w.alloc (.cells #[.int .i64 3,.int .i64 s,.bool on,.string ⟨c.toArray⟩,.int .i64 sh,.int .i64 pr,.int .i64 si,.string ⟨st.toArray⟩,.int .u64 sum,v] 56)) p.d) p.os):=hZq fun d os =>
  Calls.regrown_of ((maySnapshot_any ((hv.later B0.out).later (below_regrown _ d os)) 3 s on c sh pr si st sum hc hs hsh).mono fun e w' h => ⟨h.1.trans (by unfold frRest; simp),h.2⟩)
 have hix:∀ w,(Instr.index 138 kindsV (.int .i64 3)).run Tryz.prog w=.ok (.agg #[.func (.func 137) #[] #[],.func (.func 138) #[] #[],.func (.func 139) #[] #[]]) w:=fun _ => by kernel_rfl
 have hfd:∀ w,(Instr.field 137 (.agg #[.func (.func 137) #[] #[],.func (.func 138) #[] #[],.func (.func 139) #[] #[]]) 0).run Tryz.prog w=.ok (.func (.func 137) #[] #[]) w:=fun _ => by kernel_rfl
 have HKD:=hZq kindsF_any
 have hm:frMay ⟨3,s,on,c,⟨sh,pr,si,st⟩,sum,t⟩=((decide (0≤s) && decide (s≤1099511627776)) && frRest ⟨3,s,on,c,⟨sh,pr,si,st⟩,sum,t⟩):=by unfold frMay; simp
 rw [hm]
 obtain⟨r,hr⟩ : ∃ r,frRest ⟨3,s,on,c,⟨sh,pr,si,st⟩,sum,t⟩=r:=⟨_,rfl⟩
 rw [hr] at HK ⊢
 clear hr hm hv hsh hc hs
 by_cases h0:0≤s
 ·by_cases h1:s≤1099511627776
  ·rw [show ((decide (0≤s) && decide (s≤1099511627776)) && r)=r by simp [h0,h1]]
   go_enter Tryz.func79,Tryz.ntmps79
   go_wp2_with fail
   refine wp_region_quiet_below (by kernel_rfl) (by kernel_rfl) ?_
   repeat (go_big_quiet_step (first | with_reducible exact rgS HI.out _ _ _ | with_reducible exact rgB HKD.out _ _ _ | with_reducible exact HK.out _ _))
   refine wpQuiet_nil ?_
   intro w5 hw5
   have B5:=hZq (below2' B0.out (below_regrownF hw5))
   clear hw5 g0 g1 g2 g3 g4 g5 g6 g7 g8 g9
   go_wp2_with fail
   go_ret
   exact⟨rfl,B5.out⟩
  ·rw [show ((decide (0≤s) && decide (s≤1099511627776)) && r)=false by simp [h1]]
   have t1:decide (s≤1099511627776)=false:=by simpa using h1
   go_enter Tryz.func79,Tryz.ntmps79
   go_wp2_with fail
   refine wp_region_quiet_below (by kernel_rfl) (by kernel_rfl) ?_
   repeat (go_big_quiet_step (with_reducible exact rgS HI.out _ _ _))
   refine wpQuiet_nil ?_
   intro w5 hw5
   have B5:=hZq (below2' B0.out (below_regrownF hw5))
   clear hw5 g0 g1 g2 g3 g4 g5 g6 g7 g8 g9
   go_wp2_with fail
   go_ret
   exact⟨rfl,B5.out⟩
 ·rw [show ((decide (0≤s) && decide (s≤1099511627776)) && r)=false by simp [h0]]
  have t1:decide (0≤s)=false:=by simpa using h0
  go_enter Tryz.func79,Tryz.ntmps79
  go_wp2_with fail
  refine wp_region_quiet_below (by kernel_rfl) (by kernel_rfl) ?_
  repeat (go_big_quiet_step (with_reducible exact rgS HI.out _ _ _))
  refine wpQuiet_nil ?_
  intro w5 hw5
  have B5:=hZq (below2' B0.out (below_regrownF hw5))
  clear hw5 g0 g1 g2 g3 g4 g5 g6 g7 g8 g9
  go_wp2_with fail
  go_ret
  exact⟨rfl,B5.out⟩

theorem frmay_4 {w:World} {v:Value} {t:List Row} (hv:Tab w v t) (hsh:Short t) (s:Int) (on:Bool) (c:List UInt8) (sh pr si:Int) (st:List UInt8) (sum:Nat) (hc:c.length≤4294967296) (hs:st.length≤4294967296) :
  Calls Tryz.prog 79 #[.agg #[.int .i64 4,.int .i64 s,.bool on,.string ⟨c.toArray⟩,.int .i64 sh,.int .i64 pr,.int .i64 si,.string ⟨st.toArray⟩,.int .u64 sum,v]] w fun e w' => e=.returned (.bool (frMay ⟨4,s,on,c,⟨sh,pr,si,st⟩,sum,t⟩))∧Below w.heap.size w w':=by
 have e0:(decide ((1:Int)≤4) && decide ((4:Int)≤4))=true:=by decide
 have HI:=hZq fun w => isKind_any 4 w
 simp only [e0] at HI
 clear e0
 have B0:Hid (Below w.heap.size w (w.alloc (.cells #[.int .i64 4,.int .i64 s,.bool on,.string ⟨c.toArray⟩,.int .i64 sh,.int .i64 pr,.int .i64 si,.string ⟨st.toArray⟩,.int .u64 sum,v] 56))):=hZq ((Below.refl _ _).alloc (Nat.le_refl _) _)
 have g0:=cell_regrown (w:=w.alloc (.cells #[.int .i64 4,.int .i64 s,.bool on,.string ⟨c.toArray⟩,.int .i64 sh,.int .i64 pr,.int .i64 si,.string ⟨st.toArray⟩,.int .u64 sum,v] 56)) (a:=⟨w.heap.size,0,none⟩) (v:=.int .i64 4) (by simp)
 have g1:=cell_regrown (w:=w.alloc (.cells #[.int .i64 4,.int .i64 s,.bool on,.string ⟨c.toArray⟩,.int .i64 sh,.int .i64 pr,.int .i64 si,.string ⟨st.toArray⟩,.int .u64 sum,v] 56)) (a:=⟨w.heap.size,1,none⟩) (v:=.int .i64 s) (by simp)
 have g2:=cell_regrown (w:=w.alloc (.cells #[.int .i64 4,.int .i64 s,.bool on,.string ⟨c.toArray⟩,.int .i64 sh,.int .i64 pr,.int .i64 si,.string ⟨st.toArray⟩,.int .u64 sum,v] 56)) (a:=⟨w.heap.size,2,none⟩) (v:=.bool on) (by simp)
 have g3:=cell_regrown (w:=w.alloc (.cells #[.int .i64 4,.int .i64 s,.bool on,.string ⟨c.toArray⟩,.int .i64 sh,.int .i64 pr,.int .i64 si,.string ⟨st.toArray⟩,.int .u64 sum,v] 56)) (a:=⟨w.heap.size,3,none⟩) (v:=.string ⟨c.toArray⟩) (by simp)
 have g4:=cell_regrown (w:=w.alloc (.cells #[.int .i64 4,.int .i64 s,.bool on,.string ⟨c.toArray⟩,.int .i64 sh,.int .i64 pr,.int .i64 si,.string ⟨st.toArray⟩,.int .u64 sum,v] 56)) (a:=⟨w.heap.size,4,none⟩) (v:=.int .i64 sh) (by simp)
 have g5:=cell_regrown (w:=w.alloc (.cells #[.int .i64 4,.int .i64 s,.bool on,.string ⟨c.toArray⟩,.int .i64 sh,.int .i64 pr,.int .i64 si,.string ⟨st.toArray⟩,.int .u64 sum,v] 56)) (a:=⟨w.heap.size,5,none⟩) (v:=.int .i64 pr) (by simp)
 have g6:=cell_regrown (w:=w.alloc (.cells #[.int .i64 4,.int .i64 s,.bool on,.string ⟨c.toArray⟩,.int .i64 sh,.int .i64 pr,.int .i64 si,.string ⟨st.toArray⟩,.int .u64 sum,v] 56)) (a:=⟨w.heap.size,6,none⟩) (v:=.int .i64 si) (by simp)
 have g7:=cell_regrown (w:=w.alloc (.cells #[.int .i64 4,.int .i64 s,.bool on,.string ⟨c.toArray⟩,.int .i64 sh,.int .i64 pr,.int .i64 si,.string ⟨st.toArray⟩,.int .u64 sum,v] 56)) (a:=⟨w.heap.size,7,none⟩) (v:=.string ⟨st.toArray⟩) (by simp)
 have g8:=cell_regrown (w:=w.alloc (.cells #[.int .i64 4,.int .i64 s,.bool on,.string ⟨c.toArray⟩,.int .i64 sh,.int .i64 pr,.int .i64 si,.string ⟨st.toArray⟩,.int .u64 sum,v] 56)) (a:=⟨w.heap.size,8,none⟩) (v:=.int .u64 sum) (by simp)
 have g9:=cell_regrown (w:=w.alloc (.cells #[.int .i64 4,.int .i64 s,.bool on,.string ⟨c.toArray⟩,.int .i64 sh,.int .i64 pr,.int .i64 si,.string ⟨st.toArray⟩,.int .u64 sum,v] 56)) (a:=⟨w.heap.size,9,none⟩) (v:=v) (by simp)
 have HK:Hid (∀ d os,Calls Tryz.prog 140 #[.agg #[.int .i64 4,.int .i64 s,.bool on,.string ⟨c.toArray⟩,.int .i64 sh,.int .i64 pr,.int .i64 si,.string ⟨st.toArray⟩,.int .u64 sum,v]] (Sort.grow (redrawn (w.alloc (.cells #[.int .i64 4,.int .i64 s,.bool on,.string ⟨c.toArray⟩,.int .i64 sh,.int .i64 pr,.int .i64 si,.string ⟨st.toArray⟩,.int .u64 sum,v] 56)) d) os) fun e w'' => e=.returned (.bool (frRest ⟨4,s,on,c,⟨sh,pr,si,st⟩,sum,t⟩))∧∃ p:Regrown,w''=Sort.grow (redrawn (w.alloc (.cells #[.int .i64 4,.int .i64 s,.bool on,.string ⟨c.toArray⟩,.int .i64 sh,.int .i64 pr,.int .i64 si,.string ⟨st.toArray⟩,.int .u64 sum,v] 56)) p.d) p.os):=hZq fun d os =>
  Calls.regrown_of ((mayResync_any ((hv.later B0.out).later (below_regrown _ d os)) 4 s on c sh pr si st sum hc hs).mono fun e w' h => ⟨h.1.trans (by unfold frRest; simp),h.2⟩)
 have hix:∀ w,(Instr.index 138 kindsV (.int .i64 4)).run Tryz.prog w=.ok (.agg #[.func (.func 140) #[] #[],.func (.func 141) #[] #[],.func (.func 142) #[] #[]]) w:=fun _ => by kernel_rfl
 have hfd:∀ w,(Instr.field 137 (.agg #[.func (.func 140) #[] #[],.func (.func 141) #[] #[],.func (.func 142) #[] #[]]) 0).run Tryz.prog w=.ok (.func (.func 140) #[] #[]) w:=fun _ => by kernel_rfl
 have HKD:=hZq kindsF_any
 have hm:frMay ⟨4,s,on,c,⟨sh,pr,si,st⟩,sum,t⟩=((decide (0≤s) && decide (s≤1099511627776)) && frRest ⟨4,s,on,c,⟨sh,pr,si,st⟩,sum,t⟩):=by unfold frMay; simp
 rw [hm]
 obtain⟨r,hr⟩ : ∃ r,frRest ⟨4,s,on,c,⟨sh,pr,si,st⟩,sum,t⟩=r:=⟨_,rfl⟩
 rw [hr] at HK ⊢
 clear hr hm hv hsh hc hs
 by_cases h0:0≤s
 ·by_cases h1:s≤1099511627776
  ·rw [show ((decide (0≤s) && decide (s≤1099511627776)) && r)=r by simp [h0,h1]]
   go_enter Tryz.func79,Tryz.ntmps79
   go_wp2_with fail
   refine wp_region_quiet_below (by kernel_rfl) (by kernel_rfl) ?_
   repeat (go_big_quiet_step (first | with_reducible exact rgS HI.out _ _ _ | with_reducible exact rgB HKD.out _ _ _ | with_reducible exact HK.out _ _))
   refine wpQuiet_nil ?_
   intro w5 hw5
   have B5:=hZq (below2' B0.out (below_regrownF hw5))
   clear hw5 g0 g1 g2 g3 g4 g5 g6 g7 g8 g9
   go_wp2_with fail
   go_ret
   exact⟨rfl,B5.out⟩
  ·rw [show ((decide (0≤s) && decide (s≤1099511627776)) && r)=false by simp [h1]]
   have t1:decide (s≤1099511627776)=false:=by simpa using h1
   go_enter Tryz.func79,Tryz.ntmps79
   go_wp2_with fail
   refine wp_region_quiet_below (by kernel_rfl) (by kernel_rfl) ?_
   repeat (go_big_quiet_step (with_reducible exact rgS HI.out _ _ _))
   refine wpQuiet_nil ?_
   intro w5 hw5
   have B5:=hZq (below2' B0.out (below_regrownF hw5))
   clear hw5 g0 g1 g2 g3 g4 g5 g6 g7 g8 g9
   go_wp2_with fail
   go_ret
   exact⟨rfl,B5.out⟩
 ·rw [show ((decide (0≤s) && decide (s≤1099511627776)) && r)=false by simp [h0]]
  have t1:decide (0≤s)=false:=by simpa using h0
  go_enter Tryz.func79,Tryz.ntmps79
  go_wp2_with fail
  refine wp_region_quiet_below (by kernel_rfl) (by kernel_rfl) ?_
  repeat (go_big_quiet_step (with_reducible exact rgS HI.out _ _ _))
  refine wpQuiet_nil ?_
  intro w5 hw5
  have B5:=hZq (below2' B0.out (below_regrownF hw5))
  clear hw5 g0 g1 g2 g3 g4 g5 g6 g7 g8 g9
  go_wp2_with fail
  go_ret
  exact⟨rfl,B5.out⟩

theorem frmay_any {w:World} {v:Value} {t:List Row} (hv:Tab w v t) (hsh:Short t) (k s:Int) (on:Bool) (c:List UInt8) (sh pr si:Int) (st:List UInt8) (sum:Nat) (hc:c.length≤4294967296) (hs:st.length≤4294967296) :
  Calls Tryz.prog 79 #[.agg #[.int .i64 k,.int .i64 s,.bool on,.string ⟨c.toArray⟩,.int .i64 sh,.int .i64 pr,.int .i64 si,.string ⟨st.toArray⟩,.int .u64 sum,v]] w fun e w' => e=.returned (.bool (frMay ⟨k,s,on,c,⟨sh,pr,si,st⟩,sum,t⟩))∧Below w.heap.size w w':=by
 by_cases h:k < 1∨4 < k
 ·have:frMay ⟨k,s,on,c,⟨sh,pr,si,st⟩,sum,t⟩=false:=by
   unfold frMay
   rcases h with h | h
   ·rw [show decide (1≤k)=false by simp; omega]; rfl
   ·rw [show decide (k≤4)=false by simp; omega]; simp
  rw [this]
  exact frmay_out k s on c sh pr si st sum v h w
 ·have hk:k=1∨k=2∨k=3∨k=4:=by omega
  rcases hk with rfl | rfl | rfl | rfl
  ·exact frmay_1 hv hsh s on c sh pr si st sum hc hs
  ·exact frmay_2 hv hsh s on c sh pr si st sum hc hs
  ·exact frmay_3 hv hsh s on c sh pr si st sum hc hs
  ·exact frmay_4 hv hsh s on c sh pr si st sum hc hs
end
section
open Go.RowKit

attribute [local go_sem] ByteArray.mk_append_mk

theorem idPut_len {c:List UInt8} (h:idIs c=true):idPut c=(vput c.length ++ c,true)∧(vput c.length ++ c).length≤30:=by
 have h2:=(idIs_parts h).2.1
 refine ⟨by unfold idPut; rw [if_pos h],?_⟩
 have:=vput_len_le c.length
 rw [List.length_append]
 omega

theorem putDelta_off (k s:Int) (c:List UInt8) (sh pr si:Int) (st:List UInt8) (sum:Nat) (v:Value) (hc:idIs c=true) (w:World) :
  Calls Tryz.prog 132 #[.agg #[.int .i64 k,.int .i64 s,.bool false,.string ⟨c.toArray⟩,.int .i64 sh,.int .i64 pr,.int .i64 si,.string ⟨st.toArray⟩,.int .u64 sum,v]] w fun e w' => e=.returned (.string ⟨(0 :: (idPut c).1).toArray⟩)∧Below w.heap.size w w':=by
 have hl:=(idIs_parts hc).2.1
 obtain⟨h1,h2⟩:=idPut_len hc
 rw [h1]
 obtain⟨t,ht⟩ : ∃ t,vput c.length ++ c=t:=⟨_,rfl⟩
 rw [ht] at h1 h2 ⊢
 have H1:=hZq h1
 have hl':c.length≤4294967296:=by omega
 have B0:Hid (Below w.heap.size w (w.alloc (.cells #[.int .i64 k,.int .i64 s,.bool false,.string ⟨c.toArray⟩,.int .i64 sh,.int .i64 pr,.int .i64 si,.string ⟨st.toArray⟩,.int .u64 sum,v] 56))):=hZq ((Below.refl _ _).alloc (Nat.le_refl _) _)
 clear hc ht h1
 go_enter Tryz.func132,Tryz.ntmps132
 go_wp2_with fail
 refine (idput_eq c hl' H1 _).mono ?_
 rintro e w1 ⟨rfl,b⟩
 have B1:=hZq (below2' B0.out b)
 obtain⟨hcl,_⟩:=bcellF b
 clear b
 go_wp2_with fail
 go_ret
 exact⟨rfl,B1.out⟩

theorem putDelta_on (k s:Int) (c:List UInt8) (sh pr si:Int) (st:List UInt8) (sum:Nat) (v:Value) (hc:idIs c=true) (hv:vaMay ⟨sh,pr,si,st⟩=true) (w:World) :
  Calls Tryz.prog 132 #[.agg #[.int .i64 k,.int .i64 s,.bool true,.string ⟨c.toArray⟩,.int .i64 sh,.int .i64 pr,.int .i64 si,.string ⟨st.toArray⟩,.int .u64 sum,v]] w fun e w' => e=.returned (.string ⟨(1 :: ((idPut c).1 ++ vaBytes ⟨sh,pr,si,st⟩)).toArray⟩)∧Below w.heap.size w w':=by
 have hl:=(idIs_parts hc).2.1
 obtain⟨h1,h2⟩:=idPut_len hc
 rw [h1]
 obtain⟨t,ht⟩ : ∃ t,vput c.length ++ c=t:=⟨_,rfl⟩
 rw [ht] at h1 h2 ⊢
 have H1:=hZq h1
 have hl':c.length≤4294967296:=by omega
 have h3:(vaBytes ⟨sh,pr,si,st⟩).length≤100:=by
  obtain⟨_,_,_,_,g5,g6,g7⟩:=vaMay_parts hv
  unfold vaBytes
  have a1:=vput_len_le si.toNat
  have a2:=vput_len_le st.length
  simp only [List.length_append,List.length_cons,List.length_nil] at g7 ⊢
  omega
 have HV:=hZq (vaput_yes sh pr si st hv)
 obtain⟨u,hu⟩ : ∃ u,vaBytes ⟨sh,pr,si,st⟩=u:=⟨_,rfl⟩
 rw [hu] at HV h3 ⊢
 have B0:Hid (Below w.heap.size w (w.alloc (.cells #[.int .i64 k,.int .i64 s,.bool true,.string ⟨c.toArray⟩,.int .i64 sh,.int .i64 pr,.int .i64 si,.string ⟨st.toArray⟩,.int .u64 sum,v] 56))):=hZq ((Below.refl _ _).alloc (Nat.le_refl _) _)
 clear hc ht h1 hv hu
 go_enter Tryz.func132,Tryz.ntmps132
 go_wp2_with fail
 refine (idput_eq c hl' H1 _).mono ?_
 rintro e w1 ⟨rfl,b⟩
 have B1:=hZq (below2' B0.out b)
 obtain⟨hcl,_⟩:=bcellF b
 clear b
 go_wp2_with fail
 refine (HV.out _).mono ?_
 rintro e w2 ⟨rfl,b⟩
 have B2:=hZq (below2' B1.out b)
 clear b
 go_wp2_with fail
 go_ret
 exact⟨rfl,B2.out⟩

theorem putSnapshot_any {w:World} {v:Value} {t:List Row} (hv:Tab w v t) (hsh:Short t) (k s:Int) (on:Bool) (c:List UInt8) (sh pr si:Int) (st:List UInt8) (sum:Nat) :
  Calls Tryz.prog 138 #[.agg #[.int .i64 k,.int .i64 s,.bool on,.string ⟨c.toArray⟩,.int .i64 sh,.int .i64 pr,.int .i64 si,.string ⟨st.toArray⟩,.int .u64 sum,v]] w fun e w' => e=.returned (.string ⟨((diPut t).1).toArray⟩)∧Below w.heap.size w w':=by
 have B0:Hid (Below w.heap.size w (w.alloc (.cells #[.int .i64 k,.int .i64 s,.bool on,.string ⟨c.toArray⟩,.int .i64 sh,.int .i64 pr,.int .i64 si,.string ⟨st.toArray⟩,.int .u64 sum,v] 56))):=hZq ((Below.refl _ _).alloc (Nat.le_refl _) _)
 have HV:=hZq (hv.later B0.out)
 obtain⟨l,r,hr⟩ : ∃ l r,diPut t=(l,r):=⟨_,_,rfl⟩
 rw [hr]
 have HR:=hZq hr
 have HS:=hZq hsh
 clear hr hv hsh
 go_enter Tryz.func138,Tryz.ntmps138
 go_wp2_with fail
 refine (diput_eq HV.out HS.out HR).mono ?_
 rintro e w1 ⟨rfl,b⟩
 have B1:=hZq (below2' B0.out b)
 clear b
 go_wp2_with fail
 go_ret
 exact⟨rfl,B1.out⟩

theorem putResync_any (k s:Int) (on:Bool) (c:List UInt8) (sh pr si:Int) (st:List UInt8) (sum:Nat) (v:Value) (w:World) :
  Calls Tryz.prog 141 #[.agg #[.int .i64 k,.int .i64 s,.bool on,.string ⟨c.toArray⟩,.int .i64 sh,.int .i64 pr,.int .i64 si,.string ⟨st.toArray⟩,.int .u64 sum,v]] w fun e w' => e=.returned (.string ⟨([]:List UInt8).toArray⟩)∧Below w.heap.size w w':=by
 go_enter Tryz.func141,Tryz.ntmps141
 go_wp2_with fail
 go_ret
 exact⟨rfl,(Below.refl _ _).alloc (Nat.le_refl _) _⟩
end
section
open Go.RowKit

theorem be8_len (n:Nat):(be8 n).length=8:=rfl

def be8At (n k:Nat):List UInt8:=(be8 n).take k ++ List.replicate (8 - k) 0

theorem putDigest_any (k s:Int) (on:Bool) (c:List UInt8) (sh pr si:Int) (st:List UInt8) (sum:Nat) (v:Value) (hs:sum < 18446744073709551616) (w:World) :
  Calls Tryz.prog 135 #[.agg #[.int .i64 k,.int .i64 s,.bool on,.string ⟨c.toArray⟩,.int .i64 sh,.int .i64 pr,.int .i64 si,.string ⟨st.toArray⟩,.int .u64 sum,v]] w fun e w' => e=.returned (.string ⟨(be8 sum).toArray⟩)∧Below w.heap.size w w':=by
 go_enter Tryz.func135,Tryz.ntmps135
 go_wp2_with fail
 go_loopw [5] (fun i wr => ∃ j:Nat,j≤8∧i=.int .i64 j∧Hid (RowB wr (w.heap.size+1) (be8At sum j))∧Hid (Below w.heap.size w wr)∧Hid (wr.cell? ⟨w.heap.size,8,none⟩=some (.int .u64 sum))) (fun i _ => 8 - (intOf i).toNat)
 case atStart =>
  refine ⟨0,by omega,rfl,?_,?_,?_⟩
  ·show RowB _ _ _
   intro i hi
   have hi':i < 8:=hi
   have:i=0∨i=1∨i=2∨i=3∨i=4∨i=5∨i=6∨i=7:=by omega
   rcases this with rfl | rfl | rfl | rfl | rfl | rfl | rfl | rfl <;> exact⟨by simp [be8At],by simp⟩
  ·show Below _ _ _
   exact ((Below.refl _ _).alloc (Nat.le_refl _) _).alloc (by simp) _
  ·show _=_
   simp
 case round =>
  obtain⟨j,hj,rfl,HR,HB,HC⟩:=hrel
  by_cases hlt:j < 8
  ·have h8:j=0∨j=1∨j=2∨j=3∨j=4∨j=5∨j=6∨j=7:=by omega
   have h8l:(be8At sum j).length=8:=by unfold be8At; rw [List.length_append,List.length_take,List.length_replicate,be8_len]; omega
   have hfr:=(HR.out j (by rw [h8l]; exact hlt)).2
   have hcl:=(HR.out j (by rw [h8l]; exact hlt)).1
   have hbx:=HC.out
   have H8:=hZq h8l
   clear h8l
   rcases h8 with rfl | rfl | rfl | rfl | rfl | rfl | rfl | rfl
   ·have hx:((u8of (sum / 72057594037927936 % 256)).toNat:Int)=(sum:Int) / 72057594037927936:=by rw [u8of_toNat (by omega)]; omega
    have hR2:=HR.out.set 0 (u8of (sum / 72057594037927936 % 256)) (by rw [H8.out]; omega)
    rw [hx] at hR2
    have HR2:Hid (RowB (wr.setCell ⟨w.heap.size+1,0,none⟩ (.int .u8 ((sum:Int) / 72057594037927936))) (w.heap.size+1) (be8At sum 1)):=hZq hR2
    clear hx hR2
    go_wp2_with fail
    go_roundw
    case rel => exact⟨1,by omega,by go_num,HR2,HB.out.setCell (by simp) _,by show _=_; rw [World.cell?_setCell_other _ _ _ _ (by simp)]; exact HC.out⟩
    case measure => simp [intOf]
   ·have hx:((u8of (sum / 281474976710656 % 256)).toNat:Int)=(sum:Int) / 281474976710656 % 256:=by rw [u8of_toNat (by omega)]; omega
    have hR2:=HR.out.set 1 (u8of (sum / 281474976710656 % 256)) (by rw [H8.out]; omega)
    rw [hx] at hR2
    have HR2:Hid (RowB (wr.setCell ⟨w.heap.size+1,1,none⟩ (.int .u8 ((sum:Int) / 281474976710656 % 256))) (w.heap.size+1) (be8At sum 2)):=hZq hR2
    clear hx hR2
    go_wp2_with fail
    go_roundw
    case rel => exact⟨2,by omega,by go_num,HR2,HB.out.setCell (by simp) _,by show _=_; rw [World.cell?_setCell_other _ _ _ _ (by simp)]; exact HC.out⟩
    case measure => simp [intOf]
   ·have hx:((u8of (sum / 1099511627776 % 256)).toNat:Int)=(sum:Int) / 1099511627776 % 256:=by rw [u8of_toNat (by omega)]; omega
    have hR2:=HR.out.set 2 (u8of (sum / 1099511627776 % 256)) (by rw [H8.out]; omega)
    rw [hx] at hR2
    have HR2:Hid (RowB (wr.setCell ⟨w.heap.size+1,2,none⟩ (.int .u8 ((sum:Int) / 1099511627776 % 256))) (w.heap.size+1) (be8At sum 3)):=hZq hR2
    clear hx hR2
    go_wp2_with fail
    go_roundw
    case rel => exact⟨3,by omega,by go_num,HR2,HB.out.setCell (by simp) _,by show _=_; rw [World.cell?_setCell_other _ _ _ _ (by simp)]; exact HC.out⟩
    case measure => simp [intOf]
   ·have hx:((u8of (sum / 4294967296 % 256)).toNat:Int)=(sum:Int) / 4294967296 % 256:=by rw [u8of_toNat (by omega)]; omega
    have hR2:=HR.out.set 3 (u8of (sum / 4294967296 % 256)) (by rw [H8.out]; omega)
    rw [hx] at hR2
    have HR2:Hid (RowB (wr.setCell ⟨w.heap.size+1,3,none⟩ (.int .u8 ((sum:Int) / 4294967296 % 256))) (w.heap.size+1) (be8At sum 4)):=hZq hR2
    clear hx hR2
    go_wp2_with fail
    go_roundw
    case rel => exact⟨4,by omega,by go_num,HR2,HB.out.setCell (by simp) _,by show _=_; rw [World.cell?_setCell_other _ _ _ _ (by simp)]; exact HC.out⟩
    case measure => simp [intOf]
   ·have hx:((u8of (sum / 16777216 % 256)).toNat:Int)=(sum:Int) / 16777216 % 256:=by rw [u8of_toNat (by omega)]; omega
    have hR2:=HR.out.set 4 (u8of (sum / 16777216 % 256)) (by rw [H8.out]; omega)
    rw [hx] at hR2
    have HR2:Hid (RowB (wr.setCell ⟨w.heap.size+1,4,none⟩ (.int .u8 ((sum:Int) / 16777216 % 256))) (w.heap.size+1) (be8At sum 5)):=hZq hR2
    clear hx hR2
    go_wp2_with fail
    go_roundw
    case rel => exact⟨5,by omega,by go_num,HR2,HB.out.setCell (by simp) _,by show _=_; rw [World.cell?_setCell_other _ _ _ _ (by simp)]; exact HC.out⟩
    case measure => simp [intOf]
   ·have hx:((u8of (sum / 65536 % 256)).toNat:Int)=(sum:Int) / 65536 % 256:=by rw [u8of_toNat (by omega)]; omega
    have hR2:=HR.out.set 5 (u8of (sum / 65536 % 256)) (by rw [H8.out]; omega)
    rw [hx] at hR2
    have HR2:Hid (RowB (wr.setCell ⟨w.heap.size+1,5,none⟩ (.int .u8 ((sum:Int) / 65536 % 256))) (w.heap.size+1) (be8At sum 6)):=hZq hR2
    clear hx hR2
    go_wp2_with fail
    go_roundw
    case rel => exact⟨6,by omega,by go_num,HR2,HB.out.setCell (by simp) _,by show _=_; rw [World.cell?_setCell_other _ _ _ _ (by simp)]; exact HC.out⟩
    case measure => simp [intOf]
   ·have hx:((u8of (sum / 256 % 256)).toNat:Int)=(sum:Int) / 256 % 256:=by rw [u8of_toNat (by omega)]; omega
    have hR2:=HR.out.set 6 (u8of (sum / 256 % 256)) (by rw [H8.out]; omega)
    rw [hx] at hR2
    have HR2:Hid (RowB (wr.setCell ⟨w.heap.size+1,6,none⟩ (.int .u8 ((sum:Int) / 256 % 256))) (w.heap.size+1) (be8At sum 7)):=hZq hR2
    clear hx hR2
    go_wp2_with fail
    go_roundw
    case rel => exact⟨7,by omega,by go_num,HR2,HB.out.setCell (by simp) _,by show _=_; rw [World.cell?_setCell_other _ _ _ _ (by simp)]; exact HC.out⟩
    case measure => simp [intOf]
   ·have hx:((u8of (sum % 256)).toNat:Int)=(sum:Int) % 256:=by rw [u8of_toNat (by omega)]; omega
    have hR2:=HR.out.set 7 (u8of (sum % 256)) (by rw [H8.out]; omega)
    rw [hx] at hR2
    have HR2:Hid (RowB (wr.setCell ⟨w.heap.size+1,7,none⟩ (.int .u8 ((sum:Int) % 256))) (w.heap.size+1) (be8At sum 8)):=hZq hR2
    clear hx hR2
    go_wp2_with fail
    go_roundw
    case rel => exact⟨8,by omega,by go_num,HR2,HB.out.setCell (by simp) _,by show _=_; rw [World.cell?_setCell_other _ _ _ _ (by simp)]; exact HC.out⟩
    case measure => simp [intOf]
  ·obtain rfl:j=8:=by omega
   have hcv:=fun cap => row_text HR.out cap
   simp only [show be8At sum 8=be8 sum from rfl,be8_len] at hcv
   clear hlt hj HR HC
   go_wp2_with fail
   go_ret
   exact⟨rfl,HB.out⟩
end
section
open Go.RowKit

theorem run_convert_one {P:Program} (w:World) (src e dst:TypeId) (hs:P.underlying src=some (.slice e)) (he:P.underlying e=some (.int .u8)) (hd:P.underlying dst=some .string)
  (B:Nat) (x:UInt8) (X:Int) (hX:X=x.toNat) (h0:w.cell? ⟨B,0,none⟩=some (.int .u8 X)) :
  (convert src dst (.slice (some ⟨B,0,none⟩) 1 1)).run P w=.ok (.string ⟨[x].toArray⟩) w:=by
 subst hX
 refine run_convert_bytes_back w src dst e ⟨B,0,none⟩ 1 [x] hs he hd (fun j hj => ?_)
 simp only [List.length_cons,List.length_nil] at hj
 match j,hj with
 | 0,_ => simpa [Addr.add] using h0

theorem keep10 {w w':World} {a0 a1 a2 a3 a4 a5 a6 a7 a8 a9:Addr} {v0 v1 v2 v3 v4 v5 v6 v7 v8 v9:Value} (hb:Below w.heap.size w w') (h:w.cell? a0=some v0∧w.cell? a1=some v1∧w.cell? a2=some v2∧w.cell? a3=some v3∧w.cell? a4=some v4∧w.cell? a5=some v5∧w.cell? a6=some v6∧w.cell? a7=some v7∧w.cell? a8=some v8∧w.cell? a9=some v9) :
  w'.cell? a0=some v0∧w'.cell? a1=some v1∧w'.cell? a2=some v2∧w'.cell? a3=some v3∧w'.cell? a4=some v4∧w'.cell? a5=some v5∧w'.cell? a6=some v6∧w'.cell? a7=some v7∧w'.cell? a8=some v8∧w'.cell? a9=some v9 :=
 ⟨cell_later h.1 hb,cell_later h.2.1 hb,cell_later h.2.2.1 hb,cell_later h.2.2.2.1 hb,cell_later h.2.2.2.2.1 hb,cell_later h.2.2.2.2.2.1 hb,cell_later h.2.2.2.2.2.2.1 hb,cell_later h.2.2.2.2.2.2.2.1 hb,cell_later h.2.2.2.2.2.2.2.2.1 hb,cell_later h.2.2.2.2.2.2.2.2.2 hb⟩
end
end Go.Proofs.YtmpigdokghngiaaGreat
