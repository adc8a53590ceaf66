/-
 TEXTS OF THE PROOF, one behind the other: FraMayF.
-/
import Derived.Test.YtekkofldhhdpgaaGreatD12

set_option maxHeartbeats 12800000
set_option maxRecDepth 100000

set_option linter.unusedVariables false

namespace Go.Proofs.YtekkofldhhdpgaaGreat
open Go.RowKit

abbrev frBox (w:World) (k s:Int) (on:Bool) (c:List UInt8) (sh pr si:Int) (st:List UInt8) (sum:Nat) (v:Value):World :=
 w.alloc (.cells #[.int .i64 k,.int .i64 s,.bool on,.string ⟨c.toArray⟩,.int .i64 sh,.int .i64 pr,.int .i64 si,.string ⟨st.toArray⟩,.int .u64 sum,v] 29)

theorem frmay_out (k s:Int) (on:Bool) (c:List UInt8) (sh pr si:Int) (st:List UInt8) (sum:Nat) (v:Value) (hk:k < 1∨4 < k) (w:World) :
  Calls Tryz.prog 60 #[.agg #[.int .i64 k,.int .i64 s,.bool on,.string ⟨c.toArray⟩,.int .i64 sh,.int .i64 pr,.int .i64 si,.string ⟨st.toArray⟩,.int .u64 sum,v]] w fun e w' => e=.returned (.bool false)∧Below w.heap.size w w':=by
 have e0:(decide (1≤k) && decide (k≤4))=false:=by simp; omega
 have HI:=hZq fun w => isKind_any k w
 simp only [e0] at HI
 have B0:Hid (Below w.heap.size w (w.alloc (.cells #[.int .i64 k,.int .i64 s,.bool on,.string ⟨c.toArray⟩,.int .i64 sh,.int .i64 pr,.int .i64 si,.string ⟨st.toArray⟩,.int .u64 sum,v] 29))):=hZq ((Below.refl _ _).alloc (Nat.le_refl _) _)
 have g0:=cell_regrown (w:=w.alloc (.cells #[.int .i64 k,.int .i64 s,.bool on,.string ⟨c.toArray⟩,.int .i64 sh,.int .i64 pr,.int .i64 si,.string ⟨st.toArray⟩,.int .u64 sum,v] 29)) (a:=⟨w.heap.size,0,none⟩) (v:=.int .i64 k) (by simp)
 have g1:=cell_regrown (w:=w.alloc (.cells #[.int .i64 k,.int .i64 s,.bool on,.string ⟨c.toArray⟩,.int .i64 sh,.int .i64 pr,.int .i64 si,.string ⟨st.toArray⟩,.int .u64 sum,v] 29)) (a:=⟨w.heap.size,1,none⟩) (v:=.int .i64 s) (by simp)
 have g2:=cell_regrown (w:=w.alloc (.cells #[.int .i64 k,.int .i64 s,.bool on,.string ⟨c.toArray⟩,.int .i64 sh,.int .i64 pr,.int .i64 si,.string ⟨st.toArray⟩,.int .u64 sum,v] 29)) (a:=⟨w.heap.size,2,none⟩) (v:=.bool on) (by simp)
 have g3:=cell_regrown (w:=w.alloc (.cells #[.int .i64 k,.int .i64 s,.bool on,.string ⟨c.toArray⟩,.int .i64 sh,.int .i64 pr,.int .i64 si,.string ⟨st.toArray⟩,.int .u64 sum,v] 29)) (a:=⟨w.heap.size,3,none⟩) (v:=.string ⟨c.toArray⟩) (by simp)
 have g4:=cell_regrown (w:=w.alloc (.cells #[.int .i64 k,.int .i64 s,.bool on,.string ⟨c.toArray⟩,.int .i64 sh,.int .i64 pr,.int .i64 si,.string ⟨st.toArray⟩,.int .u64 sum,v] 29)) (a:=⟨w.heap.size,4,none⟩) (v:=.int .i64 sh) (by simp)
 have g5:=cell_regrown (w:=w.alloc (.cells #[.int .i64 k,.int .i64 s,.bool on,.string ⟨c.toArray⟩,.int .i64 sh,.int .i64 pr,.int .i64 si,.string ⟨st.toArray⟩,.int .u64 sum,v] 29)) (a:=⟨w.heap.size,5,none⟩) (v:=.int .i64 pr) (by simp)
 have g6:=cell_regrown (w:=w.alloc (.cells #[.int .i64 k,.int .i64 s,.bool on,.string ⟨c.toArray⟩,.int .i64 sh,.int .i64 pr,.int .i64 si,.string ⟨st.toArray⟩,.int .u64 sum,v] 29)) (a:=⟨w.heap.size,6,none⟩) (v:=.int .i64 si) (by simp)
 have g7:=cell_regrown (w:=w.alloc (.cells #[.int .i64 k,.int .i64 s,.bool on,.string ⟨c.toArray⟩,.int .i64 sh,.int .i64 pr,.int .i64 si,.string ⟨st.toArray⟩,.int .u64 sum,v] 29)) (a:=⟨w.heap.size,7,none⟩) (v:=.string ⟨st.toArray⟩) (by simp)
 have g8:=cell_regrown (w:=w.alloc (.cells #[.int .i64 k,.int .i64 s,.bool on,.string ⟨c.toArray⟩,.int .i64 sh,.int .i64 pr,.int .i64 si,.string ⟨st.toArray⟩,.int .u64 sum,v] 29)) (a:=⟨w.heap.size,8,none⟩) (v:=.int .u64 sum) (by simp)
 have g9:=cell_regrown (w:=w.alloc (.cells #[.int .i64 k,.int .i64 s,.bool on,.string ⟨c.toArray⟩,.int .i64 sh,.int .i64 pr,.int .i64 si,.string ⟨st.toArray⟩,.int .u64 sum,v] 29)) (a:=⟨w.heap.size,9,none⟩) (v:=v) (by simp)
 clear hk e0
 go_enter Tryz.func60,Tryz.ntmps60
 go_wp2_with fail
 refine wp_region_quiet_below (by kernel_rfl) (by kernel_rfl) ?_
 repeat (go_big_quiet_step (with_reducible exact rgS HI.out _ _ _))
 refine wpQuiet_nil ?_
 intro w5 hw5
 have B5:=hZq (below2' B0.out (below_regrownF hw5))
 clear hw5 g0 g1 g2 g3 g4 g5 g6 g7 g8 g9
 go_wp2_with fail
 go_ret
 exact⟨rfl,B5.out⟩

theorem frmay_1 {w:World} {v:Value} {t:List Row} (hv:Tab w v t) (hsh:Short t) (s:Int) (on:Bool) (c:List UInt8) (sh pr si:Int) (st:List UInt8) (sum:Nat) (hc:c.length≤4294967296) (hs:st.length≤4294967296) :
  Calls Tryz.prog 60 #[.agg #[.int .i64 1,.int .i64 s,.bool on,.string ⟨c.toArray⟩,.int .i64 sh,.int .i64 pr,.int .i64 si,.string ⟨st.toArray⟩,.int .u64 sum,v]] w fun e w' => e=.returned (.bool (frMay ⟨1,s,on,c,⟨sh,pr,si,st⟩,sum,t⟩))∧Below w.heap.size w w':=by
 have e0:(decide ((1:Int)≤1) && decide ((1:Int)≤4))=true:=by decide
 have HI:=hZq fun w => isKind_any 1 w
 simp only [e0] at HI
 clear e0
 have B0:Hid (Below w.heap.size w (w.alloc (.cells #[.int .i64 1,.int .i64 s,.bool on,.string ⟨c.toArray⟩,.int .i64 sh,.int .i64 pr,.int .i64 si,.string ⟨st.toArray⟩,.int .u64 sum,v] 29))):=hZq ((Below.refl _ _).alloc (Nat.le_refl _) _)
 have g0:=cell_regrown (w:=w.alloc (.cells #[.int .i64 1,.int .i64 s,.bool on,.string ⟨c.toArray⟩,.int .i64 sh,.int .i64 pr,.int .i64 si,.string ⟨st.toArray⟩,.int .u64 sum,v] 29)) (a:=⟨w.heap.size,0,none⟩) (v:=.int .i64 1) (by simp)
 have g1:=cell_regrown (w:=w.alloc (.cells #[.int .i64 1,.int .i64 s,.bool on,.string ⟨c.toArray⟩,.int .i64 sh,.int .i64 pr,.int .i64 si,.string ⟨st.toArray⟩,.int .u64 sum,v] 29)) (a:=⟨w.heap.size,1,none⟩) (v:=.int .i64 s) (by simp)
 have g2:=cell_regrown (w:=w.alloc (.cells #[.int .i64 1,.int .i64 s,.bool on,.string ⟨c.toArray⟩,.int .i64 sh,.int .i64 pr,.int .i64 si,.string ⟨st.toArray⟩,.int .u64 sum,v] 29)) (a:=⟨w.heap.size,2,none⟩) (v:=.bool on) (by simp)
 have g3:=cell_regrown (w:=w.alloc (.cells #[.int .i64 1,.int .i64 s,.bool on,.string ⟨c.toArray⟩,.int .i64 sh,.int .i64 pr,.int .i64 si,.string ⟨st.toArray⟩,.int .u64 sum,v] 29)) (a:=⟨w.heap.size,3,none⟩) (v:=.string ⟨c.toArray⟩) (by simp)
 have g4:=cell_regrown (w:=w.alloc (.cells #[.int .i64 1,.int .i64 s,.bool on,.string ⟨c.toArray⟩,.int .i64 sh,.int .i64 pr,.int .i64 si,.string ⟨st.toArray⟩,.int .u64 sum,v] 29)) (a:=⟨w.heap.size,4,none⟩) (v:=.int .i64 sh) (by simp)
 have g5:=cell_regrown (w:=w.alloc (.cells #[.int .i64 1,.int .i64 s,.bool on,.string ⟨c.toArray⟩,.int .i64 sh,.int .i64 pr,.int .i64 si,.string ⟨st.toArray⟩,.int .u64 sum,v] 29)) (a:=⟨w.heap.size,5,none⟩) (v:=.int .i64 pr) (by simp)
 have g6:=cell_regrown (w:=w.alloc (.cells #[.int .i64 1,.int .i64 s,.bool on,.string ⟨c.toArray⟩,.int .i64 sh,.int .i64 pr,.int .i64 si,.string ⟨st.toArray⟩,.int .u64 sum,v] 29)) (a:=⟨w.heap.size,6,none⟩) (v:=.int .i64 si) (by simp)
 have g7:=cell_regrown (w:=w.alloc (.cells #[.int .i64 1,.int .i64 s,.bool on,.string ⟨c.toArray⟩,.int .i64 sh,.int .i64 pr,.int .i64 si,.string ⟨st.toArray⟩,.int .u64 sum,v] 29)) (a:=⟨w.heap.size,7,none⟩) (v:=.string ⟨st.toArray⟩) (by simp)
 have g8:=cell_regrown (w:=w.alloc (.cells #[.int .i64 1,.int .i64 s,.bool on,.string ⟨c.toArray⟩,.int .i64 sh,.int .i64 pr,.int .i64 si,.string ⟨st.toArray⟩,.int .u64 sum,v] 29)) (a:=⟨w.heap.size,8,none⟩) (v:=.int .u64 sum) (by simp)
 have g9:=cell_regrown (w:=w.alloc (.cells #[.int .i64 1,.int .i64 s,.bool on,.string ⟨c.toArray⟩,.int .i64 sh,.int .i64 pr,.int .i64 si,.string ⟨st.toArray⟩,.int .u64 sum,v] 29)) (a:=⟨w.heap.size,9,none⟩) (v:=v) (by simp)
 have HK:Hid (∀ d os,Calls Tryz.prog 137 #[.agg #[.int .i64 1,.int .i64 s,.bool on,.string ⟨c.toArray⟩,.int .i64 sh,.int .i64 pr,.int .i64 si,.string ⟨st.toArray⟩,.int .u64 sum,v]] (Sort.grow (redrawn (w.alloc (.cells #[.int .i64 1,.int .i64 s,.bool on,.string ⟨c.toArray⟩,.int .i64 sh,.int .i64 pr,.int .i64 si,.string ⟨st.toArray⟩,.int .u64 sum,v] 29)) d) os) fun e w'' => e=.returned (.bool (frRest ⟨1,s,on,c,⟨sh,pr,si,st⟩,sum,t⟩))∧∃ p:Regrown,w''=Sort.grow (redrawn (w.alloc (.cells #[.int .i64 1,.int .i64 s,.bool on,.string ⟨c.toArray⟩,.int .i64 sh,.int .i64 pr,.int .i64 si,.string ⟨st.toArray⟩,.int .u64 sum,v] 29)) p.d) p.os):=hZq fun d os =>
  Calls.regrown_of ((mayDelta_any ((hv.later B0.out).later (below_regrown _ d os)) 1 s on c sh pr si st sum hc hs).mono fun e w' h => ⟨h.1.trans (by unfold frRest; simp),h.2⟩)
 have hix:∀ w,(Instr.index 130 kindsV (.int .i64 1)).run Tryz.prog w=.ok (.agg #[.func (.func 137) #[] #[],.func (.func 138) #[] #[],.func (.func 139) #[] #[]]) w:=fun _ => by kernel_rfl
 have hfd:∀ w,(Instr.field 129 (.agg #[.func (.func 137) #[] #[],.func (.func 138) #[] #[],.func (.func 139) #[] #[]]) 0).run Tryz.prog w=.ok (.func (.func 137) #[] #[]) w:=fun _ => by kernel_rfl
 have HKD:=hZq kindsF_any
 have hm:frMay ⟨1,s,on,c,⟨sh,pr,si,st⟩,sum,t⟩=((decide (0≤s) && decide (s≤1099511627776)) && frRest ⟨1,s,on,c,⟨sh,pr,si,st⟩,sum,t⟩):=by unfold frMay; simp
 rw [hm]
 obtain⟨r,hr⟩ : ∃ r,frRest ⟨1,s,on,c,⟨sh,pr,si,st⟩,sum,t⟩=r:=⟨_,rfl⟩
 rw [hr] at HK ⊢
 clear hr hm hv hsh hc hs
 by_cases h0:0≤s
 ·by_cases h1:s≤1099511627776
  ·rw [show ((decide (0≤s) && decide (s≤1099511627776)) && r)=r by simp [h0,h1]]
   go_enter Tryz.func60,Tryz.ntmps60
   go_wp2_with fail
   refine wp_region_quiet_below (by kernel_rfl) (by kernel_rfl) ?_
   repeat (go_big_quiet_step (first | with_reducible exact rgS HI.out _ _ _ | with_reducible exact rgB HKD.out _ _ _ | with_reducible exact HK.out _ _))
   refine wpQuiet_nil ?_
   intro w5 hw5
   have B5:=hZq (below2' B0.out (below_regrownF hw5))
   clear hw5 g0 g1 g2 g3 g4 g5 g6 g7 g8 g9
   go_wp2_with fail
   go_ret
   exact⟨rfl,B5.out⟩
  ·rw [show ((decide (0≤s) && decide (s≤1099511627776)) && r)=false by simp [h1]]
   have t1:decide (s≤1099511627776)=false:=by simpa using h1
   go_enter Tryz.func60,Tryz.ntmps60
   go_wp2_with fail
   refine wp_region_quiet_below (by kernel_rfl) (by kernel_rfl) ?_
   repeat (go_big_quiet_step (with_reducible exact rgS HI.out _ _ _))
   refine wpQuiet_nil ?_
   intro w5 hw5
   have B5:=hZq (below2' B0.out (below_regrownF hw5))
   clear hw5 g0 g1 g2 g3 g4 g5 g6 g7 g8 g9
   go_wp2_with fail
   go_ret
   exact⟨rfl,B5.out⟩
 ·rw [show ((decide (0≤s) && decide (s≤1099511627776)) && r)=false by simp [h0]]
  have t1:decide (0≤s)=false:=by simpa using h0
  go_enter Tryz.func60,Tryz.ntmps60
  go_wp2_with fail
  refine wp_region_quiet_below (by kernel_rfl) (by kernel_rfl) ?_
  repeat (go_big_quiet_step (with_reducible exact rgS HI.out _ _ _))
  refine wpQuiet_nil ?_
  intro w5 hw5
  have B5:=hZq (below2' B0.out (below_regrownF hw5))
  clear hw5 g0 g1 g2 g3 g4 g5 g6 g7 g8 g9
  go_wp2_with fail
  go_ret
  exact⟨rfl,B5.out⟩

theorem frmay_2 {w:World} {v:Value} {t:List Row} (hv:Tab w v t) (hsh:Short t) (s:Int) (on:Bool) (c:List UInt8) (sh pr si:Int) (st:List UInt8) (sum:Nat) (hc:c.length≤4294967296) (hs:st.length≤4294967296) :
  Calls Tryz.prog 60 #[.agg #[.int .i64 2,.int .i64 s,.bool on,.string ⟨c.toArray⟩,.int .i64 sh,.int .i64 pr,.int .i64 si,.string ⟨st.toArray⟩,.int .u64 sum,v]] w fun e w' => e=.returned (.bool (frMay ⟨2,s,on,c,⟨sh,pr,si,st⟩,sum,t⟩))∧Below w.heap.size w w':=by
 have e0:(decide ((1:Int)≤2) && decide ((2:Int)≤4))=true:=by decide
 have HI:=hZq fun w => isKind_any 2 w
 simp only [e0] at HI
 clear e0
 have B0:Hid (Below w.heap.size w (w.alloc (.cells #[.int .i64 2,.int .i64 s,.bool on,.string ⟨c.toArray⟩,.int .i64 sh,.int .i64 pr,.int .i64 si,.string ⟨st.toArray⟩,.int .u64 sum,v] 29))):=hZq ((Below.refl _ _).alloc (Nat.le_refl _) _)
 have g0:=cell_regrown (w:=w.alloc (.cells #[.int .i64 2,.int .i64 s,.bool on,.string ⟨c.toArray⟩,.int .i64 sh,.int .i64 pr,.int .i64 si,.string ⟨st.toArray⟩,.int .u64 sum,v] 29)) (a:=⟨w.heap.size,0,none⟩) (v:=.int .i64 2) (by simp)
 have g1:=cell_regrown (w:=w.alloc (.cells #[.int .i64 2,.int .i64 s,.bool on,.string ⟨c.toArray⟩,.int .i64 sh,.int .i64 pr,.int .i64 si,.string ⟨st.toArray⟩,.int .u64 sum,v] 29)) (a:=⟨w.heap.size,1,none⟩) (v:=.int .i64 s) (by simp)
 have g2:=cell_regrown (w:=w.alloc (.cells #[.int .i64 2,.int .i64 s,.bool on,.string ⟨c.toArray⟩,.int .i64 sh,.int .i64 pr,.int .i64 si,.string ⟨st.toArray⟩,.int .u64 sum,v] 29)) (a:=⟨w.heap.size,2,none⟩) (v:=.bool on) (by simp)
 have g3:=cell_regrown (w:=w.alloc (.cells #[.int .i64 2,.int .i64 s,.bool on,.string ⟨c.toArray⟩,.int .i64 sh,.int .i64 pr,.int .i64 si,.string ⟨st.toArray⟩,.int .u64 sum,v] 29)) (a:=⟨w.heap.size,3,none⟩) (v:=.string ⟨c.toArray⟩) (by simp)
 have g4:=cell_regrown (w:=w.alloc (.cells #[.int .i64 2,.int .i64 s,.bool on,.string ⟨c.toArray⟩,.int .i64 sh,.int .i64 pr,.int .i64 si,.string ⟨st.toArray⟩,.int .u64 sum,v] 29)) (a:=⟨w.heap.size,4,none⟩) (v:=.int .i64 sh) (by simp)
 have g5:=cell_regrown (w:=w.alloc (.cells #[.int .i64 2,.int .i64 s,.bool on,.string ⟨c.toArray⟩,.int .i64 sh,.int .i64 pr,.int .i64 si,.string ⟨st.toArray⟩,.int .u64 sum,v] 29)) (a:=⟨w.heap.size,5,none⟩) (v:=.int .i64 pr) (by simp)
 have g6:=cell_regrown (w:=w.alloc (.cells #[.int .i64 2,.int .i64 s,.bool on,.string ⟨c.toArray⟩,.int .i64 sh,.int .i64 pr,.int .i64 si,.string ⟨st.toArray⟩,.int .u64 sum,v] 29)) (a:=⟨w.heap.size,6,none⟩) (v:=.int .i64 si) (by simp)
 have g7:=cell_regrown (w:=w.alloc (.cells #[.int .i64 2,.int .i64 s,.bool on,.string ⟨c.toArray⟩,.int .i64 sh,.int .i64 pr,.int .i64 si,.string ⟨st.toArray⟩,.int .u64 sum,v] 29)) (a:=⟨w.heap.size,7,none⟩) (v:=.string ⟨st.toArray⟩) (by simp)
 have g8:=cell_regrown (w:=w.alloc (.cells #[.int .i64 2,.int .i64 s,.bool on,.string ⟨c.toArray⟩,.int .i64 sh,.int .i64 pr,.int .i64 si,.string ⟨st.toArray⟩,.int .u64 sum,v] 29)) (a:=⟨w.heap.size,8,none⟩) (v:=.int .u64 sum) (by simp)
 have g9:=cell_regrown (w:=w.alloc (.cells #[.int .i64 2,.int .i64 s,.bool on,.string ⟨c.toArray⟩,.int .i64 sh,.int .i64 pr,.int .i64 si,.string ⟨st.toArray⟩,.int .u64 sum,v] 29)) (a:=⟨w.heap.size,9,none⟩) (v:=v) (by simp)
 have HK:Hid (∀ d os,Calls Tryz.prog 140 #[.agg #[.int .i64 2,.int .i64 s,.bool on,.string ⟨c.toArray⟩,.int .i64 sh,.int .i64 pr,.int .i64 si,.string ⟨st.toArray⟩,.int .u64 sum,v]] (Sort.grow (redrawn (w.alloc (.cells #[.int .i64 2,.int .i64 s,.bool on,.string ⟨c.toArray⟩,.int .i64 sh,.int .i64 pr,.int .i64 si,.string ⟨st.toArray⟩,.int .u64 sum,v] 29)) d) os) fun e w'' => e=.returned (.bool (frRest ⟨2,s,on,c,⟨sh,pr,si,st⟩,sum,t⟩))∧∃ p:Regrown,w''=Sort.grow (redrawn (w.alloc (.cells #[.int .i64 2,.int .i64 s,.bool on,.string ⟨c.toArray⟩,.int .i64 sh,.int .i64 pr,.int .i64 si,.string ⟨st.toArray⟩,.int .u64 sum,v] 29)) p.d) p.os):=hZq fun d os =>
  Calls.regrown_of ((mayDigest_any ((hv.later B0.out).later (below_regrown _ d os)) 2 s on c sh pr si st sum hc hs).mono fun e w' h => ⟨h.1.trans (by unfold frRest; simp),h.2⟩)
 have hix:∀ w,(Instr.index 130 kindsV (.int .i64 2)).run Tryz.prog w=.ok (.agg #[.func (.func 140) #[] #[],.func (.func 141) #[] #[],.func (.func 142) #[] #[]]) w:=fun _ => by kernel_rfl
 have hfd:∀ w,(Instr.field 129 (.agg #[.func (.func 140) #[] #[],.func (.func 141) #[] #[],.func (.func 142) #[] #[]]) 0).run Tryz.prog w=.ok (.func (.func 140) #[] #[]) w:=fun _ => by kernel_rfl
 have HKD:=hZq kindsF_any
 have hm:frMay ⟨2,s,on,c,⟨sh,pr,si,st⟩,sum,t⟩=((decide (0≤s) && decide (s≤1099511627776)) && frRest ⟨2,s,on,c,⟨sh,pr,si,st⟩,sum,t⟩):=by unfold frMay; simp
 rw [hm]
 obtain⟨r,hr⟩ : ∃ r,frRest ⟨2,s,on,c,⟨sh,pr,si,st⟩,sum,t⟩=r:=⟨_,rfl⟩
 rw [hr] at HK ⊢
 clear hr hm hv hsh hc hs
 by_cases h0:0≤s
 ·by_cases h1:s≤1099511627776
  ·rw [show ((decide (0≤s) && decide (s≤1099511627776)) && r)=r by simp [h0,h1]]
   go_enter Tryz.func60,Tryz.ntmps60
   go_wp2_with fail
   refine wp_region_quiet_below (by kernel_rfl) (by kernel_rfl) ?_
   repeat (go_big_quiet_step (first | with_reducible exact rgS HI.out _ _ _ | with_reducible exact rgB HKD.out _ _ _ | with_reducible exact HK.out _ _))
   refine wpQuiet_nil ?_
   intro w5 hw5
   have B5:=hZq (below2' B0.out (below_regrownF hw5))
   clear hw5 g0 g1 g2 g3 g4 g5 g6 g7 g8 g9
   go_wp2_with fail
   go_ret
   exact⟨rfl,B5.out⟩
  ·rw [show ((decide (0≤s) && decide (s≤1099511627776)) && r)=false by simp [h1]]
   have t1:decide (s≤1099511627776)=false:=by simpa using h1
   go_enter Tryz.func60,Tryz.ntmps60
   go_wp2_with fail
   refine wp_region_quiet_below (by kernel_rfl) (by kernel_rfl) ?_
   repeat (go_big_quiet_step (with_reducible exact rgS HI.out _ _ _))
   refine wpQuiet_nil ?_
   intro w5 hw5
   have B5:=hZq (below2' B0.out (below_regrownF hw5))
   clear hw5 g0 g1 g2 g3 g4 g5 g6 g7 g8 g9
   go_wp2_with fail
   go_ret
   exact⟨rfl,B5.out⟩
 ·rw [show ((decide (0≤s) && decide (s≤1099511627776)) && r)=false by simp [h0]]
  have t1:decide (0≤s)=false:=by simpa using h0
  go_enter Tryz.func60,Tryz.ntmps60
  go_wp2_with fail
  refine wp_region_quiet_below (by kernel_rfl) (by kernel_rfl) ?_
  repeat (go_big_quiet_step (with_reducible exact rgS HI.out _ _ _))
  refine wpQuiet_nil ?_
  intro w5 hw5
  have B5:=hZq (below2' B0.out (below_regrownF hw5))
  clear hw5 g0 g1 g2 g3 g4 g5 g6 g7 g8 g9
  go_wp2_with fail
  go_ret
  exact⟨rfl,B5.out⟩

theorem frmay_3 {w:World} {v:Value} {t:List Row} (hv:Tab w v t) (hsh:Short t) (s:Int) (on:Bool) (c:List UInt8) (sh pr si:Int) (st:List UInt8) (sum:Nat) (hc:c.length≤4294967296) (hs:st.length≤4294967296) :
  Calls Tryz.prog 60 #[.agg #[.int .i64 3,.int .i64 s,.bool on,.string ⟨c.toArray⟩,.int .i64 sh,.int .i64 pr,.int .i64 si,.string ⟨st.toArray⟩,.int .u64 sum,v]] w fun e w' => e=.returned (.bool (frMay ⟨3,s,on,c,⟨sh,pr,si,st⟩,sum,t⟩))∧Below w.heap.size w w':=by
 have e0:(decide ((1:Int)≤3) && decide ((3:Int)≤4))=true:=by decide
 have HI:=hZq fun w => isKind_any 3 w
 simp only [e0] at HI
 clear e0
 have B0:Hid (Below w.heap.size w (w.alloc (.cells #[.int .i64 3,.int .i64 s,.bool on,.string ⟨c.toArray⟩,.int .i64 sh,.int .i64 pr,.int .i64 si,.string ⟨st.toArray⟩,.int .u64 sum,v] 29))):=hZq ((Below.refl _ _).alloc (Nat.le_refl _) _)
 have g0:=cell_regrown (w:=w.alloc (.cells #[.int .i64 3,.int .i64 s,.bool on,.string ⟨c.toArray⟩,.int .i64 sh,.int .i64 pr,.int .i64 si,.string ⟨st.toArray⟩,.int .u64 sum,v] 29)) (a:=⟨w.heap.size,0,none⟩) (v:=.int .i64 3) (by simp)
 have g1:=cell_regrown (w:=w.alloc (.cells #[.int .i64 3,.int .i64 s,.bool on,.string ⟨c.toArray⟩,.int .i64 sh,.int .i64 pr,.int .i64 si,.string ⟨st.toArray⟩,.int .u64 sum,v] 29)) (a:=⟨w.heap.size,1,none⟩) (v:=.int .i64 s) (by simp)
 have g2:=cell_regrown (w:=w.alloc (.cells #[.int .i64 3,.int .i64 s,.bool on,.string ⟨c.toArray⟩,.int .i64 sh,.int .i64 pr,.int .i64 si,.string ⟨st.toArray⟩,.int .u64 sum,v] 29)) (a:=⟨w.heap.size,2,none⟩) (v:=.bool on) (by simp)
 have g3:=cell_regrown (w:=w.alloc (.cells #[.int .i64 3,.int .i64 s,.bool on,.string ⟨c.toArray⟩,.int .i64 sh,.int .i64 pr,.int .i64 si,.string ⟨st.toArray⟩,.int .u64 sum,v] 29)) (a:=⟨w.heap.size,3,none⟩) (v:=.string ⟨c.toArray⟩) (by simp)
 have g4:=cell_regrown (w:=w.alloc (.cells #[.int .i64 3,.int .i64 s,.bool on,.string ⟨c.toArray⟩,.int .i64 sh,.int .i64 pr,.int .i64 si,.string ⟨st.toArray⟩,.int .u64 sum,v] 29)) (a:=⟨w.heap.size,4,none⟩) (v:=.int .i64 sh) (by simp)
 have g5:=cell_regrown (w:=w.alloc (.cells #[.int .i64 3,.int .i64 s,.bool on,.string ⟨c.toArray⟩,.int .i64 sh,.int .i64 pr,.int .i64 si,.string ⟨st.toArray⟩,.int .u64 sum,v] 29)) (a:=⟨w.heap.size,5,none⟩) (v:=.int .i64 pr) (by simp)
 have g6:=cell_regrown (w:=w.alloc (.cells #[.int .i64 3,.int .i64 s,.bool on,.string ⟨c.toArray⟩,.int .i64 sh,.int .i64 pr,.int .i64 si,.string ⟨st.toArray⟩,.int .u64 sum,v] 29)) (a:=⟨w.heap.size,6,none⟩) (v:=.int .i64 si) (by simp)
 have g7:=cell_regrown (w:=w.alloc (.cells #[.int .i64 3,.int .i64 s,.bool on,.string ⟨c.toArray⟩,.int .i64 sh,.int .i64 pr,.int .i64 si,.string ⟨st.toArray⟩,.int .u64 sum,v] 29)) (a:=⟨w.heap.size,7,none⟩) (v:=.string ⟨st.toArray⟩) (by simp)
 have g8:=cell_regrown (w:=w.alloc (.cells #[.int .i64 3,.int .i64 s,.bool on,.string ⟨c.toArray⟩,.int .i64 sh,.int .i64 pr,.int .i64 si,.string ⟨st.toArray⟩,.int .u64 sum,v] 29)) (a:=⟨w.heap.size,8,none⟩) (v:=.int .u64 sum) (by simp)
 have g9:=cell_regrown (w:=w.alloc (.cells #[.int .i64 3,.int .i64 s,.bool on,.string ⟨c.toArray⟩,.int .i64 sh,.int .i64 pr,.int .i64 si,.string ⟨st.toArray⟩,.int .u64 sum,v] 29)) (a:=⟨w.heap.size,9,none⟩) (v:=v) (by simp)
 have HK:Hid (∀ d os,Calls Tryz.prog 143 #[.agg #[.int .i64 3,.int .i64 s,.bool on,.string ⟨c.toArray⟩,.int .i64 sh,.int .i64 pr,.int .i64 si,.string ⟨st.toArray⟩,.int .u64 sum,v]] (Sort.grow (redrawn (w.alloc (.cells #[.int .i64 3,.int .i64 s,.bool on,.string ⟨c.toArray⟩,.int .i64 sh,.int .i64 pr,.int .i64 si,.string ⟨st.toArray⟩,.int .u64 sum,v] 29)) d) os) fun e w'' => e=.returned (.bool (frRest ⟨3,s,on,c,⟨sh,pr,si,st⟩,sum,t⟩))∧∃ p:Regrown,w''=Sort.grow (redrawn (w.alloc (.cells #[.int .i64 3,.int .i64 s,.bool on,.string ⟨c.toArray⟩,.int .i64 sh,.int .i64 pr,.int .i64 si,.string ⟨st.toArray⟩,.int .u64 sum,v] 29)) p.d) p.os):=hZq fun d os =>
  Calls.regrown_of ((maySnapshot_any ((hv.later B0.out).later (below_regrown _ d os)) 3 s on c sh pr si st sum hc hs hsh).mono fun e w' h => ⟨h.1.trans (by unfold frRest; simp),h.2⟩)
 have hix:∀ w,(Instr.index 130 kindsV (.int .i64 3)).run Tryz.prog w=.ok (.agg #[.func (.func 143) #[] #[],.func (.func 144) #[] #[],.func (.func 145) #[] #[]]) w:=fun _ => by kernel_rfl
 have hfd:∀ w,(Instr.field 129 (.agg #[.func (.func 143) #[] #[],.func (.func 144) #[] #[],.func (.func 145) #[] #[]]) 0).run Tryz.prog w=.ok (.func (.func 143) #[] #[]) w:=fun _ => by kernel_rfl
 have HKD:=hZq kindsF_any
 have hm:frMay ⟨3,s,on,c,⟨sh,pr,si,st⟩,sum,t⟩=((decide (0≤s) && decide (s≤1099511627776)) && frRest ⟨3,s,on,c,⟨sh,pr,si,st⟩,sum,t⟩):=by unfold frMay; simp
 rw [hm]
 obtain⟨r,hr⟩ : ∃ r,frRest ⟨3,s,on,c,⟨sh,pr,si,st⟩,sum,t⟩=r:=⟨_,rfl⟩
 rw [hr] at HK ⊢
 clear hr hm hv hsh hc hs
 by_cases h0:0≤s
 ·by_cases h1:s≤1099511627776
  ·rw [show ((decide (0≤s) && decide (s≤1099511627776)) && r)=r by simp [h0,h1]]
   go_enter Tryz.func60,Tryz.ntmps60
   go_wp2_with fail
   refine wp_region_quiet_below (by kernel_rfl) (by kernel_rfl) ?_
   repeat (go_big_quiet_step (first | with_reducible exact rgS HI.out _ _ _ | with_reducible exact rgB HKD.out _ _ _ | with_reducible exact HK.out _ _))
   refine wpQuiet_nil ?_
   intro w5 hw5
   have B5:=hZq (below2' B0.out (below_regrownF hw5))
   clear hw5 g0 g1 g2 g3 g4 g5 g6 g7 g8 g9
   go_wp2_with fail
   go_ret
   exact⟨rfl,B5.out⟩
  ·rw [show ((decide (0≤s) && decide (s≤1099511627776)) && r)=false by simp [h1]]
   have t1:decide (s≤1099511627776)=false:=by simpa using h1
   go_enter Tryz.func60,Tryz.ntmps60
   go_wp2_with fail
   refine wp_region_quiet_below (by kernel_rfl) (by kernel_rfl) ?_
   repeat (go_big_quiet_step (with_reducible exact rgS HI.out _ _ _))
   refine wpQuiet_nil ?_
   intro w5 hw5
   have B5:=hZq (below2' B0.out (below_regrownF hw5))
   clear hw5 g0 g1 g2 g3 g4 g5 g6 g7 g8 g9
   go_wp2_with fail
   go_ret
   exact⟨rfl,B5.out⟩
 ·rw [show ((decide (0≤s) && decide (s≤1099511627776)) && r)=false by simp [h0]]
  have t1:decide (0≤s)=false:=by simpa using h0
  go_enter Tryz.func60,Tryz.ntmps60
  go_wp2_with fail
  refine wp_region_quiet_below (by kernel_rfl) (by kernel_rfl) ?_
  repeat (go_big_quiet_step (with_reducible exact rgS HI.out _ _ _))
  refine wpQuiet_nil ?_
  intro w5 hw5
  have B5:=hZq (below2' B0.out (below_regrownF hw5))
  clear hw5 g0 g1 g2 g3 g4 g5 g6 g7 g8 g9
  go_wp2_with fail
  go_ret
  exact⟨rfl,B5.out⟩

theorem frmay_4 {w:World} {v:Value} {t:List Row} (hv:Tab w v t) (hsh:Short t) (s:Int) (on:Bool) (c:List UInt8) (sh pr si:Int) (st:List UInt8) (sum:Nat) (hc:c.length≤4294967296) (hs:st.length≤4294967296) :
  Calls Tryz.prog 60 #[.agg #[.int .i64 4,.int .i64 s,.bool on,.string ⟨c.toArray⟩,.int .i64 sh,.int .i64 pr,.int .i64 si,.string ⟨st.toArray⟩,.int .u64 sum,v]] w fun e w' => e=.returned (.bool (frMay ⟨4,s,on,c,⟨sh,pr,si,st⟩,sum,t⟩))∧Below w.heap.size w w':=by
 have e0:(decide ((1:Int)≤4) && decide ((4:Int)≤4))=true:=by decide
 have HI:=hZq fun w => isKind_any 4 w
 simp only [e0] at HI
 clear e0
 have B0:Hid (Below w.heap.size w (w.alloc (.cells #[.int .i64 4,.int .i64 s,.bool on,.string ⟨c.toArray⟩,.int .i64 sh,.int .i64 pr,.int .i64 si,.string ⟨st.toArray⟩,.int .u64 sum,v] 29))):=hZq ((Below.refl _ _).alloc (Nat.le_refl _) _)
 have g0:=cell_regrown (w:=w.alloc (.cells #[.int .i64 4,.int .i64 s,.bool on,.string ⟨c.toArray⟩,.int .i64 sh,.int .i64 pr,.int .i64 si,.string ⟨st.toArray⟩,.int .u64 sum,v] 29)) (a:=⟨w.heap.size,0,none⟩) (v:=.int .i64 4) (by simp)
 have g1:=cell_regrown (w:=w.alloc (.cells #[.int .i64 4,.int .i64 s,.bool on,.string ⟨c.toArray⟩,.int .i64 sh,.int .i64 pr,.int .i64 si,.string ⟨st.toArray⟩,.int .u64 sum,v] 29)) (a:=⟨w.heap.size,1,none⟩) (v:=.int .i64 s) (by simp)
 have g2:=cell_regrown (w:=w.alloc (.cells #[.int .i64 4,.int .i64 s,.bool on,.string ⟨c.toArray⟩,.int .i64 sh,.int .i64 pr,.int .i64 si,.string ⟨st.toArray⟩,.int .u64 sum,v] 29)) (a:=⟨w.heap.size,2,none⟩) (v:=.bool on) (by simp)
 have g3:=cell_regrown (w:=w.alloc (.cells #[.int .i64 4,.int .i64 s,.bool on,.string ⟨c.toArray⟩,.int .i64 sh,.int .i64 pr,.int .i64 si,.string ⟨st.toArray⟩,.int .u64 sum,v] 29)) (a:=⟨w.heap.size,3,none⟩) (v:=.string ⟨c.toArray⟩) (by simp)
 have g4:=cell_regrown (w:=w.alloc (.cells #[.int .i64 4,.int .i64 s,.bool on,.string ⟨c.toArray⟩,.int .i64 sh,.int .i64 pr,.int .i64 si,.string ⟨st.toArray⟩,.int .u64 sum,v] 29)) (a:=⟨w.heap.size,4,none⟩) (v:=.int .i64 sh) (by simp)
 have g5:=cell_regrown (w:=w.alloc (.cells #[.int .i64 4,.int .i64 s,.bool on,.string ⟨c.toArray⟩,.int .i64 sh,.int .i64 pr,.int .i64 si,.string ⟨st.toArray⟩,.int .u64 sum,v] 29)) (a:=⟨w.heap.size,5,none⟩) (v:=.int .i64 pr) (by simp)
 have g6:=cell_regrown (w:=w.alloc (.cells #[.int .i64 4,.int .i64 s,.bool on,.string ⟨c.toArray⟩,.int .i64 sh,.int .i64 pr,.int .i64 si,.string ⟨st.toArray⟩,.int .u64 sum,v] 29)) (a:=⟨w.heap.size,6,none⟩) (v:=.int .i64 si) (by simp)
 have g7:=cell_regrown (w:=w.alloc (.cells #[.int .i64 4,.int .i64 s,.bool on,.string ⟨c.toArray⟩,.int .i64 sh,.int .i64 pr,.int .i64 si,.string ⟨st.toArray⟩,.int .u64 sum,v] 29)) (a:=⟨w.heap.size,7,none⟩) (v:=.string ⟨st.toArray⟩) (by simp)
 have g8:=cell_regrown (w:=w.alloc (.cells #[.int .i64 4,.int .i64 s,.bool on,.string ⟨c.toArray⟩,.int .i64 sh,.int .i64 pr,.int .i64 si,.string ⟨st.toArray⟩,.int .u64 sum,v] 29)) (a:=⟨w.heap.size,8,none⟩) (v:=.int .u64 sum) (by simp)
 have g9:=cell_regrown (w:=w.alloc (.cells #[.int .i64 4,.int .i64 s,.bool on,.string ⟨c.toArray⟩,.int .i64 sh,.int .i64 pr,.int .i64 si,.string ⟨st.toArray⟩,.int .u64 sum,v] 29)) (a:=⟨w.heap.size,9,none⟩) (v:=v) (by simp)
 have HK:Hid (∀ d os,Calls Tryz.prog 146 #[.agg #[.int .i64 4,.int .i64 s,.bool on,.string ⟨c.toArray⟩,.int .i64 sh,.int .i64 pr,.int .i64 si,.string ⟨st.toArray⟩,.int .u64 sum,v]] (Sort.grow (redrawn (w.alloc (.cells #[.int .i64 4,.int .i64 s,.bool on,.string ⟨c.toArray⟩,.int .i64 sh,.int .i64 pr,.int .i64 si,.string ⟨st.toArray⟩,.int .u64 sum,v] 29)) d) os) fun e w'' => e=.returned (.bool (frRest ⟨4,s,on,c,⟨sh,pr,si,st⟩,sum,t⟩))∧∃ p:Regrown,w''=Sort.grow (redrawn (w.alloc (.cells #[.int .i64 4,.int .i64 s,.bool on,.string ⟨c.toArray⟩,.int .i64 sh,.int .i64 pr,.int .i64 si,.string ⟨st.toArray⟩,.int .u64 sum,v] 29)) p.d) p.os):=hZq fun d os =>
  Calls.regrown_of ((mayResync_any ((hv.later B0.out).later (below_regrown _ d os)) 4 s on c sh pr si st sum hc hs).mono fun e w' h => ⟨h.1.trans (by unfold frRest; simp),h.2⟩)
 have hix:∀ w,(Instr.index 130 kindsV (.int .i64 4)).run Tryz.prog w=.ok (.agg #[.func (.func 146) #[] #[],.func (.func 147) #[] #[],.func (.func 148) #[] #[]]) w:=fun _ => by kernel_rfl
 have hfd:∀ w,(Instr.field 129 (.agg #[.func (.func 146) #[] #[],.func (.func 147) #[] #[],.func (.func 148) #[] #[]]) 0).run Tryz.prog w=.ok (.func (.func 146) #[] #[]) w:=fun _ => by kernel_rfl
 have HKD:=hZq kindsF_any
 have hm:frMay ⟨4,s,on,c,⟨sh,pr,si,st⟩,sum,t⟩=((decide (0≤s) && decide (s≤1099511627776)) && frRest ⟨4,s,on,c,⟨sh,pr,si,st⟩,sum,t⟩):=by unfold frMay; simp
 rw [hm]
 obtain⟨r,hr⟩ : ∃ r,frRest ⟨4,s,on,c,⟨sh,pr,si,st⟩,sum,t⟩=r:=⟨_,rfl⟩
 rw [hr] at HK ⊢
 clear hr hm hv hsh hc hs
 by_cases h0:0≤s
 ·by_cases h1:s≤1099511627776
  ·rw [show ((decide (0≤s) && decide (s≤1099511627776)) && r)=r by simp [h0,h1]]
   go_enter Tryz.func60,Tryz.ntmps60
   go_wp2_with fail
   refine wp_region_quiet_below (by kernel_rfl) (by kernel_rfl) ?_
   repeat (go_big_quiet_step (first | with_reducible exact rgS HI.out _ _ _ | with_reducible exact rgB HKD.out _ _ _ | with_reducible exact HK.out _ _))
   refine wpQuiet_nil ?_
   intro w5 hw5
   have B5:=hZq (below2' B0.out (below_regrownF hw5))
   clear hw5 g0 g1 g2 g3 g4 g5 g6 g7 g8 g9
   go_wp2_with fail
   go_ret
   exact⟨rfl,B5.out⟩
  ·rw [show ((decide (0≤s) && decide (s≤1099511627776)) && r)=false by simp [h1]]
   have t1:decide (s≤1099511627776)=false:=by simpa using h1
   go_enter Tryz.func60,Tryz.ntmps60
   go_wp2_with fail
   refine wp_region_quiet_below (by kernel_rfl) (by kernel_rfl) ?_
   repeat (go_big_quiet_step (with_reducible exact rgS HI.out _ _ _))
   refine wpQuiet_nil ?_
   intro w5 hw5
   have B5:=hZq (below2' B0.out (below_regrownF hw5))
   clear hw5 g0 g1 g2 g3 g4 g5 g6 g7 g8 g9
   go_wp2_with fail
   go_ret
   exact⟨rfl,B5.out⟩
 ·rw [show ((decide (0≤s) && decide (s≤1099511627776)) && r)=false by simp [h0]]
  have t1:decide (0≤s)=false:=by simpa using h0
  go_enter Tryz.func60,Tryz.ntmps60
  go_wp2_with fail
  refine wp_region_quiet_below (by kernel_rfl) (by kernel_rfl) ?_
  repeat (go_big_quiet_step (with_reducible exact rgS HI.out _ _ _))
  refine wpQuiet_nil ?_
  intro w5 hw5
  have B5:=hZq (below2' B0.out (below_regrownF hw5))
  clear hw5 g0 g1 g2 g3 g4 g5 g6 g7 g8 g9
  go_wp2_with fail
  go_ret
  exact⟨rfl,B5.out⟩

theorem frmay_any {w:World} {v:Value} {t:List Row} (hv:Tab w v t) (hsh:Short t) (k s:Int) (on:Bool) (c:List UInt8) (sh pr si:Int) (st:List UInt8) (sum:Nat) (hc:c.length≤4294967296) (hs:st.length≤4294967296) :
  Calls Tryz.prog 60 #[.agg #[.int .i64 k,.int .i64 s,.bool on,.string ⟨c.toArray⟩,.int .i64 sh,.int .i64 pr,.int .i64 si,.string ⟨st.toArray⟩,.int .u64 sum,v]] w fun e w' => e=.returned (.bool (frMay ⟨k,s,on,c,⟨sh,pr,si,st⟩,sum,t⟩))∧Below w.heap.size w w':=by
 by_cases h:k < 1∨4 < k
 ·have:frMay ⟨k,s,on,c,⟨sh,pr,si,st⟩,sum,t⟩=false:=by
   unfold frMay
   rcases h with h | h
   ·rw [show decide (1≤k)=false by simp; omega]; rfl
   ·rw [show decide (k≤4)=false by simp; omega]; simp
  rw [this]
  exact frmay_out k s on c sh pr si st sum v h w
 ·have hk:k=1∨k=2∨k=3∨k=4:=by omega
  rcases hk with rfl | rfl | rfl | rfl
  ·exact frmay_1 hv hsh s on c sh pr si st sum hc hs
  ·exact frmay_2 hv hsh s on c sh pr si st sum hc hs
  ·exact frmay_3 hv hsh s on c sh pr si st sum hc hs
  ·exact frmay_4 hv hsh s on c sh pr si st sum hc hs

end Go.Proofs.YtekkofldhhdpgaaGreat
