/-
 TEXTS OF THE PROOF, one behind the other: ViewVal, ViewSeen, ViewOf.
-/
import Derived.Test.YtphfinlfabklmaaGreatB24
import Derived.Test.YtphfinlfabklmaaGreatB21
import Derived.Test.YtphfinlfabklmaaGreatB11
import Derived.Test.YtphfinlfabklmaaGreatB10
import Derived.Test.YtphfinlfabklmaaGreatB25
import Derived.Test.YtphfinlfabklmaaGreatB27
import Derived.Test.YtphfinlfabklmaaGreatB13
import Derived.Test.YtphfinlfabklmaaGreatB16
import Derived.RangeFuncNested
import Derived.RangeFuncBound
import Derived.RangeFuncCalls
import Derived.RangeFuncLeaves
import Derived.Shelf.Abstract
import Derived.Shelf.RegionOpen
import Derived.WalkKit
import Derived.OwnWalkIn
import Derived.TacticsInMore
import Derived.LoopNIn
import Derived.LoopIn

set_option maxHeartbeats 12800000
set_option maxRecDepth 100000

section

namespace Go.Proofs.YtphfinlfabklmaaGreat
open Go.RowKit

theorem wf_small {n:Int} (h1:-9000000000000000000≤n) (h2:n≤9000000000000000000):(Lit.int .i64 n).wf=true:=by
 unfold Lit.wf
 rw [Bool.and_eq_true,decide_eq_true_eq,decide_eq_true_eq,show IntKind.i64.min=-9223372036854775808 from rfl,show IntKind.i64.max=9223372036854775807 from rfl]
 omega

theorem fit_of_may {t:Sta} (hm:stMay t=true):∀ s ∈ t.s,SesFit s:=by
 intro s hs
 have h:=(seMay_rise (stMay_parts hm).2).2.2 s hs
 unfold seOne at h
 simp only [Bool.and_eq_true,decide_eq_true_eq] at h
 obtain⟨_,h1,h2,h3⟩:=h
 unfold vaMay numsOk at h3
 rw [Bool.and_eq_true,decide_eq_true_eq] at h3
 obtain⟨⟨h4,h5,h6,h7,h8,h9⟩,_⟩:=h3
 refine ⟨?_,?_,?_,?_⟩ <;> exact wf_small (by omega) (by omega)

theorem len_of_may {t:Sta} (hm:stMay t=true):t.s.length≤32:=(seMay_rise (stMay_parts hm).2).1

theorem seOf_fit {l:List Ses} (h:∀ s ∈ l,SesFit s) (u:List UInt8):∀ s ∈ seOf l u,SesFit s:=fun s hs => h s (List.mem_filter.1 hs).1

theorem vwValue_no {t:Sta} {u c:List UInt8} (h:stMay t=false):vwValue t u c=(Val.zero,false):=by
 unfold vwValue
 rw [if_neg (by rw [h]; simp)]
theorem vwVal_no {t:Sta} {u c:List UInt8} (h:roSees t.e u c=false):vwVal t u c=(Val.zero,false):=by
 unfold vwVal
 rw [if_neg (by rw [h]; simp)]
theorem vwVal_yes {t:Sta} {u c:List UInt8} (h:roSees t.e u c=true):vwVal t u c=(valB (seOf t.s c),someB (seOf t.s c)):=by
 unfold vwVal valB someB
 by_cases he:seOf t.s c=[]
 ·rw [if_neg (fun e => e.2 he),if_pos he,he]
  rfl
 ·rw [if_pos ⟨h,he⟩,if_neg he]
  simp [he]
theorem vwValue_is {t:Sta} {u c:List UInt8} (h:stMay t=true):vwValue t u c=vwVal t u c:=by
 unfold vwValue
 rw [if_pos h]

def Res4 (w:World) (B:Nat):Prop:=w.heap[B]?=some (.cells #[.int .i64 0,.int .i64 0,.int .i64 0,.string ⟨#[]⟩] 30 (0,0))

theorem res4_cells {w:World} {B:Nat} (h:Res4 w B):(w.cell? ⟨B,0,none⟩=some (.int .i64 0)∧w.cell? ⟨B,1,none⟩=some (.int .i64 0)∧w.cell? ⟨B,2,none⟩=some (.int .i64 0)∧w.cell? ⟨B,3,none⟩=some (.string ⟨#[]⟩))∧(w.frozen? ⟨B,0,none⟩=false∧w.frozen? ⟨B,1,none⟩=false∧w.frozen? ⟨B,2,none⟩=false∧w.frozen? ⟨B,3,none⟩=false) :=
 ⟨⟨cell_of_row w B 0 _ _ (0,0) h,cell_of_row w B 1 _ _ (0,0) h,cell_of_row w B 2 _ _ (0,0) h,cell_of_row w B 3 _ _ (0,0) h⟩,⟨frozen_of_row w B 0 _ _ h,frozen_of_row w B 1 _ _ h,frozen_of_row w B 2 _ _ h,frozen_of_row w B 3 _ _ h⟩⟩

theorem Res4.up {w w':World} {B:Nat} (h:Res4 w B) (hb:Below w.heap.size w w'):Res4 w' B:=upT h hb

theorem shown_any {w:World} {x y:Value} {t:Sta} (h:StAt w x y t) (hl:t.s.length≤32) (hf:∀ s ∈ t.s,SesFit s) (u:List UInt8) {st:List UInt8} {a b c:Int} {k:Bool} (hr:valB (seOf t.s u)=⟨a,b,c,st⟩) (hk:someB (seOf t.s u)=k) :
  Calls Tryz.prog 65 #[.agg #[x,y],.string ⟨u.toArray⟩] w fun e w' => e=.returned (.tuple #[.agg #[.int .i64 a,.int .i64 b,.int .i64 c,.string ⟨st.toArray⟩],.bool k])∧Below w.heap.size w w':=by
 have b0:=bl_newZ w (.cells #[x,y] 25)
 have b1:=bl_newZ (w.alloc (.cells #[x,y] 25)) (.cells #[.int .i64 0,.int .i64 0,.int .i64 0,.string ⟨#[]⟩] 30)
 have HB:=hD (below2Z b0 b1)
 have H:=hD ((h.later b0).later b1)
 have F:=hD (upT (heap_newT w (.cells #[x,y] 25)) b1)
 have R:Hid (Res4 ((w.alloc (.cells #[x,y] 25)).alloc (.cells #[.int .i64 0,.int .i64 0,.int .i64 0,.string ⟨#[]⟩] 30)) (w.heap.size+1)):=hD (by have:=heap_newT (w.alloc (.cells #[x,y] 25)) (.cells #[.int .i64 0,.int .i64 0,.int .i64 0,.string ⟨#[]⟩] 30); rwa [World.size_alloc] at this)
 have HF:=hD hf
 have HR:=hD hr
 have HK:=hD hk
 clear hf hr hk
 clear b0 b1 h
 obtain⟨c0,c1,-,-⟩:=two_T F.out
 obtain⟨⟨r0,r1,r2,r3⟩,⟨g0,g1,g2,g3⟩⟩:=res4_cells R.out
 go_enter Tryz.func65,Tryz.ntmps65
 go_wp2_with fail
 clear c0 c1 r0 r1 r2 r3 g0 g1 g2 g3
 refine (sof_any H.out.2 (by omega) u).mono ?_
 rintro e w1 ⟨v,rfl,ho,b1⟩
 replace H:=hD (H.out.later b1)
 replace F:=hD (upT F.out b1)
 replace R:=hD (R.out.up b1)
 replace HB:=hD (below2Z HB.out b1)
 clear b1
 have HS:=hD (OwnS.rd sesOK ho)
 clear ho
 obtain⟨c0,c1,-,-⟩:=two_T F.out
 obtain⟨⟨r0,r1,r2,r3⟩,⟨g0,g1,g2,g3⟩⟩:=res4_cells R.out
 go_wp2_with fail
 clear c0 c1 r0 r1 r2 r3 g0 g1 g2 g3
 refine (bvalue_any HS.out (seOf_fit HF.out u) HR.out HK.out).mono ?_
 rintro e w2 ⟨rfl,b2⟩
 replace H:=hD (H.out.later b2)
 replace F:=hD (upT F.out b2)
 replace R:=hD (R.out.up b2)
 replace HB:=hD (below2Z HB.out b2)
 clear b2
 obtain⟨c0,c1,-,-⟩:=two_T F.out
 obtain⟨⟨r0,r1,r2,r3⟩,⟨g0,g1,g2,g3⟩⟩:=res4_cells R.out
 go_wp2_with fail
 refine bodyPost_ret (v:=.tuple #[.agg #[.int .i64 a,.int .i64 b,.int .i64 c,.string ⟨st.toArray⟩],.bool k]) (by simp [results,Tryz.results65,go_sem,r0,r1,r2,r3]) rfl ⟨rfl,?_⟩
 have hle:w.heap.size≤w.heap.size+1:=Nat.le_succ _
 exact (((HB.out.setCell hle _).setCell hle _).setCell hle _).setCell hle _

theorem vwvalue_no {w:World} {x y:Value} {t:Sta} (h:StAt w x y t) (hok:ShortE t.e∧ShortS t.s) (u v:List UInt8) (hm:stMay t=false) :
  Calls Tryz.prog 15 #[.agg #[x,y],.string ⟨u.toArray⟩,.string ⟨v.toArray⟩] w fun e w' => e=.returned (.tuple #[.agg #[.int .i64 0,.int .i64 0,.int .i64 0,.string ⟨#[]⟩],.bool false])∧Below w.heap.size w w':=by
 have b0:=bl_newZ w (.cells #[x,y] 25)
 have b1:=bl_newZ (w.alloc (.cells #[x,y] 25)) (.cells #[.int .i64 0,.int .i64 0,.int .i64 0,.string ⟨#[]⟩] 30)
 have HB:=hD (below2Z b0 b1)
 have H:=hD ((h.later b0).later b1)
 have F:=hD (upT (heap_newT w (.cells #[x,y] 25)) b1)
 have R:Hid (Res4 ((w.alloc (.cells #[x,y] 25)).alloc (.cells #[.int .i64 0,.int .i64 0,.int .i64 0,.string ⟨#[]⟩] 30)) (w.heap.size+1)):=hD (by have:=heap_newT (w.alloc (.cells #[x,y] 25)) (.cells #[.int .i64 0,.int .i64 0,.int .i64 0,.string ⟨#[]⟩] 30); rwa [World.size_alloc] at this)
 have HM:=hD hm
 have HOK:=hD hok
 clear hm hok
 clear b0 b1 h
 obtain⟨c0,c1,-,-⟩:=two_T F.out
 obtain⟨⟨r0,r1,r2,r3⟩,⟨g0,g1,g2,g3⟩⟩:=res4_cells R.out
 go_enter Tryz.func15,Tryz.ntmps15
 go_wp2_with fail
 clear c0 c1 r0 r1 r2 r3 g0 g1 g2 g3
 refine (stmay_any H.out HOK.out.1 HOK.out.2 HM).mono ?_
 rintro e w1 ⟨rfl,b1⟩
 replace H:=hD (H.out.later b1)
 replace F:=hD (upT F.out b1)
 replace R:=hD (R.out.up b1)
 replace HB:=hD (below2Z HB.out b1)
 clear b1
 obtain⟨c0,c1,-,-⟩:=two_T F.out
 obtain⟨⟨r0,r1,r2,r3⟩,⟨g0,g1,g2,g3⟩⟩:=res4_cells R.out
 go_wp2_with fail
 refine bodyPost_ret (v:=.tuple #[.agg #[.int .i64 0,.int .i64 0,.int .i64 0,.string ⟨#[]⟩],.bool false]) (by simp [results,Tryz.results15,go_sem,r0,r1,r2,r3]) rfl ⟨rfl,?_⟩
 have hle:w.heap.size≤w.heap.size+1:=Nat.le_succ _
 exact (((HB.out.setCell hle _).setCell hle _).setCell hle _).setCell hle _

theorem vwvalue_not {w:World} {x y:Value} {t:Sta} (h:StAt w x y t) (hok:ShortE t.e∧ShortS t.s) (u v:List UInt8) (hm:stMay t=true) (hn:roSees t.e u v=false) :
  Calls Tryz.prog 15 #[.agg #[x,y],.string ⟨u.toArray⟩,.string ⟨v.toArray⟩] w fun e w' => e=.returned (.tuple #[.agg #[.int .i64 0,.int .i64 0,.int .i64 0,.string ⟨#[]⟩],.bool false])∧Below w.heap.size w w':=by
 have b0:=bl_newZ w (.cells #[x,y] 25)
 have b1:=bl_newZ (w.alloc (.cells #[x,y] 25)) (.cells #[.int .i64 0,.int .i64 0,.int .i64 0,.string ⟨#[]⟩] 30)
 have HB:=hD (below2Z b0 b1)
 have H:=hD ((h.later b0).later b1)
 have F:=hD (upT (heap_newT w (.cells #[x,y] 25)) b1)
 have R:Hid (Res4 ((w.alloc (.cells #[x,y] 25)).alloc (.cells #[.int .i64 0,.int .i64 0,.int .i64 0,.string ⟨#[]⟩] 30)) (w.heap.size+1)):=hD (by have:=heap_newT (w.alloc (.cells #[x,y] 25)) (.cells #[.int .i64 0,.int .i64 0,.int .i64 0,.string ⟨#[]⟩] 30); rwa [World.size_alloc] at this)
 have HM:=hD hm
 have HOK:=hD hok
 have HN:=hD hn
 clear hm hok hn
 clear b0 b1 h
 obtain⟨c0,c1,-,-⟩:=two_T F.out
 obtain⟨⟨r0,r1,r2,r3⟩,⟨g0,g1,g2,g3⟩⟩:=res4_cells R.out
 go_enter Tryz.func15,Tryz.ntmps15
 go_wp2_with fail
 clear c0 c1 r0 r1 r2 r3 g0 g1 g2 g3
 refine (stmay_any H.out HOK.out.1 HOK.out.2 HM).mono ?_
 rintro e w1 ⟨rfl,b1⟩
 replace H:=hD (H.out.later b1)
 replace F:=hD (upT F.out b1)
 replace R:=hD (R.out.up b1)
 replace HB:=hD (below2Z HB.out b1)
 clear b1
 obtain⟨c0,c1,-,-⟩:=two_T F.out
 obtain⟨⟨r0,r1,r2,r3⟩,⟨g0,g1,g2,g3⟩⟩:=res4_cells R.out
 go_wp2_with fail
 clear c0 c1 r0 r1 r2 r3 g0 g1 g2 g3
 refine (sees8_any H.out.1 u v).mono ?_
 rintro e w2 ⟨rfl,b2⟩
 replace H:=hD (H.out.later b2)
 replace F:=hD (upT F.out b2)
 replace R:=hD (R.out.up b2)
 replace HB:=hD (below2Z HB.out b2)
 clear b2
 rw [HN.out]
 obtain⟨c0,c1,-,-⟩:=two_T F.out
 obtain⟨⟨r0,r1,r2,r3⟩,⟨g0,g1,g2,g3⟩⟩:=res4_cells R.out
 go_wp2_with fail
 refine bodyPost_ret (v:=.tuple #[.agg #[.int .i64 0,.int .i64 0,.int .i64 0,.string ⟨#[]⟩],.bool false]) (by simp [results,Tryz.results15,go_sem,r0,r1,r2,r3]) rfl ⟨rfl,?_⟩
 have hle:w.heap.size≤w.heap.size+1:=Nat.le_succ _
 exact (((HB.out.setCell hle _).setCell hle _).setCell hle _).setCell hle _

theorem vwvalue_yes {w:World} {x y:Value} {t:Sta} (h:StAt w x y t) (hok:ShortE t.e∧ShortS t.s) (u v:List UInt8) (hm:stMay t=true) (hn:roSees t.e u v=true) {st:List UInt8} {a b c:Int} {k:Bool} (hr:valB (seOf t.s v)=⟨a,b,c,st⟩) (hk:someB (seOf t.s v)=k) :
  Calls Tryz.prog 15 #[.agg #[x,y],.string ⟨u.toArray⟩,.string ⟨v.toArray⟩] w fun e w' => e=.returned (.tuple #[.agg #[.int .i64 a,.int .i64 b,.int .i64 c,.string ⟨st.toArray⟩],.bool k])∧Below w.heap.size w w':=by
 have b0:=bl_newZ w (.cells #[x,y] 25)
 have b1:=bl_newZ (w.alloc (.cells #[x,y] 25)) (.cells #[.int .i64 0,.int .i64 0,.int .i64 0,.string ⟨#[]⟩] 30)
 have HB:=hD (below2Z b0 b1)
 have H:=hD ((h.later b0).later b1)
 have F:=hD (upT (heap_newT w (.cells #[x,y] 25)) b1)
 have R:Hid (Res4 ((w.alloc (.cells #[x,y] 25)).alloc (.cells #[.int .i64 0,.int .i64 0,.int .i64 0,.string ⟨#[]⟩] 30)) (w.heap.size+1)):=hD (by have:=heap_newT (w.alloc (.cells #[x,y] 25)) (.cells #[.int .i64 0,.int .i64 0,.int .i64 0,.string ⟨#[]⟩] 30); rwa [World.size_alloc] at this)
 have HM:=hD hm
 have HOK:=hD hok
 have HN:=hD hn
 have HR:=hD hr
 have HK:=hD hk
 clear hm hok hn hr hk
 clear b0 b1 h
 obtain⟨c0,c1,-,-⟩:=two_T F.out
 obtain⟨⟨r0,r1,r2,r3⟩,⟨g0,g1,g2,g3⟩⟩:=res4_cells R.out
 go_enter Tryz.func15,Tryz.ntmps15
 go_wp2_with fail
 clear c0 c1 r0 r1 r2 r3 g0 g1 g2 g3
 refine (stmay_any H.out HOK.out.1 HOK.out.2 HM).mono ?_
 rintro e w1 ⟨rfl,b1⟩
 replace H:=hD (H.out.later b1)
 replace F:=hD (upT F.out b1)
 replace R:=hD (R.out.up b1)
 replace HB:=hD (below2Z HB.out b1)
 clear b1
 obtain⟨c0,c1,-,-⟩:=two_T F.out
 obtain⟨⟨r0,r1,r2,r3⟩,⟨g0,g1,g2,g3⟩⟩:=res4_cells R.out
 go_wp2_with fail
 clear c0 c1 r0 r1 r2 r3 g0 g1 g2 g3
 refine (sees8_any H.out.1 u v).mono ?_
 rintro e w2 ⟨rfl,b2⟩
 replace H:=hD (H.out.later b2)
 replace F:=hD (upT F.out b2)
 replace R:=hD (R.out.up b2)
 replace HB:=hD (below2Z HB.out b2)
 clear b2
 rw [HN.out]
 obtain⟨c0,c1,-,-⟩:=two_T F.out
 obtain⟨⟨r0,r1,r2,r3⟩,⟨g0,g1,g2,g3⟩⟩:=res4_cells R.out
 go_wp2_with fail
 clear c0 c1 r0 r1 r2 r3 g0 g1 g2 g3
 refine (shown_any H.out (len_of_may HM.out) (fit_of_may HM.out) v HR.out HK.out).mono ?_
 rintro e w3 ⟨rfl,b3⟩
 replace H:=hD (H.out.later b3)
 replace F:=hD (upT F.out b3)
 replace R:=hD (R.out.up b3)
 replace HB:=hD (below2Z HB.out b3)
 clear b3
 obtain⟨c0,c1,-,-⟩:=two_T F.out
 obtain⟨⟨r0,r1,r2,r3⟩,⟨g0,g1,g2,g3⟩⟩:=res4_cells R.out
 go_wp2_with fail
 refine bodyPost_ret (v:=.tuple #[.agg #[.int .i64 a,.int .i64 b,.int .i64 c,.string ⟨st.toArray⟩],.bool k]) (by simp [results,Tryz.results15,go_sem,r0,r1,r2,r3]) rfl ⟨rfl,?_⟩
 have hle:w.heap.size≤w.heap.size+1:=Nat.le_succ _
 exact (((HB.out.setCell hle _).setCell hle _).setCell hle _).setCell hle _

theorem vwvalue_any {w:World} {x y:Value} {t:Sta} (h:StAt w x y t) (hok:ShortE t.e∧ShortS t.s) (u v:List UInt8) {st:List UInt8} {a b c:Int} {k:Bool} (hr:Hid (vwValue t u v=(⟨a,b,c,st⟩,k))) :
  Calls Tryz.prog 15 #[.agg #[x,y],.string ⟨u.toArray⟩,.string ⟨v.toArray⟩] w fun e w' => e=.returned (.tuple #[.agg #[.int .i64 a,.int .i64 b,.int .i64 c,.string ⟨st.toArray⟩],.bool k])∧Below w.heap.size w w':=by
 have hr:=hr.out
 cases hm:stMay t with
 | false =>
  rw [vwValue_no hm] at hr
  simp only [Prod.mk.injEq,Val.zero,Val.mk.injEq] at hr
  obtain⟨⟨rfl,rfl,rfl,rfl⟩,rfl⟩:=hr
  exact vwvalue_no h hok u v hm
 | true =>
  rw [vwValue_is hm] at hr
  cases hn:roSees t.e u v with
  | false =>
   rw [vwVal_no hn] at hr
   simp only [Prod.mk.injEq,Val.zero,Val.mk.injEq] at hr
   obtain⟨⟨rfl,rfl,rfl,rfl⟩,rfl⟩:=hr
   exact vwvalue_not h hok u v hm hn
  | true =>
   rw [vwVal_yes hn] at hr
   exact vwvalue_yes h hok u v hm hn (Prod.mk.inj hr).1 (Prod.mk.inj hr).2

end Go.Proofs.YtphfinlfabklmaaGreat

end

section

namespace Go.Proofs.YtphfinlfabklmaaGreat
open Go.RowKit Go.Shelf

attribute [local go_sem] Oper.semAt_some

def KpV (n₀:Nat) (W W':World):Prop:=Below n₀ W W'∧∀ (k:Nat) (cs:Array Value) (T:TypeId) (m:Nat × Nat),W.heap[k]?=some (Obj.cells cs T m)→T ≠ 45→T ≠ 34→W'.heap[k]?=some (Obj.cells cs T m)

theorem kpV_t {n₀:Nat} {A B C:World} (h:KpV n₀ A B) (k:KpV n₀ B C):KpV n₀ A C:=⟨h.1.trans k.1,fun i cs T m hi h1 h2 => k.2 i cs T m (h.2 i cs T m hi h1 h2) h1 h2⟩

theorem kpV_b {n₀:Nat} {w:World} (hn:n₀≤w.heap.size) (W:World) (l:Nat) (o o':Obj) (hl:w.heap.size≤l) (h:W.heap[l]?=some o) (hc:o.isCells=false) (hw:o.isWalk=false):KpV n₀ W (W.putObj l o') :=
 ⟨belowK_b hn W l o o' hl h hc hw,fun k cs T m hk _ _ => by
  have hne:k ≠ l:=by rintro rfl; rw [h] at hk; cases hk; cases hc
  exact (World.putObj_heap_other hne).trans hk⟩

theorem grown_of {w w':World} (h:Below w.heap.size w w'):w.grownBy w' none:=⟨h.os,h.tape,h.output,h.size,fun k hk _ => h.block k hk⟩
theorem abides_below {β:Type} {B:Nat} {J:β→World→Prop} (h:AbidesFrom B J) {s:β} {W W':World} (hs:J s W) (hb:Below W.heap.size W W'):J s W':=h s W W' none hs (grown_of hb) (fun r e => by cases e)

theorem ownT_kp {n₀:Nat} {w w':World} {base:Nat} {v:Value} {ls:List (List UInt8)} (h:OwnT w base 9 v ls) (hk:KpV n₀ w w'):OwnT w' base 9 v ls:=by
 obtain⟨h1,h2⟩:=h
 rcases h2 with h2 | ⟨g,cap,cur,e,hb,hgb,r⟩
 ·exact⟨h1,.inl h2⟩
 ·exact⟨h1,.inr ⟨g,cap,cur,e,hb,hk.2 _ _ _ _ hgb (by decide) (by decide),r⟩⟩

theorem ownT_up {w w':World} {base:Nat} {v:Value} {ls:List (List UInt8)} (h:OwnT w base 9 v ls) (hb:Below w.heap.size w w'):OwnT w' base 9 v ls:=by
 obtain⟨h1,h2⟩:=h
 rcases h2 with h2 | ⟨g,cap,cur,e,hb',hgb,r⟩
 ·exact⟨h1,.inl h2⟩
 ·exact⟨h1,.inr ⟨g,cap,cur,e,hb',upT hgb hb,r⟩⟩

theorem ownT_shape {w:World} {base:Nat} {v:Value} {ls:List (List UInt8)} (h:OwnT w base 9 v ls) {n:Nat} (hn:ls.length=n):∃ a c,v=.slice a n c:=by
 obtain⟨a',c',e,_⟩:=h.texts
 exact⟨a',c',by rw [← hn]; exact e⟩

def vwRows (t:Sta) (u:List UInt8):List Row:=(roOf t.e u).filterMap (vwRow t u)
def vwRowsAt (t:Sta) (u:List UInt8) (k:Nat):List Row:=((roOf t.e u).take k).filterMap (vwRow t u)
def encSeen (r:Row):Array Value:=#[.string ⟨r.c.toArray⟩,.agg #[.int .i64 r.v.sh,.int .i64 r.v.pr,.int .i64 r.v.si,.string ⟨r.v.st.toArray⟩]]

theorem vwRowsAt_next {t:Sta} {u:List UInt8} {k:Nat} (hk:k < (roOf t.e u).length):vwRowsAt t u (k+1)=vwRowsAt t u k ++ (vwRow t u ((roOf t.e u).getD k [])).toList:=by
 unfold vwRowsAt
 rw [List.take_add_one,List.getElem?_eq_getElem hk,List.filterMap_append,List.getD_eq_getElem?_getD,List.getElem?_eq_getElem hk]
 simp only [Option.toList_some,Option.getD_some]
 cases h:vwRow t u (roOf t.e u)[k] <;> simp [h]

theorem vwRowsAt_len (t:Sta) (u:List UInt8) (k:Nat):(vwRowsAt t u k).length≤k:=by
 unfold vwRowsAt
 refine Nat.le_trans (List.length_filterMap_le _ _) ?_
 rw [List.length_take]
 omega

theorem vwRowsAt_end (t:Sta) (u:List UInt8):vwRowsAt t u (roOf t.e u).length=vwRows t u:=by
 unfold vwRowsAt vwRows
 rw [List.take_length]

theorem vwRow_no {t:Sta} {u c:List UInt8} (h:(vwVal t u c).2=false):vwRow t u c=none:=by
 unfold vwRow
 rw [if_neg (by rw [h]; simp)]
theorem vwRow_yes {t:Sta} {u c:List UInt8} {v:Val} (h:vwVal t u c=(v,true)):vwRow t u c=some ⟨c,v⟩:=by
 unfold vwRow
 rw [if_pos (by rw [h]),h]

theorem box_kp {n₀:Nat} {W W':World} {B:Nat} {cs:Array Value} {T:TypeId} (h:W.heap[B]?=some (.cells cs T (0,0))) (hk:KpV n₀ W W') (h1:T ≠ 45) (h2:T ≠ 34):W'.heap[B]?=some (.cells cs T (0,0)):=hk.2 B cs T (0,0) h h1 h2

theorem seen1_in (n:Nat) (hn:1≤n) (l Bs Bu:Nat) {w0:World} {x y:Value} {t:Sta} (h:StAt w0 x y t) (hm:stMay t=true) (hl:t.e.length≤4294967) (u:List UInt8) (J Jx:List Row→World→Prop)
  {W0:World} (hJ:AbidesFrom W0.heap.size J)
  (hY:∀ pre r W,J pre W→pre.length < (roOf t.e u).length→YieldAt Fence.wide (n - 1) Tryz.prog l (encSeen r) W fun e W' =>
   (e=.returned (.bool true)∧J (pre ++ [r]) W'∧KpV w0.heap.size W W')∨(e=.returned (.bool false)∧Jx (pre ++ [r]) W'))
  (hb:Below w0.heap.size w0 W0) (hs:W0.heap[Bs]?=some (.cells #[x,y] 25 (0,0))) (hu:W0.heap[Bu]?=some (.cells #[.string ⟨u.toArray⟩] 9 (0,0))) (h0:J [] W0) :
  CallsIn Fence.wide n Tryz.prog 120 #[.func (.yield l) #[] #[],.pointer (some ⟨Bs,0,none⟩),.pointer (some ⟨Bu,0,none⟩)] W0 fun e W' => (∃ v,e=.returned v) ∧
   ((∃ ys,ys=vwRows t u∧J ys W')∨(∃ pre,pre <+: vwRows t u∧Jx pre W')):=by
 have H:=hD h
 have HM:=hD hm
 have HL:=hD hl
 have HB:=hD hb
 have HS:=hD hs
 have HU:=hD hu
 have HJ:=hD h0
 clear hb hs hu h0 hm hl h
 refine callsIn_of_wp Tryz.func120 rfl trivial ?_ rfl
 simp only [Tryz.ntmps120,List.size_toArray,List.length_cons,List.length_nil,Nat.reduceAdd,Nat.reduceSub,Array.replicate_succ,Array.replicate_zero,List.push_toArray,List.append_toArray,List.nil_append,List.cons_append]
 obtain⟨c0,c1,-,-⟩:=two_T HS.out
 have d0:W0.cell? ⟨Bu,0,none⟩=some (.string ⟨u.toArray⟩):=cell_of_row W0 Bu 0 _ _ (0,0) HU.out
 obtain⟨n1,hn1⟩ : ∃ m,(roOf t.e u).length=m:=⟨_,rfl⟩
 have hn1':n1≤4294967:=by rw [← hn1]; exact Nat.le_trans (roOf_le t.e u) HL.out
 have HN1:=hD hn1
 clear hn1
 gi_wp2_with (refine ⟨trivial,?_⟩; gi_at_call 121; refine (callsIn_wide.2 (of_any (H.out.later HB.out).1 HL.out u)).mono ?_; rintro e w1 ⟨v,rfl,ho,b1⟩; obtain⟨av,cv,rfl⟩:=ownT_shape ho HN1.out)
 have HO:=hD ho
 replace HJ:=hD (abides_below hJ HJ.out b1)
 replace HS:=hD (upT HS.out b1)
 replace HU:=hD (upT HU.out b1)
 have HB1:=hD (below2Z HB.out b1)
 have HJA:=hD hJ
 have HY:=hD hY
 have hW1:=b1.size
 clear b1 ho c0 c1 d0 hJ hY
 gi_loopw [13] (fun i wr => ∃ k:Nat,k≤n1∧i=.int .i64 k∧Hid (J (vwRowsAt t u k) wr)∧Hid (Below w0.heap.size w0 wr)∧Hid (OwnT wr W0.heap.size 9 (.slice av n1 cv) (roOf t.e u))∧Hid (wr.heap[Bs]?=some (.cells #[x,y] 25 (0,0)))∧Hid (wr.heap[Bu]?=some (.cells #[.string ⟨u.toArray⟩] 9 (0,0)))∧W0.heap.size≤wr.heap.size) (fun i _ => n1 - (intOf i).toNat)
 case atStart => exact⟨0,by omega,rfl,HJ,HB1,HO,HS,HU,hW1⟩
 case round =>
  clear HJ HB1 HO HS HU HB hW1
  obtain⟨k,hk,rfl,HJ,HB,HO,HS,HU,hW⟩:=hrel
  obtain⟨c0,c1,-,-⟩:=two_T HS.out
  have d0:wr.cell? ⟨Bu,0,none⟩=some (.string ⟨u.toArray⟩):=cell_of_row wr Bu 0 _ _ (0,0) HU.out
  by_cases hlt:k < n1
  ·obtain⟨b,off,rfl,hc⟩:=(HO.out.texts).cell (Below.refl _ _) k (by rw [HN1.out]; exact hlt)
   obtain⟨c,hcc⟩ : ∃ c,(roOf t.e u).getD k []=c:=⟨_,rfl⟩
   rw [hcc] at hc
   have HNX:Hid (vwRowsAt t u (k+1)=vwRowsAt t u k ++ (vwRow t u c).toList):=hD (by rw [vwRowsAt_next (by rw [HN1.out]; exact hlt),hcc])
   clear hcc
   have HT:=hD (H.out.later HB.out)
   cases hsee:roSees t.e u c with
   | false =>
    have hse:=sees8_any HT.out.1 u c
    rw [hsee] at hse
    have HSE:=hD hse
    have HNX2:Hid (vwRowsAt t u (k+1)=vwRowsAt t u k):=hD (by rw [HNX.out,vwRow_no (by rw [vwVal_no hsee]),Option.toList_none,List.append_nil])
    clear hse hsee HNX
    gi_wp2_with fail
    refine ⟨trivial,?_⟩
    refine (callsIn_wide.2 HSE.out).mono ?_
    rintro e w2 ⟨rfl,b2⟩
    have HJ2:Hid (J (vwRowsAt t u (k+1)) w2):=hD (by rw [HNX2.out]; exact abides_below HJA.out HJ.out b2)
    have HB2:=hD (below2Z HB.out b2)
    have HO2:=hD (ownT_up HO.out b2)
    have HS2:=hD (upT HS.out b2)
    have HU2:=hD (upT HU.out b2)
    have hW2:=Nat.le_trans hW b2.size
    clear b2 hc c0 c1 d0
    gi_wp2_with fail
    go_roundw
    case rel => exact⟨k+1,by omega,by go_num,HJ2,HB2,HO2,HS2,HU2,hW2⟩
    case measure => simp [intOf]; omega
   | true =>
    have hse:=sees8_any HT.out.1 u c
    rw [hsee] at hse
    have HSE:=hD hse
    have hvv:=vwVal_yes (t:=t) (u:=u) (c:=c) hsee
    obtain⟨⟨xa,xb,xd,xs⟩,hvb⟩ : ∃ v,valB (seOf t.s c)=v:=⟨_,rfl⟩
    rw [hvb] at hvv
    have HVB:=hD hvb
    clear hse hsee hvb
    cases hsb:someB (seOf t.s c) with
    | false =>
     rw [hsb] at hvv
     have HSB:=hD hsb
     have HNX2:Hid (vwRowsAt t u (k+1)=vwRowsAt t u k):=hD (by rw [HNX.out,vwRow_no (by rw [hvv]),Option.toList_none,List.append_nil])
     clear hvv hsb HNX
     gi_wp2_with fail
     refine ⟨trivial,?_⟩
     refine (callsIn_wide.2 HSE.out).mono ?_
     rintro e w2 ⟨rfl,b2⟩
     have HJ2:=hD (abides_below HJA.out HJ.out b2)
     have HB2:=hD (below2Z HB.out b2)
     have HO2:=hD (ownT_up HO.out b2)
     have HS2:=hD (upT HS.out b2)
     have HU2:=hD (upT HU.out b2)
     have hW2:=Nat.le_trans hW b2.size
     clear c0 c1 d0
     obtain⟨c0,c1,-,-⟩:=two_T HS2.out
     have d0:w2.cell? ⟨Bu,0,none⟩=some (.string ⟨u.toArray⟩):=cell_of_row w2 Bu 0 _ _ (0,0) HU2.out
     gi_wp2_with fail
     refine ⟨trivial,?_⟩
     refine (callsIn_wide.2 (shown_any (H.out.later HB2.out) (len_of_may HM.out) (fit_of_may HM.out) c HVB.out HSB.out)).mono ?_
     rintro e w3 ⟨rfl,b3⟩
     have b5:=below2Z b3 (bl_newZ w3 (.cells #[.int .i64 xa,.int .i64 xb,.int .i64 xd,.string ⟨xs.toArray⟩] 30))
     have HJ3:Hid (J (vwRowsAt t u (k+1)) _):=hD (by rw [HNX2.out]; exact abides_below HJA.out HJ2.out b5)
     have HB3:=hD (below2Z HB2.out b5)
     have HO3:=hD (ownT_up HO2.out b5)
     have HS3:=hD (upT HS2.out b5)
     have HU3:=hD (upT HU2.out b5)
     have hW3:=Nat.le_trans hW2 b5.size
     clear b3 b5 hc c0 c1 d0 b2
     gi_wp2_with fail
     refine ⟨fun _ h => (by cases h),?_⟩
     gi_wp2_with fail
     go_roundw
     case rel => exact⟨k+1,by omega,by go_num,HJ3,HB3,HO3,HS3,HU3,hW3⟩
     case measure => simp [intOf]; omega
    | true =>
     rw [hsb] at hvv
     have HSB:=hD hsb
     have HNX2:Hid (vwRowsAt t u (k+1)=vwRowsAt t u k ++ [⟨c,⟨xa,xb,xd,xs⟩⟩]):=hD (by rw [HNX.out,vwRow_yes hvv,Option.toList_some])
     clear hvv hsb HNX
     gi_wp2_with fail
     refine ⟨trivial,?_⟩
     refine (callsIn_wide.2 HSE.out).mono ?_
     rintro e w2 ⟨rfl,b2⟩
     have HJ2:=hD (abides_below HJA.out HJ.out b2)
     have HB2:=hD (below2Z HB.out b2)
     have HO2:=hD (ownT_up HO.out b2)
     have HS2:=hD (upT HS.out b2)
     have HU2:=hD (upT HU.out b2)
     have hW2:=Nat.le_trans hW b2.size
     clear c0 c1 d0
     obtain⟨c0,c1,-,-⟩:=two_T HS2.out
     have d0:w2.cell? ⟨Bu,0,none⟩=some (.string ⟨u.toArray⟩):=cell_of_row w2 Bu 0 _ _ (0,0) HU2.out
     gi_wp2_with fail
     refine ⟨trivial,?_⟩
     refine (callsIn_wide.2 (shown_any (H.out.later HB2.out) (len_of_may HM.out) (fit_of_may HM.out) c HVB.out HSB.out)).mono ?_
     rintro e w3 ⟨rfl,b3⟩
     have b5:=below2Z b3 (bl_newZ w3 (.cells #[.int .i64 xa,.int .i64 xb,.int .i64 xd,.string ⟨xs.toArray⟩] 30))
     have HJ3:=hD (abides_below HJA.out HJ2.out b5)
     have HB3:=hD (below2Z HB2.out b5)
     have HO3:=hD (ownT_up HO2.out b5)
     have HS3:=hD (upT HS2.out b5)
     have HU3:=hD (upT HU2.out b5)
     have hW3:=Nat.le_trans hW2 b5.size
     obtain⟨fn,tmps,assign,body,hy,hR⟩:=HY.out (vwRowsAt t u k) ⟨c,⟨xa,xb,xd,xs⟩⟩ _ HJ3.out (by rw [HN1.out]; exact Nat.lt_of_le_of_lt (vwRowsAt_len t u k) hlt)
     unfold encSeen at hy
     dsimp only at hy
     have HR:=hD hR
     clear b3 b5 hc c0 c1 d0 b2 hR
     gi_wp2_with fail
     refine HR.out.mono ?_
     rintro e W3 (⟨rfl,hJ3,hk3⟩ | ⟨rfl,hJx3⟩)
     ·have HJ4:Hid (J (vwRowsAt t u (k+1)) W3):=hD (by rw [HNX2.out]; exact hJ3)
      have HB4:=hD (HB3.out.trans hk3.1)
      have HO4:=hD (ownT_kp HO3.out hk3)
      have HS4:=hD (box_kp HS3.out hk3 (by decide) (by decide))
      have HU4:=hD (box_kp HU3.out hk3 (by decide) (by decide))
      have hW4:=Nat.le_trans hW3 hk3.1.size
      clear hJ3 hk3 hy
      gi_wp2_with fail
      go_roundw
      case rel => exact⟨k+1,by omega,by go_num,HJ4,HB4,HO4,HS4,HU4,hW4⟩
      case measure => simp [intOf]; omega
     ·have HJX:Hid (∃ pre,pre <+: vwRows t u∧Jx pre W3):=hD ⟨_,by rw [← HNX2.out]; exact (List.take_prefix _ _).filterMap _,hJx3⟩
      clear hJx3 hy
      gi_wp2_with fail
      refine bodyPost_ret (results_none rfl _ _ _) rfl ?_
      exact⟨⟨_,rfl⟩,.inr HJX.out⟩
  ·obtain rfl:k=n1:=by omega
   have HF:Hid (J (vwRows t u) wr):=hD (by have:=HJ.out; rw [← HN1.out,vwRowsAt_end] at this; exact this)
   gi_wp2
   go_end0
   exact⟨⟨_,rfl⟩,.inl ⟨_,rfl,HF.out⟩⟩

end Go.Proofs.YtphfinlfabklmaaGreat

end

section

namespace Go.Proofs.YtphfinlfabklmaaGreat
open Go.RowKit Go.Shelf

attribute [local go_sem] Oper.semAt_some

theorem seen_in (n:Nat) (x y:Value) (u:List UInt8) (w:World) :
  CallsIn Fence.wide n Tryz.prog 67 #[.agg #[x,y],.string ⟨u.toArray⟩] w fun e w' => e=.returned (.func (.func 120) #[] #[.pointer (some ⟨w.heap.size,0,none⟩),.pointer (some ⟨w.heap.size+1,0,none⟩)])∧w'=(w.alloc (.cells #[x,y] 25)).alloc (.cells #[.string ⟨u.toArray⟩] 9):=by
 refine callsIn_of_wp Tryz.func67 rfl trivial ?_ rfl
 simp only [Tryz.ntmps67,List.size_toArray,List.length_cons,List.length_nil,Nat.reduceAdd,Nat.reduceSub,Array.replicate_succ,Array.replicate_zero,List.push_toArray,List.append_toArray,List.nil_append,List.cons_append]
 gi_wp2_with fail
 go_ret
 exact⟨rfl,rfl⟩

theorem seen_stops (n:Nat) (hn:1≤n) {w0:World} {x y:Value} {t:Sta} (h:StAt w0 x y t) (hm:stMay t=true) (hl:t.e.length≤4294967) (u:List UInt8) {W0:World} {Bs Bu:Nat}
  (hb:Below w0.heap.size w0 W0) (hs:W0.heap[Bs]?=some (.cells #[x,y] 25 (0,0))) (hu:W0.heap[Bu]?=some (.cells #[.string ⟨u.toArray⟩] 9 (0,0))) :
  SeqStopsK Fence.wide n Tryz.prog 120 #[.pointer (some ⟨Bs,0,none⟩),.pointer (some ⟨Bu,0,none⟩)] encSeen (KpV w0.heap.size) (fun ys => ys=vwRows t u) (fun pre => pre <+: vwRows t u) (roOf t.e u).length W0:=fun l J Jx _ hW hJ _ hY h0 =>
 seen1_in n hn l Bs Bu h hm hl u J Jx hJ hY (below2Z hb hW) (upT hs hW) (upT hu hW) h0

theorem box4_own {β:Type} (B:Nat) (t:TypeId) (f:β→Array Value):Own (fun s W => W.heap[B]?=some (Obj.cells (f s) t (0,0))):=fun s X Y row hs hg hrow =>
 (hg.block B (Array.getElem?_eq_some_iff.1 hs).1 (fun e' => by obtain⟨o,ho,hc⟩:=hrow B e'.symm; rw [hs] at ho; cases ho; cases hc)).trans hs

theorem Tryz.infoSeenV:(Tryz.prog.info? 45).map (fun i => (i.zero,i.size,i.bytes))=some (some (.agg #[.string ⟨#[]⟩,.int .i64 0,.int .i64 0,.int .i64 0,.string ⟨#[]⟩]),5,56):=by kernel_rfl

theorem kp_append {W w2:World} {n₀ B n:Nat} {v v':Value} {xs:List Value} {o:Obj} (hv:Boxed W B 34 v) (hrow:W.ownsRow n₀ 45 5 v n xs) (hg:(W.alloc o).grownBy w2 v.ownBlock) (hb:Below n₀ W (w2.setCell ⟨B,0,none⟩ v')) :
  KpV n₀ W (w2.setCell ⟨B,0,none⟩ v') :=
 ⟨hb,fun k cs T m hk h1 h2 => by
  have hkW:k < W.heap.size:=(Array.getElem?_eq_some_iff.1 hk).1
  have hne:some k ≠ v.ownBlock:=by
   rcases hrow.2 with ⟨rfl,_⟩ | ⟨g,cap,cur,rfl,_,hgb,_⟩
   ·simp [Value.ownBlock]
   ·intro e
    obtain rfl:k=g:=by simpa [Value.ownBlock] using e
    rw [hgb] at hk
    simp only [Option.some.injEq,Obj.cells.injEq] at hk
    exact h1 hk.2.1.symm
  have hB:¬ k=B:=by
   rintro rfl
   rw [show W.heap[k]?=_ from hv] at hk
   simp only [Option.some.injEq,Obj.cells.injEq] at hk
   exact h2 hk.2.1.symm
  rw [Below.heap_setCell _ _ _ k hB,hg.block k (by simp; omega) hne]
  exact (bl_newZ W o).block k hkW |>.trans hk⟩

theorem vwof_yes {w:World} {x y:Value} {t:Sta} (h:StAt w x y t) (hok:ShortE t.e∧ShortS t.s) (hl:t.e.length≤4294967) (u:List UInt8) (hm:stMay t=true) :
  Calls Tryz.prog 18 #[.agg #[x,y],.string ⟨u.toArray⟩] w fun e w' => ∃ v,e=.returned v∧OwnR w' w.heap.size v (vwRows t u)∧Below w.heap.size w w':=by
 have b0:=bl_newZ w (.cells #[x,y] 25)
 have HB:=hD b0
 have H:=hD (h.later b0)
 have F:=hD (heap_newT w (.cells #[x,y] 25))
 have HOK:=hD hok
 have HM:=hD hm
 have HL:=hD hl
 have HW:=hD h
 clear b0 h hok hm hl
 obtain⟨c0,c1,-,-⟩:=two_T F.out
 refine (callsIn_wide (n:=6)).1 ?_
 refine callsIn_of_wp_marks Tryz.func18 rfl trivial ?_ rfl
 simp only [Tryz.ntmps18,List.size_toArray,List.length_cons,List.length_nil,Nat.reduceAdd,Nat.reduceSub,Array.replicate_succ,Array.replicate_zero,List.push_toArray,List.append_toArray,List.nil_append,List.cons_append]
 gi_wp2_with fail
 refine ⟨trivial,?_⟩
 refine (callsIn_wide.2 (stmay_any H.out HOK.out.1 HOK.out.2 HM)).mono ?_
 rintro e w1 ⟨rfl,b1⟩
 replace HB:=hD (below2Z HB.out b1)
 replace F:=hD (upT F.out b1)
 clear b1 c0 c1
 have b2:=bl_newZ w1 (.cells #[.slice none 0 0] 34)
 have F2:=hD (upT F.out b2)
 have HB2:=hD (below2Z HB.out b2)
 have bV:=hD (Boxed.new w1 34 (.slice none 0 0))
 obtain⟨c0,c1,-,-⟩:=two_T F2.out
 clear b2
 gi_wp2_with fail
 refine ⟨trivial,?_⟩
 refine (seen_in _ x y u _).mono ?_
 rintro e w2 ⟨rfl,rfl⟩
 have b3:=bl_newZ (w1.alloc (.cells #[.slice none 0 0] 34)) (.cells #[x,y] 25)
 have b4:=bl_newZ ((w1.alloc (.cells #[.slice none 0 0] 34)).alloc (.cells #[x,y] 25)) (.cells #[.string ⟨u.toArray⟩] 9)
 have HB4:=hD (below2Z (below2Z HB2.out b3) b4)
 have HS4:=upT (heap_newT (w1.alloc (.cells #[.slice none 0 0] 34)) (.cells #[x,y] 25)) b4
 have HU4:=heap_newT ((w1.alloc (.cells #[.slice none 0 0] 34)).alloc (.cells #[x,y] 25)) (.cells #[.string ⟨u.toArray⟩] 9)
 have HV4:=upT (upT (show (w1.alloc (.cells #[.slice none 0 0] 34)).heap[w1.heap.size]?=_ from bV.out) b3) b4
 rw [World.size_alloc] at HS4
 rw [World.size_alloc,World.size_alloc] at HU4
 have hw1:=HB.out.size
 clear b3 b4 bV HB2 F2 c0 c1
 gi_wp2_with fail
 obtain⟨W0,hW0⟩ : ∃ W0,((w1.alloc (.cells #[.slice none 0 0] 34)).alloc (.cells #[x,y] 25)).alloc (.cells #[.string ⟨u.toArray⟩] 9)=W0:=⟨_,rfl⟩
 have hsz:W0.heap.size=w1.heap.size+3:=by rw [← hW0]; simp
 rw [hW0] at HB4 HS4 HU4 HV4 ⊢
 clear hW0
 obtain⟨i0,hi,hz0,hz1,hz2⟩:=info_parts Tryz.infoSeenV
 refine wpIn_rangeFunc_ownH rfl (by omega) (gf:=120) (lb:=#[.pointer (some ⟨w1.heap.size+1,0,none⟩),.pointer (some ⟨w1.heap.size+1+1,0,none⟩)]) rfl trivial (enters_of Tryz.func120 (by kernel_rfl) rfl)
  (seen_stops 5 (by omega) HW.out HM.out HL.out u HB4.out HS4 HU4) kpV_t (kpV_b (by omega)) (Below.refl _ _) (fun _ => rfl)
  (fun pre W => (∃ v,Boxed W w1.heap.size 34 v∧W.ownsRow w.heap.size 45 5 v pre.length (cellsOf pre)∧True)∧Below w.heap.size w W)
  (fun _ _ _ => False)
  (OwnFrom.and (Own.from (holdsRow_own w.heap.size w1.heap.size 34 45 5 (fun pre => pre.length) (fun pre => cellsOf pre) (fun _ _ => True)) _) (ownFrom_below (Nat.le_refl _) (by omega)))
  (fun _ _ _ _ _ hs _ _ => hs)
  ⟨⟨_,HV4,World.ownsRow_nil _ _ _ _,trivial⟩,HB4.out⟩
  (fun r a' W => ∃ Bx,w1.heap.size < Bx∧W.heap[Bx]?=some (Obj.cells #[.int .i64 r.v.sh,.int .i64 r.v.pr,.int .i64 r.v.si,.string ⟨r.v.st.toArray⟩] 30 (0,0))∧a'={ tmps:=#[.agg #[x,y],.string ⟨u.toArray⟩,.pointer (some ⟨w.heap.size,0,none⟩),undef,.slice none 0 0,.pointer (some ⟨w1.heap.size,0,none⟩),.string ⟨r.c.toArray⟩,.pointer (some ⟨Bx,0,none⟩),.agg #[x,y],.bool true,.bool false,.agg #[x,y],.string ⟨u.toArray⟩,.func (.func 120) #[] #[.pointer (some ⟨w1.heap.size+1,0,none⟩),.pointer (some ⟨w1.heap.size+1+1,0,none⟩)],.string ⟨r.c.toArray⟩,.agg #[.int .i64 r.v.sh,.int .i64 r.v.pr,.int .i64 r.v.si,.string ⟨r.v.st.toArray⟩],undef,undef,undef,undef,undef,undef,undef],defers:=[] })
  (fun r a' _ X Y row hs hg hr => by obtain⟨Bx,h1,h2,h3⟩:=hs; exact⟨Bx,h1,box4_own Bx 30 (fun (_:Unit) => #[.int .i64 r.v.sh,.int .i64 r.v.pr,.int .i64 r.v.si,.string ⟨r.v.st.toArray⟩]) () X Y row h2 hg (fun r e => (hr r e).2),h3⟩)
  ?assign ?body ?done ?stop
 case assign =>
  rintro l pre r W K ⟨⟨v,hv,hrow,_⟩,hB⟩ hK
  have hn:=heap_newT W (.cells #[.int .i64 r.v.sh,.int .i64 r.v.pr,.int .i64 r.v.si,.string ⟨r.v.st.toArray⟩] 30)
  unfold encSeen
  gi_wp2_with fail
  exact hK _ _ ((KeepsOthers.alloc _ _).from _) ⟨(Below.refl _ W).alloc hB.size _,fun k cs T m hk _ _ => upT hk (bl_newZ W _)⟩ ⟨⟨v,hv.alloc _,hrow.alloc _,trivial⟩,hB.alloc hB.size _⟩ ⟨W.heap.size,hv.lt,hn,rfl⟩
 case body =>
  rintro l pre r a' W hl ⟨rec,hr⟩ ⟨⟨v,hv,hrow,_⟩,hB⟩ ⟨Bx,hBx,bX,rfl⟩ hlt
  have hc:=hv.cell
  have x0:W.cell? ⟨Bx,0,none⟩=some (.int .i64 r.v.sh):=cell_of_row W Bx 0 _ _ (0,0) bX
  have x1:W.cell? ⟨Bx,1,none⟩=some (.int .i64 r.v.pr):=cell_of_row W Bx 1 _ _ (0,0) bX
  have x2:W.cell? ⟨Bx,2,none⟩=some (.int .i64 r.v.si):=cell_of_row W Bx 2 _ _ (0,0) bX
  have x3:W.cell? ⟨Bx,3,none⟩=some (.string ⟨r.v.st.toArray⟩):=cell_of_row W Bx 3 _ _ (0,0) bX
  have hpl:pre.length < 4294967:=Nat.lt_of_lt_of_le hlt (Nat.le_trans (roOf_le t.e u) HL.out)
  have hsrc:=srcS_new (vals:=rowVals) (w:=W) (r:=r) (cs:=#[.string ⟨r.c.toArray⟩,.int .i64 r.v.sh,.int .i64 r.v.pr,.int .i64 r.v.si,.string ⟨r.v.st.toArray⟩]) (e:=45) rfl (B:=W.heap.size) rfl _ rfl
  have HWS:=hB.size
  gi_wp2_with (gi_at_builtin; refine wpListIn_append_own _ rfl _ _ 34 rfl w.heap.size 45 i0 _ 5 56 Tryz.underlying34 hi hz0 hz1 hz2 rfl (by decide) _ _ _ rfl (hrow.alloc _) ⟨W.heap.size,0,none⟩ 1 1 (cellsOf [r]) rfl rfl hsrc (cellsOf_single [r]) (by unfold maxLen; omega) (by omega) (by simp; omega) ?_; intro v' w2 hown' hgrow _; obtain⟨g',cap',rfl⟩:=ownsRow_succ hown'; obtain⟨hv1,hv2,hr2,hk2,hb2⟩:=hv.appended (by decide) hrow HWS (by omega) hown' hgrow; have hc1:=hv1.cell; have hf1:=hv1.frozen)
  exact⟨hk2.from _,kp_append hv hrow hgrow hb2,⟨_,hv2,by rw [cellsOf_append,List.length_append]; exact hr2,trivial⟩,hB.trans hb2⟩
 case done =>
  rintro D ys W hDl rfl ⟨⟨v,hv,hrow,_⟩,hB⟩ hK
  have hc:=hv.cell
  gi_wp2_with fail
  refine ⟨by simp,.inl ⟨_,_,rfl,run_takeDeferred hK,?_⟩⟩
  exact⟨_,results_tmp rfl _ _ _,v,rfl,ownsRow_putObj hrow _ hK rfl,hB.trans (belowK_b (w:=w) (Nat.le_refl _) W D _ _ (by omega) hK rfl rfl)⟩
 case stop =>
  rintro D c pre W _ _ h _
  exact h.elim

theorem vwof_no {w:World} {x y:Value} {t:Sta} (h:StAt w x y t) (hok:ShortE t.e∧ShortS t.s) (u:List UInt8) (hm:stMay t=false) :
  Calls Tryz.prog 18 #[.agg #[x,y],.string ⟨u.toArray⟩] w fun e w' => ∃ v,e=.returned v∧OwnR w' w.heap.size v []∧Below w.heap.size w w':=by
 have b0:=bl_newZ w (.cells #[x,y] 25)
 have HB:=hD b0
 have H:=hD (h.later b0)
 have F:=hD (heap_newT w (.cells #[x,y] 25))
 have HOK:=hD hok
 have HM:=hD hm
 clear b0 h hok hm
 obtain⟨c0,c1,-,-⟩:=two_T F.out
 go_enter Tryz.func18,Tryz.ntmps18
 go_wp2_with fail
 refine (stmay_any H.out HOK.out.1 HOK.out.2 HM).mono ?_
 rintro e w1 ⟨rfl,b1⟩
 replace HB:=hD (below2Z HB.out b1)
 clear b1 c0 c1
 go_wp2_with fail
 go_ret
 exact⟨_,rfl,World.ownsRow_nil _ _ _ _,HB.out⟩

theorem vwof_any {w:World} {x y:Value} {t:Sta} (h:StAt w x y t) (hok:ShortE t.e∧ShortS t.s) (hl:t.e.length≤4294967) (u:List UInt8) :
  Calls Tryz.prog 18 #[.agg #[x,y],.string ⟨u.toArray⟩] w fun e w' => ∃ v,e=.returned v∧OwnR w' w.heap.size v (vwOf t u)∧Below w.heap.size w w':=by
 cases hm:stMay t with
 | false =>
  have e:vwOf t u=[]:=by unfold vwOf; rw [if_neg (by rw [hm]; simp)]
  rw [e]
  exact vwof_no h hok u hm
 | true =>
  have e:vwOf t u=vwRows t u:=by unfold vwOf vwRows; rw [if_pos hm]
  rw [e]
  exact vwof_yes h hok hl u hm

end Go.Proofs.YtphfinlfabklmaaGreat

end
