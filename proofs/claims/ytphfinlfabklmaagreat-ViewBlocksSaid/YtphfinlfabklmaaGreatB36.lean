/-
 TEXTS OF THE PROOF, one behind the other: StaRdo, AppQ, StaRall, QuePure, DigLay, DigDel.
-/
import Derived.Test.YtphfinlfabklmaaGreatB23
import Derived.Test.YtphfinlfabklmaaGreatB34
import Derived.Test.YtphfinlfabklmaaGreatB35
import Derived.Deep.DeepCutAuto
import Derived.Deep.CutBlock
import Derived.Laws.AppendOwn
import Derived.Test.YtphfinlfabklmaaGreatB32
import Derived.Test.YtphfinlfabklmaaGreatB21
import Derived.Test.YtphfinlfabklmaaGreatB12
import Derived.BigRegion
import Derived.Deep.RegionHeld
import Derived.Test.YtphfinlfabklmaaGreatB24
import Derived.Test.YtphfinlfabklmaaGreatB27
import Derived.Laws.IdiomCopy
import Derived.Lib.AppendZerosOnto
import Derived.Lib.Overlaps
import Derived.Deep.RegionLaw
import Derived.WalkSpells

set_option maxHeartbeats 12800000
set_option maxRecDepth 100000

set_option linter.unusedVariables false

section

namespace Go.Proofs.YtphfinlfabklmaaGreat
open Go.RowKit

theorem rstdo_a {w:World} {ax ay:Option Addr} {nx cx ny cy:Nat} {t:Sta} (h:StAt w (.slice ax nx cx) (.slice ay ny cy) t) (he:ShortE t.e) (hl:t.e.length≤900) (hs:ShortS t.s) (u o st:List UInt8) (id a b c:Int) (hu:u.length≤4294967296) (ho:o.length≤4294967296) (hst:st.length≤4294967296) (k:Int) (hm:stMay t=false) :
  Calls Tryz.prog 63 #[.agg #[.slice ax nx cx,.slice ay ny cy],.agg #[.int .i64 k,.string ⟨u.toArray⟩,.string ⟨o.toArray⟩,.int .i64 id,.int .i64 a,.int .i64 b,.int .i64 c,.string ⟨st.toArray⟩]] w fun e w' => ∃ x' y',e=.returned (.tuple #[.agg #[x',y'],.int .i64 1])∧StAt w' x' y' ⟨t.e,t.s⟩∧Below w.heap.size w w':=by
 have HM:=hD hm
 have b1:=bl_newZ w (.cells #[.slice ax nx cx,.slice ay ny cy] 25)
 have b2:=bl_newZ (w.alloc (.cells #[.slice ax nx cx,.slice ay ny cy] 25)) (.cells #[.int .i64 k,.string ⟨u.toArray⟩,.string ⟨o.toArray⟩,.int .i64 id,.int .i64 a,.int .i64 b,.int .i64 c,.string ⟨st.toArray⟩] 50)
 have b3:=bl_newZ ((w.alloc (.cells #[.slice ax nx cx,.slice ay ny cy] 25)).alloc (.cells #[.int .i64 k,.string ⟨u.toArray⟩,.string ⟨o.toArray⟩,.int .i64 id,.int .i64 a,.int .i64 b,.int .i64 c,.string ⟨st.toArray⟩] 50)) (.cells #[.slice none 0 0,.slice none 0 0] 25)
 have b123:=below2Z b1 (below2Z b2 b3)
 have HB:=hD b123
 have H:=hD (h.later b123)
 have FS:=hD (upT (heap_newT w (.cells #[.slice ax nx cx,.slice ay ny cy] 25)) (below2Z b2 b3))
 have FE:=hD ((cellsAt_made (w:=w.alloc (.cells #[.slice ax nx cx,.slice ay ny cy] 25)) (cs:=#[.int .i64 k,.string ⟨u.toArray⟩,.string ⟨o.toArray⟩,.int .i64 id,.int .i64 a,.int .i64 b,.int .i64 c,.string ⟨st.toArray⟩]) (vs:=evVals ⟨k,u,o,id,⟨a,b,c,st⟩⟩) rfl 50 (B:=w.heap.size+1) (by simp)).later b3)
 have FR:Hid ((((w.alloc (.cells #[.slice ax nx cx,.slice ay ny cy] 25)).alloc (.cells #[.int .i64 k,.string ⟨u.toArray⟩,.string ⟨o.toArray⟩,.int .i64 id,.int .i64 a,.int .i64 b,.int .i64 c,.string ⟨st.toArray⟩] 50)).alloc (.cells #[.slice none 0 0,.slice none 0 0] 25)).heap[w.heap.size+1+1]?=some (.cells #[.slice none 0 0,.slice none 0 0] 25 (0,0))):=by
  have hz:=heap_newT ((w.alloc (.cells #[.slice ax nx cx,.slice ay ny cy] 25)).alloc (.cells #[.int .i64 k,.string ⟨u.toArray⟩,.string ⟨o.toArray⟩,.int .i64 id,.int .i64 a,.int .i64 b,.int .i64 c,.string ⟨st.toArray⟩] 50)) (.cells #[.slice none 0 0,.slice none 0 0] 25)
  simp only [World.size_alloc] at hz
  exact hz
 have HE:=hD he
 have HS:=hD hs
 obtain⟨s0,s1,f0,f1⟩:=two_T FS.out
 obtain⟨e0,e1,e2,e3,e4,e5,e6,e7⟩:=eightT FE.out
 clear b1 b2 b3 b123 h he hs
 clear hm
 go_enter Tryz.func63,Tryz.ntmps63
 go_wp2_with fail
 refine (rstmay_any H.out HE.out (by omega) HS.out HM).mono ?_
 rintro e w1 ⟨rfl,c1⟩
 replace HB:=hD (below2Z HB.out c1)
 replace H:=hD (H.out.later c1)
 replace FS:=hD (upT FS.out c1)
 replace FE:=hD (FE.out.later c1)
 replace FR:=hD (upT FR.out c1)
 clear s0 s1 f0 f1 e0 e1 e2 e3 e4 e5 e6 e7 c1
 obtain⟨s0,s1,f0,f1⟩:=two_T FS.out
 obtain⟨e0,e1,e2,e3,e4,e5,e6,e7⟩:=eightT FE.out
 obtain⟨r0,r1,g0,g1⟩:=two_T FR.out
 go_wp2_with fail
 obtain⟨z1,z2,o0,o1⟩:=st_fin H.out HB.out (show w.heap.size≤w.heap.size+1+1 by omega) FR.out allSl_nil
 refine bodyPost_ret (v:=.tuple #[.agg #[.slice ax nx cx,.slice ay ny cy],.int .i64 1]) (by simp [results,Tryz.results63,go_sem,o0,o1]) rfl ⟨_,_,rfl,z1,z2⟩

theorem rstdo_b1 {w:World} {ax ay:Option Addr} {nx cx ny cy:Nat} {t:Sta} (h:StAt w (.slice ax nx cx) (.slice ay ny cy) t) (he:ShortE t.e) (hl:t.e.length≤900) (hs:ShortS t.s) (u o st:List UInt8) (id a b c:Int) (hu:u.length≤4294967296) (ho:o.length≤4294967296) (hst:st.length≤4294967296) (k:Int) (hm:stMay t=true) (hb:k < 1) :
  Calls Tryz.prog 63 #[.agg #[.slice ax nx cx,.slice ay ny cy],.agg #[.int .i64 k,.string ⟨u.toArray⟩,.string ⟨o.toArray⟩,.int .i64 id,.int .i64 a,.int .i64 b,.int .i64 c,.string ⟨st.toArray⟩]] w fun e w' => ∃ x' y',e=.returned (.tuple #[.agg #[x',y'],.int .i64 1])∧StAt w' x' y' ⟨t.e,t.s⟩∧Below w.heap.size w w':=by
 have HM:=hD hm
 have t1:decide (k < 1)=true:=by rw [decide_eq_true_eq]; exact hb
 have b1:=bl_newZ w (.cells #[.slice ax nx cx,.slice ay ny cy] 25)
 have b2:=bl_newZ (w.alloc (.cells #[.slice ax nx cx,.slice ay ny cy] 25)) (.cells #[.int .i64 k,.string ⟨u.toArray⟩,.string ⟨o.toArray⟩,.int .i64 id,.int .i64 a,.int .i64 b,.int .i64 c,.string ⟨st.toArray⟩] 50)
 have b3:=bl_newZ ((w.alloc (.cells #[.slice ax nx cx,.slice ay ny cy] 25)).alloc (.cells #[.int .i64 k,.string ⟨u.toArray⟩,.string ⟨o.toArray⟩,.int .i64 id,.int .i64 a,.int .i64 b,.int .i64 c,.string ⟨st.toArray⟩] 50)) (.cells #[.slice none 0 0,.slice none 0 0] 25)
 have b123:=below2Z b1 (below2Z b2 b3)
 have HB:=hD b123
 have H:=hD (h.later b123)
 have FS:=hD (upT (heap_newT w (.cells #[.slice ax nx cx,.slice ay ny cy] 25)) (below2Z b2 b3))
 have FE:=hD ((cellsAt_made (w:=w.alloc (.cells #[.slice ax nx cx,.slice ay ny cy] 25)) (cs:=#[.int .i64 k,.string ⟨u.toArray⟩,.string ⟨o.toArray⟩,.int .i64 id,.int .i64 a,.int .i64 b,.int .i64 c,.string ⟨st.toArray⟩]) (vs:=evVals ⟨k,u,o,id,⟨a,b,c,st⟩⟩) rfl 50 (B:=w.heap.size+1) (by simp)).later b3)
 have FR:Hid ((((w.alloc (.cells #[.slice ax nx cx,.slice ay ny cy] 25)).alloc (.cells #[.int .i64 k,.string ⟨u.toArray⟩,.string ⟨o.toArray⟩,.int .i64 id,.int .i64 a,.int .i64 b,.int .i64 c,.string ⟨st.toArray⟩] 50)).alloc (.cells #[.slice none 0 0,.slice none 0 0] 25)).heap[w.heap.size+1+1]?=some (.cells #[.slice none 0 0,.slice none 0 0] 25 (0,0))):=by
  have hz:=heap_newT ((w.alloc (.cells #[.slice ax nx cx,.slice ay ny cy] 25)).alloc (.cells #[.int .i64 k,.string ⟨u.toArray⟩,.string ⟨o.toArray⟩,.int .i64 id,.int .i64 a,.int .i64 b,.int .i64 c,.string ⟨st.toArray⟩] 50)) (.cells #[.slice none 0 0,.slice none 0 0] 25)
  simp only [World.size_alloc] at hz
  exact hz
 have HE:=hD he
 have HS:=hD hs
 obtain⟨s0,s1,f0,f1⟩:=two_T FS.out
 obtain⟨e0,e1,e2,e3,e4,e5,e6,e7⟩:=eightT FE.out
 clear b1 b2 b3 b123 h he hs
 clear hm hb
 go_enter Tryz.func63,Tryz.ntmps63
 go_wp2_with fail
 refine (rstmay_any H.out HE.out (by omega) HS.out HM).mono ?_
 rintro e w1 ⟨rfl,c1⟩
 replace HB:=hD (below2Z HB.out c1)
 replace H:=hD (H.out.later c1)
 replace FS:=hD (upT FS.out c1)
 replace FE:=hD (FE.out.later c1)
 replace FR:=hD (upT FR.out c1)
 clear s0 s1 f0 f1 e0 e1 e2 e3 e4 e5 e6 e7 c1
 obtain⟨s0,s1,f0,f1⟩:=two_T FS.out
 obtain⟨e0,e1,e2,e3,e4,e5,e6,e7⟩:=eightT FE.out
 obtain⟨r0,r1,g0,g1⟩:=two_T FR.out
 go_wp2_with fail
 obtain⟨z1,z2,o0,o1⟩:=st_fin H.out HB.out (show w.heap.size≤w.heap.size+1+1 by omega) FR.out allSl_nil
 refine bodyPost_ret (v:=.tuple #[.agg #[.slice ax nx cx,.slice ay ny cy],.int .i64 1]) (by simp [results,Tryz.results63,go_sem,o0,o1]) rfl ⟨_,_,rfl,z1,z2⟩

theorem rstdo_b2 {w:World} {ax ay:Option Addr} {nx cx ny cy:Nat} {t:Sta} (h:StAt w (.slice ax nx cx) (.slice ay ny cy) t) (he:ShortE t.e) (hl:t.e.length≤900) (hs:ShortS t.s) (u o st:List UInt8) (id a b c:Int) (hu:u.length≤4294967296) (ho:o.length≤4294967296) (hst:st.length≤4294967296) (k:Int) (hm:stMay t=true) (hb:8 < k) :
  Calls Tryz.prog 63 #[.agg #[.slice ax nx cx,.slice ay ny cy],.agg #[.int .i64 k,.string ⟨u.toArray⟩,.string ⟨o.toArray⟩,.int .i64 id,.int .i64 a,.int .i64 b,.int .i64 c,.string ⟨st.toArray⟩]] w fun e w' => ∃ x' y',e=.returned (.tuple #[.agg #[x',y'],.int .i64 1])∧StAt w' x' y' ⟨t.e,t.s⟩∧Below w.heap.size w w':=by
 have HM:=hD hm
 have t1:decide (k < 1)=false:=by rw [decide_eq_false_iff_not]; omega
 have t2:decide (8 < k)=true:=by rw [decide_eq_true_eq]; exact hb
 have b1:=bl_newZ w (.cells #[.slice ax nx cx,.slice ay ny cy] 25)
 have b2:=bl_newZ (w.alloc (.cells #[.slice ax nx cx,.slice ay ny cy] 25)) (.cells #[.int .i64 k,.string ⟨u.toArray⟩,.string ⟨o.toArray⟩,.int .i64 id,.int .i64 a,.int .i64 b,.int .i64 c,.string ⟨st.toArray⟩] 50)
 have b3:=bl_newZ ((w.alloc (.cells #[.slice ax nx cx,.slice ay ny cy] 25)).alloc (.cells #[.int .i64 k,.string ⟨u.toArray⟩,.string ⟨o.toArray⟩,.int .i64 id,.int .i64 a,.int .i64 b,.int .i64 c,.string ⟨st.toArray⟩] 50)) (.cells #[.slice none 0 0,.slice none 0 0] 25)
 have b123:=below2Z b1 (below2Z b2 b3)
 have HB:=hD b123
 have H:=hD (h.later b123)
 have FS:=hD (upT (heap_newT w (.cells #[.slice ax nx cx,.slice ay ny cy] 25)) (below2Z b2 b3))
 have FE:=hD ((cellsAt_made (w:=w.alloc (.cells #[.slice ax nx cx,.slice ay ny cy] 25)) (cs:=#[.int .i64 k,.string ⟨u.toArray⟩,.string ⟨o.toArray⟩,.int .i64 id,.int .i64 a,.int .i64 b,.int .i64 c,.string ⟨st.toArray⟩]) (vs:=evVals ⟨k,u,o,id,⟨a,b,c,st⟩⟩) rfl 50 (B:=w.heap.size+1) (by simp)).later b3)
 have FR:Hid ((((w.alloc (.cells #[.slice ax nx cx,.slice ay ny cy] 25)).alloc (.cells #[.int .i64 k,.string ⟨u.toArray⟩,.string ⟨o.toArray⟩,.int .i64 id,.int .i64 a,.int .i64 b,.int .i64 c,.string ⟨st.toArray⟩] 50)).alloc (.cells #[.slice none 0 0,.slice none 0 0] 25)).heap[w.heap.size+1+1]?=some (.cells #[.slice none 0 0,.slice none 0 0] 25 (0,0))):=by
  have hz:=heap_newT ((w.alloc (.cells #[.slice ax nx cx,.slice ay ny cy] 25)).alloc (.cells #[.int .i64 k,.string ⟨u.toArray⟩,.string ⟨o.toArray⟩,.int .i64 id,.int .i64 a,.int .i64 b,.int .i64 c,.string ⟨st.toArray⟩] 50)) (.cells #[.slice none 0 0,.slice none 0 0] 25)
  simp only [World.size_alloc] at hz
  exact hz
 have HE:=hD he
 have HS:=hD hs
 obtain⟨s0,s1,f0,f1⟩:=two_T FS.out
 obtain⟨e0,e1,e2,e3,e4,e5,e6,e7⟩:=eightT FE.out
 clear b1 b2 b3 b123 h he hs
 clear hm hb
 go_enter Tryz.func63,Tryz.ntmps63
 go_wp2_with fail
 refine (rstmay_any H.out HE.out (by omega) HS.out HM).mono ?_
 rintro e w1 ⟨rfl,c1⟩
 replace HB:=hD (below2Z HB.out c1)
 replace H:=hD (H.out.later c1)
 replace FS:=hD (upT FS.out c1)
 replace FE:=hD (FE.out.later c1)
 replace FR:=hD (upT FR.out c1)
 clear s0 s1 f0 f1 e0 e1 e2 e3 e4 e5 e6 e7 c1
 obtain⟨s0,s1,f0,f1⟩:=two_T FS.out
 obtain⟨e0,e1,e2,e3,e4,e5,e6,e7⟩:=eightT FE.out
 obtain⟨r0,r1,g0,g1⟩:=two_T FR.out
 go_wp2_with fail
 obtain⟨z1,z2,o0,o1⟩:=st_fin H.out HB.out (show w.heap.size≤w.heap.size+1+1 by omega) FR.out allSl_nil
 refine bodyPost_ret (v:=.tuple #[.agg #[.slice ax nx cx,.slice ay ny cy],.int .i64 1]) (by simp [results,Tryz.results63,go_sem,o0,o1]) rfl ⟨_,_,rfl,z1,z2⟩

theorem rstdo_c0 {w:World} {ax ay:Option Addr} {nx cx ny cy:Nat} {t:Sta} (h:StAt w (.slice ax nx cx) (.slice ay ny cy) t) (he:ShortE t.e) (hl:t.e.length≤900) (hs:ShortS t.s) (u o st:List UInt8) (id a b c:Int) (hu:u.length≤4294967296) (ho:o.length≤4294967296) (hst:st.length≤4294967296) (k:Int) (hm:stMay t=true) (k1:1≤k) (k6:k≤6) {m:List Ent} (hd:roDo t.e k u o=(m,0)) :
  Calls Tryz.prog 63 #[.agg #[.slice ax nx cx,.slice ay ny cy],.agg #[.int .i64 k,.string ⟨u.toArray⟩,.string ⟨o.toArray⟩,.int .i64 id,.int .i64 a,.int .i64 b,.int .i64 c,.string ⟨st.toArray⟩]] w fun e w' => ∃ x' y',e=.returned (.tuple #[.agg #[x',y'],.int .i64 0])∧StAt w' x' y' ⟨m,t.s⟩∧Below w.heap.size w w':=by
 have HM:=hD hm
 have HD:=hD hd
 have t1:decide (k < 1)=false:=by rw [decide_eq_false_iff_not]; omega
 have t2:decide (8 < k)=false:=by rw [decide_eq_false_iff_not]; omega
 have t3:decide (k≤6)=true:=by rw [decide_eq_true_eq]; omega
 have b1:=bl_newZ w (.cells #[.slice ax nx cx,.slice ay ny cy] 25)
 have b2:=bl_newZ (w.alloc (.cells #[.slice ax nx cx,.slice ay ny cy] 25)) (.cells #[.int .i64 k,.string ⟨u.toArray⟩,.string ⟨o.toArray⟩,.int .i64 id,.int .i64 a,.int .i64 b,.int .i64 c,.string ⟨st.toArray⟩] 50)
 have b3:=bl_newZ ((w.alloc (.cells #[.slice ax nx cx,.slice ay ny cy] 25)).alloc (.cells #[.int .i64 k,.string ⟨u.toArray⟩,.string ⟨o.toArray⟩,.int .i64 id,.int .i64 a,.int .i64 b,.int .i64 c,.string ⟨st.toArray⟩] 50)) (.cells #[.slice none 0 0,.slice none 0 0] 25)
 have b123:=below2Z b1 (below2Z b2 b3)
 have HB:=hD b123
 have H:=hD (h.later b123)
 have FS:=hD (upT (heap_newT w (.cells #[.slice ax nx cx,.slice ay ny cy] 25)) (below2Z b2 b3))
 have FE:=hD ((cellsAt_made (w:=w.alloc (.cells #[.slice ax nx cx,.slice ay ny cy] 25)) (cs:=#[.int .i64 k,.string ⟨u.toArray⟩,.string ⟨o.toArray⟩,.int .i64 id,.int .i64 a,.int .i64 b,.int .i64 c,.string ⟨st.toArray⟩]) (vs:=evVals ⟨k,u,o,id,⟨a,b,c,st⟩⟩) rfl 50 (B:=w.heap.size+1) (by simp)).later b3)
 have FR:Hid ((((w.alloc (.cells #[.slice ax nx cx,.slice ay ny cy] 25)).alloc (.cells #[.int .i64 k,.string ⟨u.toArray⟩,.string ⟨o.toArray⟩,.int .i64 id,.int .i64 a,.int .i64 b,.int .i64 c,.string ⟨st.toArray⟩] 50)).alloc (.cells #[.slice none 0 0,.slice none 0 0] 25)).heap[w.heap.size+1+1]?=some (.cells #[.slice none 0 0,.slice none 0 0] 25 (0,0))):=by
  have hz:=heap_newT ((w.alloc (.cells #[.slice ax nx cx,.slice ay ny cy] 25)).alloc (.cells #[.int .i64 k,.string ⟨u.toArray⟩,.string ⟨o.toArray⟩,.int .i64 id,.int .i64 a,.int .i64 b,.int .i64 c,.string ⟨st.toArray⟩] 50)) (.cells #[.slice none 0 0,.slice none 0 0] 25)
  simp only [World.size_alloc] at hz
  exact hz
 have HE:=hD he
 have HS:=hD hs
 obtain⟨s0,s1,f0,f1⟩:=two_T FS.out
 obtain⟨e0,e1,e2,e3,e4,e5,e6,e7⟩:=eightT FE.out
 clear b1 b2 b3 b123 h he hs
 clear hm
 go_enter Tryz.func63,Tryz.ntmps63
 go_wp2_with fail
 refine (rstmay_any H.out HE.out (by omega) HS.out HM).mono ?_
 rintro e w1 ⟨rfl,c1⟩
 replace HB:=hD (below2Z HB.out c1)
 replace H:=hD (H.out.later c1)
 replace FS:=hD (upT FS.out c1)
 replace FE:=hD (FE.out.later c1)
 replace FR:=hD (upT FR.out c1)
 clear s0 s1 f0 f1 e0 e1 e2 e3 e4 e5 e6 e7 c1
 obtain⟨s0,s1,f0,f1⟩:=two_T FS.out
 obtain⟨e0,e1,e2,e3,e4,e5,e6,e7⟩:=eightT FE.out
 obtain⟨r0,r1,g0,g1⟩:=two_T FR.out
 have FR1:=FR
 have bt:=bl_newZ w1 (.cells #[.slice ax nx cx,.slice ay ny cy] 25)
 have FT:=hD (heap_newT w1 (.cells #[.slice ax nx cx,.slice ay ny cy] 25))
 replace HB:=hD (below2Z HB.out bt)
 replace H:=hD (H.out.later bt)
 replace FS:=hD (upT FS.out bt)
 replace FE:=hD (FE.out.later bt)
 replace FR:=hD (upT FR.out bt)
 have hzt:=HB.out.size
 clear bt
 go_upto_region 5 with fail
 have hTw:w.heap.size≤w1.heap.size:=by have:=(Array.getElem?_eq_some_iff.1 FR1.out).1; omega
 have hTR:w1.heap.size ≠ w.heap.size+1+1:=by have:=(Array.getElem?_eq_some_iff.1 FR1.out).1; omega
 have hTS:w1.heap.size ≠ w.heap.size:=by have:=(Array.getElem?_eq_some_iff.1 FR1.out).1; omega
 have hST:w.heap.size ≠ w1.heap.size:=fun e => hTS e.symm
 generalize hW:w1.alloc (.cells #[.slice ax nx cx,.slice ay ny cy] 25)=w1t at HB H FS FE FR FT ⊢
 generalize hT:w1.heap.size=T at FT hTw hTR hTS hST ⊢
 clear s0 s1 f0 f1 e0 e1 e2 e3 e4 e5 e6 e7 r0 r1 g0 g1
 obtain⟨s0,s1,f0,f1⟩:=two_T FS.out
 obtain⟨e0,e1,e2,e3,e4,e5,e6,e7⟩:=eightT FE.out
 obtain⟨r0,r1,g0,g1⟩:=two_T FR.out
 obtain⟨t0,t1,v0,v1⟩:=two_T FT.out
 go_wp2_with fail
 refine (rdo8_any H.out.1 HE.out hl u o hu ho k HD.out).mono ?_
 rintro e w2 ⟨x',rfl,hx,c2⟩
 obtain⟨ap,np,cp,rfl⟩ : ∃ a n c,x'=.slice a n c:=by obtain⟨a,c,e,-⟩:=Ents.open' hx; exact⟨_,_,_,e⟩
 replace HB:=hD (below2Z HB.out c2)
 replace H:=hD (H.out.later c2)
 replace FS:=hD (upT FS.out c2)
 replace FE:=hD (FE.out.later c2)
 replace FR:=hD (upT FR.out c2)
 replace FT:=hD (upT FT.out c2)
 clear s0 s1 f0 f1 e0 e1 e2 e3 e4 e5 e6 e7 r0 r1 g0 g1 t0 t1 v0 v1 c2
 obtain⟨s0,s1,f0,f1⟩:=two_T FS.out
 obtain⟨e0,e1,e2,e3,e4,e5,e6,e7⟩:=eightT FE.out
 obtain⟨r0,r1,g0,g1⟩:=two_T FR.out
 obtain⟨t0,t1,v0,v1⟩:=two_T FT.out
 have HN:Hid (StAt w2 (.slice ap np cp) (.slice ay ny cy) ⟨m,t.s⟩):=hD ⟨hx,H.out.2⟩
 go_wp2_with fail
 obtain⟨q1,q2,q3⟩:=st_one HN.out HB.out hTw FT.out H.out.sl 0 (.slice ap np cp) hTR FR.out
 obtain⟨z1,z2,o0,o1⟩:=st_fin q1 q2 (show w.heap.size≤w.heap.size+1+1 by omega) q3 allSl_nil
 refine bodyPost_ret (v:=.tuple #[.agg #[.slice ap np cp,.slice ay ny cy],.int .i64 0]) (by simp [results,Tryz.results63,go_sem,o0,o1]) rfl ⟨_,_,rfl,z1,z2⟩

theorem rstdo_d0 {w:World} {ax ay:Option Addr} {nx cx ny cy:Nat} {t:Sta} (h:StAt w (.slice ax nx cx) (.slice ay ny cy) t) (he:ShortE t.e) (hl:t.e.length≤900) (hs:ShortS t.s) (u o st:List UInt8) (id a b c:Int) (hu:u.length≤4294967296) (ho:o.length≤4294967296) (hst:st.length≤4294967296) (hm:stMay t=true) {m:List Ses} (hd:sePut t.s ⟨u,id,⟨a,b,c,st⟩⟩=(m,0)) :
  Calls Tryz.prog 63 #[.agg #[.slice ax nx cx,.slice ay ny cy],.agg #[.int .i64 7,.string ⟨u.toArray⟩,.string ⟨o.toArray⟩,.int .i64 id,.int .i64 a,.int .i64 b,.int .i64 c,.string ⟨st.toArray⟩]] w fun e w' => ∃ x' y',e=.returned (.tuple #[.agg #[x',y'],.int .i64 0])∧StAt w' x' y' ⟨t.e,m⟩∧Below w.heap.size w w':=by
 have HM:=hD hm
 have HD:=hD hd
 have b1:=bl_newZ w (.cells #[.slice ax nx cx,.slice ay ny cy] 25)
 have b2:=bl_newZ (w.alloc (.cells #[.slice ax nx cx,.slice ay ny cy] 25)) (.cells #[.int .i64 7,.string ⟨u.toArray⟩,.string ⟨o.toArray⟩,.int .i64 id,.int .i64 a,.int .i64 b,.int .i64 c,.string ⟨st.toArray⟩] 50)
 have b3:=bl_newZ ((w.alloc (.cells #[.slice ax nx cx,.slice ay ny cy] 25)).alloc (.cells #[.int .i64 7,.string ⟨u.toArray⟩,.string ⟨o.toArray⟩,.int .i64 id,.int .i64 a,.int .i64 b,.int .i64 c,.string ⟨st.toArray⟩] 50)) (.cells #[.slice none 0 0,.slice none 0 0] 25)
 have b123:=below2Z b1 (below2Z b2 b3)
 have HB:=hD b123
 have H:=hD (h.later b123)
 have FS:=hD (upT (heap_newT w (.cells #[.slice ax nx cx,.slice ay ny cy] 25)) (below2Z b2 b3))
 have FE:=hD ((cellsAt_made (w:=w.alloc (.cells #[.slice ax nx cx,.slice ay ny cy] 25)) (cs:=#[.int .i64 7,.string ⟨u.toArray⟩,.string ⟨o.toArray⟩,.int .i64 id,.int .i64 a,.int .i64 b,.int .i64 c,.string ⟨st.toArray⟩]) (vs:=evVals ⟨7,u,o,id,⟨a,b,c,st⟩⟩) rfl 50 (B:=w.heap.size+1) (by simp)).later b3)
 have FR:Hid ((((w.alloc (.cells #[.slice ax nx cx,.slice ay ny cy] 25)).alloc (.cells #[.int .i64 7,.string ⟨u.toArray⟩,.string ⟨o.toArray⟩,.int .i64 id,.int .i64 a,.int .i64 b,.int .i64 c,.string ⟨st.toArray⟩] 50)).alloc (.cells #[.slice none 0 0,.slice none 0 0] 25)).heap[w.heap.size+1+1]?=some (.cells #[.slice none 0 0,.slice none 0 0] 25 (0,0))):=by
  have hz:=heap_newT ((w.alloc (.cells #[.slice ax nx cx,.slice ay ny cy] 25)).alloc (.cells #[.int .i64 7,.string ⟨u.toArray⟩,.string ⟨o.toArray⟩,.int .i64 id,.int .i64 a,.int .i64 b,.int .i64 c,.string ⟨st.toArray⟩] 50)) (.cells #[.slice none 0 0,.slice none 0 0] 25)
  simp only [World.size_alloc] at hz
  exact hz
 have HE:=hD he
 have HS:=hD hs
 obtain⟨s0,s1,f0,f1⟩:=two_T FS.out
 obtain⟨e0,e1,e2,e3,e4,e5,e6,e7⟩:=eightT FE.out
 clear b1 b2 b3 b123 h he hs
 clear hm
 go_enter Tryz.func63,Tryz.ntmps63
 go_wp2_with fail
 refine (rstmay_any H.out HE.out (by omega) HS.out HM).mono ?_
 rintro e w1 ⟨rfl,c1⟩
 replace HB:=hD (below2Z HB.out c1)
 replace H:=hD (H.out.later c1)
 replace FS:=hD (upT FS.out c1)
 replace FE:=hD (FE.out.later c1)
 replace FR:=hD (upT FR.out c1)
 clear s0 s1 f0 f1 e0 e1 e2 e3 e4 e5 e6 e7 c1
 obtain⟨s0,s1,f0,f1⟩:=two_T FS.out
 obtain⟨e0,e1,e2,e3,e4,e5,e6,e7⟩:=eightT FE.out
 obtain⟨r0,r1,g0,g1⟩:=two_T FR.out
 have FR1:=FR
 have bt:=bl_newZ w1 (.cells #[.slice ax nx cx,.slice ay ny cy] 25)
 have FT:=hD (heap_newT w1 (.cells #[.slice ax nx cx,.slice ay ny cy] 25))
 replace HB:=hD (below2Z HB.out bt)
 replace H:=hD (H.out.later bt)
 replace FS:=hD (upT FS.out bt)
 replace FE:=hD (FE.out.later bt)
 replace FR:=hD (upT FR.out bt)
 have hzt:=HB.out.size
 clear bt
 go_upto_region 5 with fail
 have hTw:w.heap.size≤w1.heap.size:=by have:=(Array.getElem?_eq_some_iff.1 FR1.out).1; omega
 have hTR:w1.heap.size ≠ w.heap.size+1+1:=by have:=(Array.getElem?_eq_some_iff.1 FR1.out).1; omega
 have hTS:w1.heap.size ≠ w.heap.size:=by have:=(Array.getElem?_eq_some_iff.1 FR1.out).1; omega
 have hST:w.heap.size ≠ w1.heap.size:=fun e => hTS e.symm
 generalize hW:w1.alloc (.cells #[.slice ax nx cx,.slice ay ny cy] 25)=w1t at HB H FS FE FR FT ⊢
 generalize hT:w1.heap.size=T at FT hTw hTR hTS hST ⊢
 clear s0 s1 f0 f1 e0 e1 e2 e3 e4 e5 e6 e7 r0 r1 g0 g1
 obtain⟨s0,s1,f0,f1⟩:=two_T FS.out
 obtain⟨e0,e1,e2,e3,e4,e5,e6,e7⟩:=eightT FE.out
 obtain⟨r0,r1,g0,g1⟩:=two_T FR.out
 obtain⟨t0,t1,v0,v1⟩:=two_T FT.out
 go_wp2_with fail
 refine (rsput_any H.out.2 HS.out ⟨u,id,⟨a,b,c,st⟩⟩ hu hst HD).mono ?_
 rintro e w2 ⟨x',rfl,hx,c2⟩
 obtain⟨ap,np,cp,rfl⟩ : ∃ a n c,x'=.slice a n c:=by obtain⟨a,c,e,-⟩:=RdS.open' hx; exact⟨_,_,_,e⟩
 replace HB:=hD (below2Z HB.out c2)
 replace H:=hD (H.out.later c2)
 replace FS:=hD (upT FS.out c2)
 replace FE:=hD (FE.out.later c2)
 replace FR:=hD (upT FR.out c2)
 replace FT:=hD (upT FT.out c2)
 clear s0 s1 f0 f1 e0 e1 e2 e3 e4 e5 e6 e7 r0 r1 g0 g1 t0 t1 v0 v1 c2
 obtain⟨s0,s1,f0,f1⟩:=two_T FS.out
 obtain⟨e0,e1,e2,e3,e4,e5,e6,e7⟩:=eightT FE.out
 obtain⟨r0,r1,g0,g1⟩:=two_T FR.out
 obtain⟨t0,t1,v0,v1⟩:=two_T FT.out
 have HN:Hid (StAt w2 (.slice ax nx cx) (.slice ap np cp) ⟨t.e,m⟩):=hD ⟨H.out.1,hx⟩
 go_wp2_with fail
 obtain⟨q1,q2,q3⟩:=st_one HN.out HB.out hTw FT.out H.out.sl 1 (.slice ap np cp) hTR FR.out
 obtain⟨z1,z2,o0,o1⟩:=st_fin q1 q2 (show w.heap.size≤w.heap.size+1+1 by omega) q3 allSl_nil
 refine bodyPost_ret (v:=.tuple #[.agg #[.slice ax nx cx,.slice ap np cp],.int .i64 0]) (by simp [results,Tryz.results63,go_sem,o0,o1]) rfl ⟨_,_,rfl,z1,z2⟩

theorem rstdo_e0 {w:World} {ax ay:Option Addr} {nx cx ny cy:Nat} {t:Sta} (h:StAt w (.slice ax nx cx) (.slice ay ny cy) t) (he:ShortE t.e) (hl:t.e.length≤900) (hs:ShortS t.s) (u o st:List UInt8) (id a b c:Int) (hu:u.length≤4294967296) (ho:o.length≤4294967296) (hst:st.length≤4294967296) (hm:stMay t=true) {m:List Ses} (hd:seDrop t.s u id=(m,0)) :
  Calls Tryz.prog 63 #[.agg #[.slice ax nx cx,.slice ay ny cy],.agg #[.int .i64 8,.string ⟨u.toArray⟩,.string ⟨o.toArray⟩,.int .i64 id,.int .i64 a,.int .i64 b,.int .i64 c,.string ⟨st.toArray⟩]] w fun e w' => ∃ x' y',e=.returned (.tuple #[.agg #[x',y'],.int .i64 0])∧StAt w' x' y' ⟨t.e,m⟩∧Below w.heap.size w w':=by
 have HM:=hD hm
 have HD:=hD hd
 have b1:=bl_newZ w (.cells #[.slice ax nx cx,.slice ay ny cy] 25)
 have b2:=bl_newZ (w.alloc (.cells #[.slice ax nx cx,.slice ay ny cy] 25)) (.cells #[.int .i64 8,.string ⟨u.toArray⟩,.string ⟨o.toArray⟩,.int .i64 id,.int .i64 a,.int .i64 b,.int .i64 c,.string ⟨st.toArray⟩] 50)
 have b3:=bl_newZ ((w.alloc (.cells #[.slice ax nx cx,.slice ay ny cy] 25)).alloc (.cells #[.int .i64 8,.string ⟨u.toArray⟩,.string ⟨o.toArray⟩,.int .i64 id,.int .i64 a,.int .i64 b,.int .i64 c,.string ⟨st.toArray⟩] 50)) (.cells #[.slice none 0 0,.slice none 0 0] 25)
 have b123:=below2Z b1 (below2Z b2 b3)
 have HB:=hD b123
 have H:=hD (h.later b123)
 have FS:=hD (upT (heap_newT w (.cells #[.slice ax nx cx,.slice ay ny cy] 25)) (below2Z b2 b3))
 have FE:=hD ((cellsAt_made (w:=w.alloc (.cells #[.slice ax nx cx,.slice ay ny cy] 25)) (cs:=#[.int .i64 8,.string ⟨u.toArray⟩,.string ⟨o.toArray⟩,.int .i64 id,.int .i64 a,.int .i64 b,.int .i64 c,.string ⟨st.toArray⟩]) (vs:=evVals ⟨8,u,o,id,⟨a,b,c,st⟩⟩) rfl 50 (B:=w.heap.size+1) (by simp)).later b3)
 have FR:Hid ((((w.alloc (.cells #[.slice ax nx cx,.slice ay ny cy] 25)).alloc (.cells #[.int .i64 8,.string ⟨u.toArray⟩,.string ⟨o.toArray⟩,.int .i64 id,.int .i64 a,.int .i64 b,.int .i64 c,.string ⟨st.toArray⟩] 50)).alloc (.cells #[.slice none 0 0,.slice none 0 0] 25)).heap[w.heap.size+1+1]?=some (.cells #[.slice none 0 0,.slice none 0 0] 25 (0,0))):=by
  have hz:=heap_newT ((w.alloc (.cells #[.slice ax nx cx,.slice ay ny cy] 25)).alloc (.cells #[.int .i64 8,.string ⟨u.toArray⟩,.string ⟨o.toArray⟩,.int .i64 id,.int .i64 a,.int .i64 b,.int .i64 c,.string ⟨st.toArray⟩] 50)) (.cells #[.slice none 0 0,.slice none 0 0] 25)
  simp only [World.size_alloc] at hz
  exact hz
 have HE:=hD he
 have HS:=hD hs
 obtain⟨s0,s1,f0,f1⟩:=two_T FS.out
 obtain⟨e0,e1,e2,e3,e4,e5,e6,e7⟩:=eightT FE.out
 clear b1 b2 b3 b123 h he hs
 clear hm
 go_enter Tryz.func63,Tryz.ntmps63
 go_wp2_with fail
 refine (rstmay_any H.out HE.out (by omega) HS.out HM).mono ?_
 rintro e w1 ⟨rfl,c1⟩
 replace HB:=hD (below2Z HB.out c1)
 replace H:=hD (H.out.later c1)
 replace FS:=hD (upT FS.out c1)
 replace FE:=hD (FE.out.later c1)
 replace FR:=hD (upT FR.out c1)
 clear s0 s1 f0 f1 e0 e1 e2 e3 e4 e5 e6 e7 c1
 obtain⟨s0,s1,f0,f1⟩:=two_T FS.out
 obtain⟨e0,e1,e2,e3,e4,e5,e6,e7⟩:=eightT FE.out
 obtain⟨r0,r1,g0,g1⟩:=two_T FR.out
 have FR1:=FR
 have bt:=bl_newZ w1 (.cells #[.slice ax nx cx,.slice ay ny cy] 25)
 have FT:=hD (heap_newT w1 (.cells #[.slice ax nx cx,.slice ay ny cy] 25))
 replace HB:=hD (below2Z HB.out bt)
 replace H:=hD (H.out.later bt)
 replace FS:=hD (upT FS.out bt)
 replace FE:=hD (FE.out.later bt)
 replace FR:=hD (upT FR.out bt)
 have hzt:=HB.out.size
 clear bt
 go_upto_region 5 with fail
 have hTw:w.heap.size≤w1.heap.size:=by have:=(Array.getElem?_eq_some_iff.1 FR1.out).1; omega
 have hTR:w1.heap.size ≠ w.heap.size+1+1:=by have:=(Array.getElem?_eq_some_iff.1 FR1.out).1; omega
 have hTS:w1.heap.size ≠ w.heap.size:=by have:=(Array.getElem?_eq_some_iff.1 FR1.out).1; omega
 have hST:w.heap.size ≠ w1.heap.size:=fun e => hTS e.symm
 generalize hW:w1.alloc (.cells #[.slice ax nx cx,.slice ay ny cy] 25)=w1t at HB H FS FE FR FT ⊢
 generalize hT:w1.heap.size=T at FT hTw hTR hTS hST ⊢
 clear s0 s1 f0 f1 e0 e1 e2 e3 e4 e5 e6 e7 r0 r1 g0 g1
 obtain⟨s0,s1,f0,f1⟩:=two_T FS.out
 obtain⟨e0,e1,e2,e3,e4,e5,e6,e7⟩:=eightT FE.out
 obtain⟨r0,r1,g0,g1⟩:=two_T FR.out
 obtain⟨t0,t1,v0,v1⟩:=two_T FT.out
 go_wp2_with fail
 refine (rsdrop_any H.out.2 HS.out u id HD).mono ?_
 rintro e w2 ⟨x',rfl,hx,c2⟩
 obtain⟨ap,np,cp,rfl⟩ : ∃ a n c,x'=.slice a n c:=by obtain⟨a,c,e,-⟩:=RdS.open' hx; exact⟨_,_,_,e⟩
 replace HB:=hD (below2Z HB.out c2)
 replace H:=hD (H.out.later c2)
 replace FS:=hD (upT FS.out c2)
 replace FE:=hD (FE.out.later c2)
 replace FR:=hD (upT FR.out c2)
 replace FT:=hD (upT FT.out c2)
 clear s0 s1 f0 f1 e0 e1 e2 e3 e4 e5 e6 e7 r0 r1 g0 g1 t0 t1 v0 v1 c2
 obtain⟨s0,s1,f0,f1⟩:=two_T FS.out
 obtain⟨e0,e1,e2,e3,e4,e5,e6,e7⟩:=eightT FE.out
 obtain⟨r0,r1,g0,g1⟩:=two_T FR.out
 obtain⟨t0,t1,v0,v1⟩:=two_T FT.out
 have HN:Hid (StAt w2 (.slice ax nx cx) (.slice ap np cp) ⟨t.e,m⟩):=hD ⟨H.out.1,hx⟩
 go_wp2_with fail
 obtain⟨q1,q2,q3⟩:=st_one HN.out HB.out hTw FT.out H.out.sl 1 (.slice ap np cp) hTR FR.out
 obtain⟨z1,z2,o0,o1⟩:=st_fin q1 q2 (show w.heap.size≤w.heap.size+1+1 by omega) q3 allSl_nil
 refine bodyPost_ret (v:=.tuple #[.agg #[.slice ax nx cx,.slice ap np cp],.int .i64 0]) (by simp [results,Tryz.results63,go_sem,o0,o1]) rfl ⟨_,_,rfl,z1,z2⟩

theorem rstdo_cn {w:World} {ax ay:Option Addr} {nx cx ny cy:Nat} {t:Sta} (h:StAt w (.slice ax nx cx) (.slice ay ny cy) t) (he:ShortE t.e) (hl:t.e.length≤900) (hs:ShortS t.s) (u o st:List UInt8) (id a b c:Int) (hu:u.length≤4294967296) (ho:o.length≤4294967296) (hst:st.length≤4294967296) (k:Int) (hm:stMay t=true) (k1:1≤k) (k6:k≤6) {m:List Ent} {n:Nat} (hd:roDo t.e k u o=(m,n)) (hn:n ≠ 0) :
  Calls Tryz.prog 63 #[.agg #[.slice ax nx cx,.slice ay ny cy],.agg #[.int .i64 k,.string ⟨u.toArray⟩,.string ⟨o.toArray⟩,.int .i64 id,.int .i64 a,.int .i64 b,.int .i64 c,.string ⟨st.toArray⟩]] w fun e w' => ∃ x' y',e=.returned (.tuple #[.agg #[x',y'],.int .i64 n])∧StAt w' x' y' ⟨t.e,t.s⟩∧Below w.heap.size w w':=by
 have HM:=hD hm
 have HD:=hD hd
 have tn:((n:Int) != 0)=true:=by rw [bne_iff_ne]; omega
 have tnb:((n:Int) == 0)=false:=by rw [beq_eq_false_iff_ne]; omega
 have t1:decide (k < 1)=false:=by rw [decide_eq_false_iff_not]; omega
 have t2:decide (8 < k)=false:=by rw [decide_eq_false_iff_not]; omega
 have t3:decide (k≤6)=true:=by rw [decide_eq_true_eq]; omega
 have b1:=bl_newZ w (.cells #[.slice ax nx cx,.slice ay ny cy] 25)
 have b2:=bl_newZ (w.alloc (.cells #[.slice ax nx cx,.slice ay ny cy] 25)) (.cells #[.int .i64 k,.string ⟨u.toArray⟩,.string ⟨o.toArray⟩,.int .i64 id,.int .i64 a,.int .i64 b,.int .i64 c,.string ⟨st.toArray⟩] 50)
 have b3:=bl_newZ ((w.alloc (.cells #[.slice ax nx cx,.slice ay ny cy] 25)).alloc (.cells #[.int .i64 k,.string ⟨u.toArray⟩,.string ⟨o.toArray⟩,.int .i64 id,.int .i64 a,.int .i64 b,.int .i64 c,.string ⟨st.toArray⟩] 50)) (.cells #[.slice none 0 0,.slice none 0 0] 25)
 have b123:=below2Z b1 (below2Z b2 b3)
 have HB:=hD b123
 have H:=hD (h.later b123)
 have FS:=hD (upT (heap_newT w (.cells #[.slice ax nx cx,.slice ay ny cy] 25)) (below2Z b2 b3))
 have FE:=hD ((cellsAt_made (w:=w.alloc (.cells #[.slice ax nx cx,.slice ay ny cy] 25)) (cs:=#[.int .i64 k,.string ⟨u.toArray⟩,.string ⟨o.toArray⟩,.int .i64 id,.int .i64 a,.int .i64 b,.int .i64 c,.string ⟨st.toArray⟩]) (vs:=evVals ⟨k,u,o,id,⟨a,b,c,st⟩⟩) rfl 50 (B:=w.heap.size+1) (by simp)).later b3)
 have FR:Hid ((((w.alloc (.cells #[.slice ax nx cx,.slice ay ny cy] 25)).alloc (.cells #[.int .i64 k,.string ⟨u.toArray⟩,.string ⟨o.toArray⟩,.int .i64 id,.int .i64 a,.int .i64 b,.int .i64 c,.string ⟨st.toArray⟩] 50)).alloc (.cells #[.slice none 0 0,.slice none 0 0] 25)).heap[w.heap.size+1+1]?=some (.cells #[.slice none 0 0,.slice none 0 0] 25 (0,0))):=by
  have hz:=heap_newT ((w.alloc (.cells #[.slice ax nx cx,.slice ay ny cy] 25)).alloc (.cells #[.int .i64 k,.string ⟨u.toArray⟩,.string ⟨o.toArray⟩,.int .i64 id,.int .i64 a,.int .i64 b,.int .i64 c,.string ⟨st.toArray⟩] 50)) (.cells #[.slice none 0 0,.slice none 0 0] 25)
  simp only [World.size_alloc] at hz
  exact hz
 have HE:=hD he
 have HS:=hD hs
 obtain⟨s0,s1,f0,f1⟩:=two_T FS.out
 obtain⟨e0,e1,e2,e3,e4,e5,e6,e7⟩:=eightT FE.out
 clear b1 b2 b3 b123 h he hs
 clear hm
 go_enter Tryz.func63,Tryz.ntmps63
 go_wp2_with fail
 refine (rstmay_any H.out HE.out (by omega) HS.out HM).mono ?_
 rintro e w1 ⟨rfl,c1⟩
 replace HB:=hD (below2Z HB.out c1)
 replace H:=hD (H.out.later c1)
 replace FS:=hD (upT FS.out c1)
 replace FE:=hD (FE.out.later c1)
 replace FR:=hD (upT FR.out c1)
 clear s0 s1 f0 f1 e0 e1 e2 e3 e4 e5 e6 e7 c1
 obtain⟨s0,s1,f0,f1⟩:=two_T FS.out
 obtain⟨e0,e1,e2,e3,e4,e5,e6,e7⟩:=eightT FE.out
 obtain⟨r0,r1,g0,g1⟩:=two_T FR.out
 have FR1:=FR
 have bt:=bl_newZ w1 (.cells #[.slice ax nx cx,.slice ay ny cy] 25)
 have FT:=hD (heap_newT w1 (.cells #[.slice ax nx cx,.slice ay ny cy] 25))
 replace HB:=hD (below2Z HB.out bt)
 replace H:=hD (H.out.later bt)
 replace FS:=hD (upT FS.out bt)
 replace FE:=hD (FE.out.later bt)
 replace FR:=hD (upT FR.out bt)
 have hzt:=HB.out.size
 clear bt
 go_upto_region 5 with fail
 have hTw:w.heap.size≤w1.heap.size:=by have:=(Array.getElem?_eq_some_iff.1 FR1.out).1; omega
 have hTR:w1.heap.size ≠ w.heap.size+1+1:=by have:=(Array.getElem?_eq_some_iff.1 FR1.out).1; omega
 have hTS:w1.heap.size ≠ w.heap.size:=by have:=(Array.getElem?_eq_some_iff.1 FR1.out).1; omega
 have hST:w.heap.size ≠ w1.heap.size:=fun e => hTS e.symm
 generalize hW:w1.alloc (.cells #[.slice ax nx cx,.slice ay ny cy] 25)=w1t at HB H FS FE FR FT ⊢
 generalize hT:w1.heap.size=T at FT hTw hTR hTS hST ⊢
 clear s0 s1 f0 f1 e0 e1 e2 e3 e4 e5 e6 e7 r0 r1 g0 g1
 obtain⟨s0,s1,f0,f1⟩:=two_T FS.out
 obtain⟨e0,e1,e2,e3,e4,e5,e6,e7⟩:=eightT FE.out
 obtain⟨r0,r1,g0,g1⟩:=two_T FR.out
 obtain⟨t0,t1,v0,v1⟩:=two_T FT.out
 go_wp2_with fail
 refine (rdo8_any H.out.1 HE.out hl u o hu ho k HD.out).mono ?_
 rintro e w2 ⟨x',rfl,hx,c2⟩
 obtain⟨ap,np,cp,rfl⟩ : ∃ a n c,x'=.slice a n c:=by obtain⟨a,c,e,-⟩:=Ents.open' hx; exact⟨_,_,_,e⟩
 replace HB:=hD (below2Z HB.out c2)
 replace H:=hD (H.out.later c2)
 replace FS:=hD (upT FS.out c2)
 replace FE:=hD (FE.out.later c2)
 replace FR:=hD (upT FR.out c2)
 replace FT:=hD (upT FT.out c2)
 clear s0 s1 f0 f1 e0 e1 e2 e3 e4 e5 e6 e7 r0 r1 g0 g1 t0 t1 v0 v1 c2
 obtain⟨s0,s1,f0,f1⟩:=two_T FS.out
 obtain⟨e0,e1,e2,e3,e4,e5,e6,e7⟩:=eightT FE.out
 obtain⟨r0,r1,g0,g1⟩:=two_T FR.out
 obtain⟨t0,t1,v0,v1⟩:=two_T FT.out
 have HN:Hid (StAt w2 (.slice ap np cp) (.slice ay ny cy) ⟨m,t.s⟩):=hD ⟨hx,H.out.2⟩
 go_wp2_with fail
 obtain⟨q1,q2,q3⟩:=st_one H.out HB.out hTw FT.out H.out.sl 0 (.slice ap np cp) hTR FR.out
 obtain⟨z1,z2,o0,o1⟩:=st_fin q1 q2 (show w.heap.size≤w.heap.size+1+1 by omega) q3 allSl_nil
 refine bodyPost_ret (v:=.tuple #[.agg #[.slice ax nx cx,.slice ay ny cy],.int .i64 n]) (by simp [results,Tryz.results63,go_sem,o0,o1]) rfl ⟨_,_,rfl,z1,z2⟩

theorem rstdo_dn {w:World} {ax ay:Option Addr} {nx cx ny cy:Nat} {t:Sta} (h:StAt w (.slice ax nx cx) (.slice ay ny cy) t) (he:ShortE t.e) (hl:t.e.length≤900) (hs:ShortS t.s) (u o st:List UInt8) (id a b c:Int) (hu:u.length≤4294967296) (ho:o.length≤4294967296) (hst:st.length≤4294967296) (hm:stMay t=true) {m:List Ses} {n:Nat} (hd:sePut t.s ⟨u,id,⟨a,b,c,st⟩⟩=(m,n)) (hn:n ≠ 0) :
  Calls Tryz.prog 63 #[.agg #[.slice ax nx cx,.slice ay ny cy],.agg #[.int .i64 7,.string ⟨u.toArray⟩,.string ⟨o.toArray⟩,.int .i64 id,.int .i64 a,.int .i64 b,.int .i64 c,.string ⟨st.toArray⟩]] w fun e w' => ∃ x' y',e=.returned (.tuple #[.agg #[x',y'],.int .i64 n])∧StAt w' x' y' ⟨t.e,t.s⟩∧Below w.heap.size w w':=by
 have HM:=hD hm
 have HD:=hD hd
 have tn:((n:Int) != 0)=true:=by rw [bne_iff_ne]; omega
 have tnb:((n:Int) == 0)=false:=by rw [beq_eq_false_iff_ne]; omega
 have b1:=bl_newZ w (.cells #[.slice ax nx cx,.slice ay ny cy] 25)
 have b2:=bl_newZ (w.alloc (.cells #[.slice ax nx cx,.slice ay ny cy] 25)) (.cells #[.int .i64 7,.string ⟨u.toArray⟩,.string ⟨o.toArray⟩,.int .i64 id,.int .i64 a,.int .i64 b,.int .i64 c,.string ⟨st.toArray⟩] 50)
 have b3:=bl_newZ ((w.alloc (.cells #[.slice ax nx cx,.slice ay ny cy] 25)).alloc (.cells #[.int .i64 7,.string ⟨u.toArray⟩,.string ⟨o.toArray⟩,.int .i64 id,.int .i64 a,.int .i64 b,.int .i64 c,.string ⟨st.toArray⟩] 50)) (.cells #[.slice none 0 0,.slice none 0 0] 25)
 have b123:=below2Z b1 (below2Z b2 b3)
 have HB:=hD b123
 have H:=hD (h.later b123)
 have FS:=hD (upT (heap_newT w (.cells #[.slice ax nx cx,.slice ay ny cy] 25)) (below2Z b2 b3))
 have FE:=hD ((cellsAt_made (w:=w.alloc (.cells #[.slice ax nx cx,.slice ay ny cy] 25)) (cs:=#[.int .i64 7,.string ⟨u.toArray⟩,.string ⟨o.toArray⟩,.int .i64 id,.int .i64 a,.int .i64 b,.int .i64 c,.string ⟨st.toArray⟩]) (vs:=evVals ⟨7,u,o,id,⟨a,b,c,st⟩⟩) rfl 50 (B:=w.heap.size+1) (by simp)).later b3)
 have FR:Hid ((((w.alloc (.cells #[.slice ax nx cx,.slice ay ny cy] 25)).alloc (.cells #[.int .i64 7,.string ⟨u.toArray⟩,.string ⟨o.toArray⟩,.int .i64 id,.int .i64 a,.int .i64 b,.int .i64 c,.string ⟨st.toArray⟩] 50)).alloc (.cells #[.slice none 0 0,.slice none 0 0] 25)).heap[w.heap.size+1+1]?=some (.cells #[.slice none 0 0,.slice none 0 0] 25 (0,0))):=by
  have hz:=heap_newT ((w.alloc (.cells #[.slice ax nx cx,.slice ay ny cy] 25)).alloc (.cells #[.int .i64 7,.string ⟨u.toArray⟩,.string ⟨o.toArray⟩,.int .i64 id,.int .i64 a,.int .i64 b,.int .i64 c,.string ⟨st.toArray⟩] 50)) (.cells #[.slice none 0 0,.slice none 0 0] 25)
  simp only [World.size_alloc] at hz
  exact hz
 have HE:=hD he
 have HS:=hD hs
 obtain⟨s0,s1,f0,f1⟩:=two_T FS.out
 obtain⟨e0,e1,e2,e3,e4,e5,e6,e7⟩:=eightT FE.out
 clear b1 b2 b3 b123 h he hs
 clear hm
 go_enter Tryz.func63,Tryz.ntmps63
 go_wp2_with fail
 refine (rstmay_any H.out HE.out (by omega) HS.out HM).mono ?_
 rintro e w1 ⟨rfl,c1⟩
 replace HB:=hD (below2Z HB.out c1)
 replace H:=hD (H.out.later c1)
 replace FS:=hD (upT FS.out c1)
 replace FE:=hD (FE.out.later c1)
 replace FR:=hD (upT FR.out c1)
 clear s0 s1 f0 f1 e0 e1 e2 e3 e4 e5 e6 e7 c1
 obtain⟨s0,s1,f0,f1⟩:=two_T FS.out
 obtain⟨e0,e1,e2,e3,e4,e5,e6,e7⟩:=eightT FE.out
 obtain⟨r0,r1,g0,g1⟩:=two_T FR.out
 have FR1:=FR
 have bt:=bl_newZ w1 (.cells #[.slice ax nx cx,.slice ay ny cy] 25)
 have FT:=hD (heap_newT w1 (.cells #[.slice ax nx cx,.slice ay ny cy] 25))
 replace HB:=hD (below2Z HB.out bt)
 replace H:=hD (H.out.later bt)
 replace FS:=hD (upT FS.out bt)
 replace FE:=hD (FE.out.later bt)
 replace FR:=hD (upT FR.out bt)
 have hzt:=HB.out.size
 clear bt
 go_upto_region 5 with fail
 have hTw:w.heap.size≤w1.heap.size:=by have:=(Array.getElem?_eq_some_iff.1 FR1.out).1; omega
 have hTR:w1.heap.size ≠ w.heap.size+1+1:=by have:=(Array.getElem?_eq_some_iff.1 FR1.out).1; omega
 have hTS:w1.heap.size ≠ w.heap.size:=by have:=(Array.getElem?_eq_some_iff.1 FR1.out).1; omega
 have hST:w.heap.size ≠ w1.heap.size:=fun e => hTS e.symm
 generalize hW:w1.alloc (.cells #[.slice ax nx cx,.slice ay ny cy] 25)=w1t at HB H FS FE FR FT ⊢
 generalize hT:w1.heap.size=T at FT hTw hTR hTS hST ⊢
 clear s0 s1 f0 f1 e0 e1 e2 e3 e4 e5 e6 e7 r0 r1 g0 g1
 obtain⟨s0,s1,f0,f1⟩:=two_T FS.out
 obtain⟨e0,e1,e2,e3,e4,e5,e6,e7⟩:=eightT FE.out
 obtain⟨r0,r1,g0,g1⟩:=two_T FR.out
 obtain⟨t0,t1,v0,v1⟩:=two_T FT.out
 go_wp2_with fail
 refine (rsput_any H.out.2 HS.out ⟨u,id,⟨a,b,c,st⟩⟩ hu hst HD).mono ?_
 rintro e w2 ⟨x',rfl,hx,c2⟩
 obtain⟨ap,np,cp,rfl⟩ : ∃ a n c,x'=.slice a n c:=by obtain⟨a,c,e,-⟩:=RdS.open' hx; exact⟨_,_,_,e⟩
 replace HB:=hD (below2Z HB.out c2)
 replace H:=hD (H.out.later c2)
 replace FS:=hD (upT FS.out c2)
 replace FE:=hD (FE.out.later c2)
 replace FR:=hD (upT FR.out c2)
 replace FT:=hD (upT FT.out c2)
 clear s0 s1 f0 f1 e0 e1 e2 e3 e4 e5 e6 e7 r0 r1 g0 g1 t0 t1 v0 v1 c2
 obtain⟨s0,s1,f0,f1⟩:=two_T FS.out
 obtain⟨e0,e1,e2,e3,e4,e5,e6,e7⟩:=eightT FE.out
 obtain⟨r0,r1,g0,g1⟩:=two_T FR.out
 obtain⟨t0,t1,v0,v1⟩:=two_T FT.out
 have HN:Hid (StAt w2 (.slice ax nx cx) (.slice ap np cp) ⟨t.e,m⟩):=hD ⟨H.out.1,hx⟩
 go_wp2_with fail
 obtain⟨q1,q2,q3⟩:=st_one H.out HB.out hTw FT.out H.out.sl 1 (.slice ap np cp) hTR FR.out
 obtain⟨z1,z2,o0,o1⟩:=st_fin q1 q2 (show w.heap.size≤w.heap.size+1+1 by omega) q3 allSl_nil
 refine bodyPost_ret (v:=.tuple #[.agg #[.slice ax nx cx,.slice ay ny cy],.int .i64 n]) (by simp [results,Tryz.results63,go_sem,o0,o1]) rfl ⟨_,_,rfl,z1,z2⟩

theorem rstdo_en {w:World} {ax ay:Option Addr} {nx cx ny cy:Nat} {t:Sta} (h:StAt w (.slice ax nx cx) (.slice ay ny cy) t) (he:ShortE t.e) (hl:t.e.length≤900) (hs:ShortS t.s) (u o st:List UInt8) (id a b c:Int) (hu:u.length≤4294967296) (ho:o.length≤4294967296) (hst:st.length≤4294967296) (hm:stMay t=true) {m:List Ses} {n:Nat} (hd:seDrop t.s u id=(m,n)) (hn:n ≠ 0) :
  Calls Tryz.prog 63 #[.agg #[.slice ax nx cx,.slice ay ny cy],.agg #[.int .i64 8,.string ⟨u.toArray⟩,.string ⟨o.toArray⟩,.int .i64 id,.int .i64 a,.int .i64 b,.int .i64 c,.string ⟨st.toArray⟩]] w fun e w' => ∃ x' y',e=.returned (.tuple #[.agg #[x',y'],.int .i64 n])∧StAt w' x' y' ⟨t.e,t.s⟩∧Below w.heap.size w w':=by
 have HM:=hD hm
 have HD:=hD hd
 have tn:((n:Int) != 0)=true:=by rw [bne_iff_ne]; omega
 have tnb:((n:Int) == 0)=false:=by rw [beq_eq_false_iff_ne]; omega
 have b1:=bl_newZ w (.cells #[.slice ax nx cx,.slice ay ny cy] 25)
 have b2:=bl_newZ (w.alloc (.cells #[.slice ax nx cx,.slice ay ny cy] 25)) (.cells #[.int .i64 8,.string ⟨u.toArray⟩,.string ⟨o.toArray⟩,.int .i64 id,.int .i64 a,.int .i64 b,.int .i64 c,.string ⟨st.toArray⟩] 50)
 have b3:=bl_newZ ((w.alloc (.cells #[.slice ax nx cx,.slice ay ny cy] 25)).alloc (.cells #[.int .i64 8,.string ⟨u.toArray⟩,.string ⟨o.toArray⟩,.int .i64 id,.int .i64 a,.int .i64 b,.int .i64 c,.string ⟨st.toArray⟩] 50)) (.cells #[.slice none 0 0,.slice none 0 0] 25)
 have b123:=below2Z b1 (below2Z b2 b3)
 have HB:=hD b123
 have H:=hD (h.later b123)
 have FS:=hD (upT (heap_newT w (.cells #[.slice ax nx cx,.slice ay ny cy] 25)) (below2Z b2 b3))
 have FE:=hD ((cellsAt_made (w:=w.alloc (.cells #[.slice ax nx cx,.slice ay ny cy] 25)) (cs:=#[.int .i64 8,.string ⟨u.toArray⟩,.string ⟨o.toArray⟩,.int .i64 id,.int .i64 a,.int .i64 b,.int .i64 c,.string ⟨st.toArray⟩]) (vs:=evVals ⟨8,u,o,id,⟨a,b,c,st⟩⟩) rfl 50 (B:=w.heap.size+1) (by simp)).later b3)
 have FR:Hid ((((w.alloc (.cells #[.slice ax nx cx,.slice ay ny cy] 25)).alloc (.cells #[.int .i64 8,.string ⟨u.toArray⟩,.string ⟨o.toArray⟩,.int .i64 id,.int .i64 a,.int .i64 b,.int .i64 c,.string ⟨st.toArray⟩] 50)).alloc (.cells #[.slice none 0 0,.slice none 0 0] 25)).heap[w.heap.size+1+1]?=some (.cells #[.slice none 0 0,.slice none 0 0] 25 (0,0))):=by
  have hz:=heap_newT ((w.alloc (.cells #[.slice ax nx cx,.slice ay ny cy] 25)).alloc (.cells #[.int .i64 8,.string ⟨u.toArray⟩,.string ⟨o.toArray⟩,.int .i64 id,.int .i64 a,.int .i64 b,.int .i64 c,.string ⟨st.toArray⟩] 50)) (.cells #[.slice none 0 0,.slice none 0 0] 25)
  simp only [World.size_alloc] at hz
  exact hz
 have HE:=hD he
 have HS:=hD hs
 obtain⟨s0,s1,f0,f1⟩:=two_T FS.out
 obtain⟨e0,e1,e2,e3,e4,e5,e6,e7⟩:=eightT FE.out
 clear b1 b2 b3 b123 h he hs
 clear hm
 go_enter Tryz.func63,Tryz.ntmps63
 go_wp2_with fail
 refine (rstmay_any H.out HE.out (by omega) HS.out HM).mono ?_
 rintro e w1 ⟨rfl,c1⟩
 replace HB:=hD (below2Z HB.out c1)
 replace H:=hD (H.out.later c1)
 replace FS:=hD (upT FS.out c1)
 replace FE:=hD (FE.out.later c1)
 replace FR:=hD (upT FR.out c1)
 clear s0 s1 f0 f1 e0 e1 e2 e3 e4 e5 e6 e7 c1
 obtain⟨s0,s1,f0,f1⟩:=two_T FS.out
 obtain⟨e0,e1,e2,e3,e4,e5,e6,e7⟩:=eightT FE.out
 obtain⟨r0,r1,g0,g1⟩:=two_T FR.out
 have FR1:=FR
 have bt:=bl_newZ w1 (.cells #[.slice ax nx cx,.slice ay ny cy] 25)
 have FT:=hD (heap_newT w1 (.cells #[.slice ax nx cx,.slice ay ny cy] 25))
 replace HB:=hD (below2Z HB.out bt)
 replace H:=hD (H.out.later bt)
 replace FS:=hD (upT FS.out bt)
 replace FE:=hD (FE.out.later bt)
 replace FR:=hD (upT FR.out bt)
 have hzt:=HB.out.size
 clear bt
 go_upto_region 5 with fail
 have hTw:w.heap.size≤w1.heap.size:=by have:=(Array.getElem?_eq_some_iff.1 FR1.out).1; omega
 have hTR:w1.heap.size ≠ w.heap.size+1+1:=by have:=(Array.getElem?_eq_some_iff.1 FR1.out).1; omega
 have hTS:w1.heap.size ≠ w.heap.size:=by have:=(Array.getElem?_eq_some_iff.1 FR1.out).1; omega
 have hST:w.heap.size ≠ w1.heap.size:=fun e => hTS e.symm
 generalize hW:w1.alloc (.cells #[.slice ax nx cx,.slice ay ny cy] 25)=w1t at HB H FS FE FR FT ⊢
 generalize hT:w1.heap.size=T at FT hTw hTR hTS hST ⊢
 clear s0 s1 f0 f1 e0 e1 e2 e3 e4 e5 e6 e7 r0 r1 g0 g1
 obtain⟨s0,s1,f0,f1⟩:=two_T FS.out
 obtain⟨e0,e1,e2,e3,e4,e5,e6,e7⟩:=eightT FE.out
 obtain⟨r0,r1,g0,g1⟩:=two_T FR.out
 obtain⟨t0,t1,v0,v1⟩:=two_T FT.out
 go_wp2_with fail
 refine (rsdrop_any H.out.2 HS.out u id HD).mono ?_
 rintro e w2 ⟨x',rfl,hx,c2⟩
 obtain⟨ap,np,cp,rfl⟩ : ∃ a n c,x'=.slice a n c:=by obtain⟨a,c,e,-⟩:=RdS.open' hx; exact⟨_,_,_,e⟩
 replace HB:=hD (below2Z HB.out c2)
 replace H:=hD (H.out.later c2)
 replace FS:=hD (upT FS.out c2)
 replace FE:=hD (FE.out.later c2)
 replace FR:=hD (upT FR.out c2)
 replace FT:=hD (upT FT.out c2)
 clear s0 s1 f0 f1 e0 e1 e2 e3 e4 e5 e6 e7 r0 r1 g0 g1 t0 t1 v0 v1 c2
 obtain⟨s0,s1,f0,f1⟩:=two_T FS.out
 obtain⟨e0,e1,e2,e3,e4,e5,e6,e7⟩:=eightT FE.out
 obtain⟨r0,r1,g0,g1⟩:=two_T FR.out
 obtain⟨t0,t1,v0,v1⟩:=two_T FT.out
 have HN:Hid (StAt w2 (.slice ax nx cx) (.slice ap np cp) ⟨t.e,m⟩):=hD ⟨H.out.1,hx⟩
 go_wp2_with fail
 obtain⟨q1,q2,q3⟩:=st_one H.out HB.out hTw FT.out H.out.sl 1 (.slice ap np cp) hTR FR.out
 obtain⟨z1,z2,o0,o1⟩:=st_fin q1 q2 (show w.heap.size≤w.heap.size+1+1 by omega) q3 allSl_nil
 refine bodyPost_ret (v:=.tuple #[.agg #[.slice ax nx cx,.slice ay ny cy],.int .i64 n]) (by simp [results,Tryz.results63,go_sem,o0,o1]) rfl ⟨_,_,rfl,z1,z2⟩

theorem rstdo_any {w:World} {x y:Value} {t:Sta} (h:StAt w x y t) (he:ShortE t.e) (hl:t.e.length≤900) (hs:ShortS t.s) (e:Ev) (hu:e.u.length≤4294967296) (ho:e.o.length≤4294967296) (hst:e.v.st.length≤4294967296) {t':Sta} {n:Nat} (hd:stApply t e=(t',n)) :
  Calls Tryz.prog 63 #[.agg #[x,y],.agg #[.int .i64 e.k,.string ⟨e.u.toArray⟩,.string ⟨e.o.toArray⟩,.int .i64 e.id,.int .i64 e.v.sh,.int .i64 e.v.pr,.int .i64 e.v.si,.string ⟨e.v.st.toArray⟩]] w fun z w' => ∃ x' y',z=.returned (.tuple #[.agg #[x',y'],.int .i64 n])∧StAt w' x' y' t'∧Below w.heap.size w w':=by
 obtain⟨ax,cx,rfl,-⟩:=h.1.open'
 obtain⟨ay,cy,rfl,-⟩:=RdS.open' h.2
 cases hm:stMay t with
 | false =>
  rw [stApply_bad (.inl hm)] at hd
  obtain⟨rfl,rfl⟩:=Prod.mk.inj hd
  exact rstdo_a h he hl hs e.u e.o e.v.st e.id e.v.sh e.v.pr e.v.si hu ho hst e.k hm
 | true =>
  by_cases hb:e.k < 1
  ·rw [stApply_bad (.inr (.inl hb))] at hd
   obtain⟨rfl,rfl⟩:=Prod.mk.inj hd
   exact rstdo_b1 h he hl hs e.u e.o e.v.st e.id e.v.sh e.v.pr e.v.si hu ho hst e.k hm hb
  ·by_cases hb2:8 < e.k
   ·rw [stApply_bad (.inr (.inr hb2))] at hd
    obtain⟨rfl,rfl⟩:=Prod.mk.inj hd
    exact rstdo_b2 h he hl hs e.u e.o e.v.st e.id e.v.sh e.v.pr e.v.si hu ho hst e.k hm hb2
   ·have herr:=fun hn => stApply_err hd hn
    obtain⟨k,u,o,id,v⟩:=e
    try simp only at hb hb2 hu ho hst
    by_cases h6:k≤6
    ·obtain⟨m,j,hr⟩ : ∃ m j,roDo t.e k u o=(m,j):=⟨_,_,rfl⟩
     rw [stApply_do hm (by show 1≤k; omega) h6 hr] at hd
     obtain⟨rfl,rfl⟩:=Prod.mk.inj hd
     by_cases hn:j=0
     ·subst hn
      exact rstdo_c0 h he hl hs u o v.st id v.sh v.pr v.si hu ho hst k hm (by omega) h6 hr
     ·have:=rstdo_cn h he hl hs u o v.st id v.sh v.pr v.si hu ho hst k hm (by omega) h6 hr hn
      rw [herr hn]
      exact this
    ·by_cases h7:k=7
     ·obtain⟨m,j,hr⟩ : ∃ m j,sePut t.s ⟨u,id,v⟩=(m,j):=⟨_,_,rfl⟩
      rw [stApply_put hm h7 hr] at hd
      obtain⟨rfl,rfl⟩:=Prod.mk.inj hd
      subst h7
      by_cases hn:j=0
      ·subst hn
       exact rstdo_d0 h he hl hs u o v.st id v.sh v.pr v.si hu ho hst hm hr
      ·have:=rstdo_dn h he hl hs u o v.st id v.sh v.pr v.si hu ho hst hm hr hn
       rw [herr hn]
       exact this
     ·have h8:k=8:=by omega
      obtain⟨m,j,hr⟩ : ∃ m j,seDrop t.s u id=(m,j):=⟨_,_,rfl⟩
      rw [stApply_drop hm h8 hr] at hd
      obtain⟨rfl,rfl⟩:=Prod.mk.inj hd
      subst h8
      by_cases hn:j=0
      ·subst hn
       exact rstdo_e0 h he hl hs u o v.st id v.sh v.pr v.si hu ho hst hm hr
      ·have:=rstdo_en h he hl hs u o v.st id v.sh v.pr v.si hu ho hst hm hr hn
       rw [herr hn]
       exact this

end Go.Proofs.YtphfinlfabklmaaGreat

end

section

namespace Go.Proofs.YtphfinlfabklmaaGreat
open Go.RowKit

def AllQ (q:Value→Prop) (w:World) (e:TypeId) (v:Value):Prop:=∀ g,v.ownBlock=some g→∃ cur,w.heap[g]?=some (.cells cur e (0,0))∧∀ u ∈ cur.toList,q u

theorem allQ_nil (q:Value→Prop) (w:World) (e:TypeId):AllQ q w e (.slice none 0 0):=fun g h => by cases h

theorem AllQ.kept {q:Value→Prop} {w w':World} {e:TypeId} {v:Value} (h:AllQ q w e v) (hb:∀ g,v.ownBlock=some g→w'.heap[g]?=w.heap[g]?):AllQ q w' e v:=fun g hg => by
 obtain⟨cur,h1,h2⟩:=h g hg
 exact⟨cur,(hb g hg).trans h1,h2⟩

theorem AllQ.later {q:Value→Prop} {w w':World} {e:TypeId} {v:Value} (h:AllQ q w e v) (hb:Below w.heap.size w w'):AllQ q w' e v:=h.kept fun g hg => by
 obtain⟨cur,h1,_⟩:=h g hg
 exact hb.block g (Array.getElem?_eq_some_iff.1 h1).1

section
variable {P:Program} (w:World)

theorem run_append_q (q:Value→Prop) (base:Nat) (t ty e:TypeId) (i:TypeInfo) (z:Value) (size bytes:Nat) (ht:P.underlying t=some (.slice e)) (hi:P.info? e=some i) (hz:i.zero=some z)
  (hsize:i.size=size) (hby:i.bytes=bytes) (hzs:z.cells.size=size) (hsz:0 < size)
  (v:Value) (n:Nat) (xs:List Value) (hown:w.ownsRow base e size v n xs) (hq:AllQ q w e v)
  (a:Addr) (m c:Nat) (news:List Value) (hl:news.length=m * size) (hnews:∀ j u,news[j]?=some u→w.cell? (a.add j)=some u) (h1:∀ u ∈ news,u.oneCell'=true) (hm:0 < m)
  (hqn:∀ u ∈ news,q u) (hqz:∀ k,∀ u ∈ (Builtin.zeroCells z.cells k).toList,q u)
  (h63:n+m≤maxLen) (hbytes:(n+m) * bytes≤140737488355328) (hbase:base≤w.heap.size) :
  ∃ v' w',(Builtin.append_ #[t,t] ty #[v,.slice (some a) m c]).run P w=.ok v' w'∧w'.ownsRow base e size v' (n+m) (xs ++ news)∧w.grownBy w' v.ownBlock∧AllQ q w' e v':=by
 obtain⟨v',w',hr,h2,h3,-⟩:=run_append_own (P:=P) w base t ty e i z size bytes ht hi hz hsize hby hzs hsz v n xs hown a m c news hl hnews h1 h63 hbytes hbase
 refine ⟨v',w',hr,h2,h3,?_⟩
 subst hsize hby
 have made:∀ (cs:Array Value) (k cap:Nat),(∀ u ∈ cs.toList,q u)→AllQ q (w.drew.alloc (.cells cs e)) e (.slice (some ⟨w.heap.size,0,none⟩) k cap):=by
  intro cs k cap hc g hg
  obtain rfl:w.heap.size=g:=Option.some.inj hg
  exact⟨cs,heap_alloc_new w.drew _,hc⟩
 have both:∀ (ys bs:List Value) (k:Nat),(∀ u ∈ ys,q u)→(∀ u ∈ bs,q u)→∀ u ∈ (ys.toArray ++ bs.toArray ++ Builtin.zeroCells z.cells k).toList,q u:=by
  intro ys bs k ha hb u hu
  simp only [Array.toList_append,List.mem_append] at hu
  rcases hu with (hu | hu) | hu
  ·exact ha u hu
  ·exact hb u hu
  ·exact hqz k u hu
 obtain⟨hx,hv⟩:=hown
 cases hv with
 | inl hv =>
  obtain⟨rfl,rfl⟩:=hv
  have hk:=run_append_nil (P:=P) w t ty e i z ht hi hz a m c news hl hnews hm (by unfold maxLen at h63; omega) (Nat.le_trans (by simpa using hbytes) (by decide:140737488355328≤281474976710656))
  rw [hr] at hk
  obtain⟨rfl,rfl⟩:=Result.ok.inj hk
  refine made _ _ _ fun u hu => ?_
  simp only [Array.toList_append,List.mem_append] at hu
  exact hu.elim (hqn u) (hqz _ u)
 | inr hv =>
  obtain⟨g,cap,cur,rfl,hbase2,hg,hnc,hcm,hcs,htake⟩:=hv
  obtain⟨cur',k1,k2⟩:=hq g rfl
  obtain rfl:cur=cur':=by rw [hg] at k1; injection k1 with k1; injection k1
  have hqx:∀ u ∈ xs,q u:=fun u hu => k2 u (List.mem_of_mem_take (htake ▸ hu))
  by_cases hroom:n+m≤cap
  ·have hfit:n * i.size+news.length≤cur.size:=by
    rw [hl,hcs,← Nat.add_mul]
    exact Nat.mul_le_mul_right _ hroom
   have hk:=run_append_room (P:=P) w t ty e i ht hi g n cap cur hg a m c news hl hnews h1 hroom hfit
   rw [hr] at hk
   obtain⟨rfl,rfl⟩:=Result.ok.inj hk
   intro g' hg'
   obtain rfl:g=g':=Option.some.inj hg'
   refine ⟨_,setRow_heap w g cur _ e _ hg,fun u hu => ?_⟩
   simp only [List.mem_append] at hu
   rcases hu with (hu | hu) | hu
   ·exact k2 u (List.mem_of_mem_take hu)
   ·exact hqn u hu
   ·exact k2 u (List.mem_of_mem_drop hu)
  ·have hrd:∀ j u,xs[j]?=some u→w.cell? ((⟨g,0,none⟩ : Addr).add j)=some u:=World.ownsRow.cells (base:=base) (e:=e) (size:=i.size) (n:=n) ⟨hx,.inr ⟨g,cap,cur,rfl,hbase2,hg,hnc,hcm,hcs,htake⟩⟩ rfl
   have hk:=run_append_grow (P:=P) w t ty e i z ht hi hz ⟨g,0,none⟩ n cap xs hx hrd a m c news hl hnews (by omega) (by unfold maxLen at h63; omega) (growslice_fits (by omega) hbytes)
   rw [hr] at hk
   obtain⟨rfl,rfl⟩:=Result.ok.inj hk
   exact made _ _ _ (both xs news _ hqx hqn)

theorem wpList_append_q (q:Value→Prop) {ops:Array Oper} {rest:List Oper} {o:Oper} {a:Act} {Q:Exit→Act→World→Prop} (hgd:o.guard=none) (s x:Operand) (t:TypeId)
  (ho:o.op=.call { callee:=.builtin .append,args:=#[s,x],argTypes:=#[t,t] })
  (base:Nat) (e:TypeId) (i:TypeInfo) (z:Value) (size bytes:Nat) (ht:P.underlying t=some (.slice e)) (hi:P.info? e=some i) (hz:i.zero=some z)
  (hsize:i.size=size) (hby:i.bytes=bytes) (hzs:z.cells.size=size) (hsz:0 < size)
  (v:Value) (n:Nat) (xs:List Value) (hs:a.eval s=v) (hown:w.ownsRow base e size v n xs) (hq:AllQ q w e v)
  (ad:Addr) (m c:Nat) (news:List Value) (hx:a.eval x=.slice (some ad) m c) (hl:news.length=m * size) (hnews:∀ j u,news[j]?=some u→w.cell? (ad.add j)=some u) (h1:∀ u ∈ news,u.oneCell'=true) (hm:0 < m)
  (hqn:∀ u ∈ news,q u) (hqz:∀ k,∀ u ∈ (Builtin.zeroCells z.cells k).toList,q u)
  (h63:n+m≤maxLen) (hbytes:(n+m) * bytes≤140737488355328) (hbase:base≤w.heap.size)
  (h:∀ v' w',w'.ownsRow base e size v' (n+m) (xs ++ news)→w.grownBy w' v.ownBlock→AllQ q w' e v'→wpList P ops Q rest (a.put o.dst v') w'):wpList P ops Q (o :: rest) a w :=
 wpList_plain hgd fun _ hK => by
  obtain⟨v',w',hr,h2,h3,h4⟩:=run_append_q (P:=P) w q base t o.type e i z size bytes ht hi hz hsize hby hzs hsz v n xs hown hq ad m c news hl hnews h1 hm hqn hqz h63 hbytes hbase
  unfold Oper.wp execOp
  simp only [ho,resolve,invoke,builtin,Sem.run_bind,Sem.run_pure,Result.andThen_ok,List.map_toArray,List.map_cons,List.map_nil,hs,hx,hr]
  exact hK _ _ (h v' w' h2 h3 h4)

end

def noStr (v:Value):Prop:=∀ s:ByteArray,v ≠ .string s

theorem rdS_far {α:Type} {vals:α→List Value} {sz:Nat} {zero:α} {w w':World} {v:Value} {t:List α} (h:RdS vals sz zero w v t) (hf:∀ r,∃ s,(vals r)[0]?=some (.string s)) {x:Value} {e:TypeId} (hq:AllQ noStr w e x) (hg:w.grownBy w' x.ownBlock):RdS vals sz zero w' v t:=by
 obtain⟨a,cap,h1,h2,h3,h4,h5⟩:=h
 refine ⟨a,cap,h1,h2,h3,h4,?_⟩
 rcases h5 with h5 | ⟨b,off,e1,hlt,hc⟩
 ·exact .inl h5
 ·by_cases ht:t=[]
  ·exact .inl ht
  ·have hne:some b ≠ x.ownBlock:=by
    intro hb
    obtain⟨cur,k1,k2⟩:=hq b hb.symm
    have h0:=hc 0 (List.length_pos_iff.2 ht)
    obtain⟨s,hs⟩:=hf (t.getD 0 zero)
    have hx:=h0 0 _ hs
    rw [cell_of_row w b _ cur _ (0,0) k1] at hx
    exact k2 _ (List.mem_of_getElem? (by simpa using hx)) s rfl
   exact .inr ⟨b,off,e1,Nat.lt_of_lt_of_le hlt hg.size,fun i hi j u hu => (World.cell?_of_block (hg.block b hlt hne)).trans (hc i hi j u hu)⟩

theorem StAt.far {w w':World} {x y:Value} {t:Sta} (h:StAt w x y t) {v:Value} {e:TypeId} (hq:AllQ noStr w e v) (hg:w.grownBy w' v.ownBlock):StAt w' x y t :=
 ⟨(rdS_far h.1.rdS (fun _ => ⟨_,rfl⟩) hq hg).ents,rdS_far h.2 (fun _ => ⟨_,rfl⟩) hq hg⟩

end Go.Proofs.YtphfinlfabklmaaGreat

end

section

namespace Go.Proofs.YtphfinlfabklmaaGreat
open Go.ChangeShapes Go.WideShapes Go.ChangeAt Go.RowKit Go.Deep

theorem ownN_blocks {w w':World} {base:Nat} {v:Value} {t:List Int} (h:OwnS numVals 1 52 w base v t) (hb:∀ g,base≤g→w'.heap[g]?=w.heap[g]?):OwnS numVals 1 52 w' base v t:=by
 refine ⟨h.1,?_⟩
 rcases h.2 with h' | ⟨g,cap,cur,h1,h2,h3,h4⟩
 ·exact .inl h'
 ·exact .inr ⟨g,cap,cur,h1,h2,(hb g h2).trans h3,h4⟩

theorem nums_take {t:Sta} {l:List Ev} {k:Nat} (hk:k < l.length):numsOf t (l.take (k+1))=numsOf t (l.take k) ++ [((stApply (stAll t (l.take k)).1 (l.getD k Ev.zero)).2:Int)]:=by
 unfold numsOf
 rw [List.take_add_one,List.getElem?_eq_getElem hk,List.getD_eq_getElem?_getD,List.getElem?_eq_getElem hk,Option.toList_some,stAll_snoc,List.map_append]
 rfl

theorem twoR {X:World} {B:Nat} {p q:Value} (h:CellsAt X B 0 [p,q]):X.cell? ⟨B,0,none⟩=some p∧X.cell? ⟨B,1,none⟩=some q:=by
 have h0:=h 0 _ rfl
 have h1:=h 1 _ rfl
 simp only [Nat.zero_add] at h0 h1
 exact⟨h0,h1⟩

theorem row_two {w:World} {B:Nat} {x y:Value} {T:TypeId} (h:w.heap[B]?=some (.cells #[x,y] T (0,0))):CellsAt w B 0 [x,y]:=by
 obtain⟨c0,c1,-,-⟩:=two_T h
 intro j v hv
 match j,hv with
 | 0,hv => simp at hv; subst hv; exact c0
 | 1,hv => simp at hv; subst hv; exact c1
 | j+2,hv => simp at hv

def raQ (X:World) (A B off:Nat) (x y:Value) (e:Ev):Prop:=CellsAt X A 0 [x,y]∧CellsAt X B off (evVals e)

theorem raQ_up {W X:World} {A B off:Nat} {x y:Value} {e:Ev} (hb:Below W.heap.size W X) (h:raQ W A B off x y e):raQ X A B off x y e:=⟨h.1.later hb,h.2.later hb⟩

theorem num_zero:∀ k,∀ u ∈ (Builtin.zeroCells (Value.int .i64 0).cells k).toList,noStr u:=by
 intro k u hu s e
 subst e
 simp [Builtin.zeroCells,Value.cells] at hu
 obtain⟨a,_,h⟩:=hu
 rw [Nat.mod_one] at h
 cases h

theorem st_box {w0 W:World} {x y:Value} {t:Sta} (h:StAt W x y t) (hb:Below w0.heap.size w0 W) {R:Nat} (hR:w0.heap.size≤R) {r0 r1:Value} {T:TypeId} (hr:W.heap[R]?=some (.cells #[r0,r1] T (0,0))) (hs:AllSl #[r0,r1]) :
  StAt ((W.setCell ⟨R,0,none⟩ x).setCell ⟨R,1,none⟩ y) x y t∧Below w0.heap.size w0 ((W.setCell ⟨R,0,none⟩ x).setCell ⟨R,1,none⟩ y)∧((W.setCell ⟨R,0,none⟩ x).setCell ⟨R,1,none⟩ y).heap[R]?=some (.cells #[x,y] T (0,0)):=by
 have k0:=heap_setCell_same W R 0 _ _ x hr
 have k1:=heap_setCell_same _ R 1 _ _ y k0
 obtain⟨z1,z2,-,-⟩:=st_fin h hb hR hr hs
 exact⟨z1,z2,k1⟩

theorem rstall_any {w:World} {x y v:Value} {t:Sta} (h:StAt w x y t) (hok:StOK t) (hel:t.e.length≤200) {l:List Ev} (hv:Evs w v l) (hll:l.length≤100) (hsh:∀ e ∈ l,evShort e) :
  Calls Tryz.prog 62 #[.agg #[x,y],v] w fun z w' => ∃ x' y' u,z=.returned (.tuple #[.agg #[x',y'],u])∧StAt w' x' y' (stAll t l).1∧Nums w' u (numsOf t l)∧Below w.heap.size w w':=by
 have b1:=bl_newZ w (.cells #[x,y] 25)
 have b2:=bl_newZ (w.alloc (.cells #[x,y] 25)) (.cells #[.slice none 0 0,.slice none 0 0] 25)
 have HB:=hD (below2Z b1 b2)
 have H:=hD (h.later (below2Z b1 b2))
 have HV:=hD hv
 have FS:=hD (upT (heap_newT w (.cells #[x,y] 25)) b2)
 have FR:Hid (((w.alloc (.cells #[x,y] 25)).alloc (.cells #[.slice none 0 0,.slice none 0 0] 25)).heap[w.heap.size+1]?=some (.cells #[.slice none 0 0,.slice none 0 0] 25 (0,0))):=by
  have hz:=heap_newT (w.alloc (.cells #[x,y] 25)) (.cells #[.slice none 0 0,.slice none 0 0] 25)
  simp only [World.size_alloc] at hz
  exact hz
 have HOK:=hD hok
 have HSH:=hD hsh
 obtain⟨av,cv,rfl,-⟩:=RdS.open' hv
 have hnl:=numsOf_len t l
 have hzS:((w.alloc (.cells #[x,y] 25)).alloc (.cells #[.slice none 0 0,.slice none 0 0] 25)).heap.size=w.heap.size+2:=by simp
 clear b1 b2 h hv hok hsh
 obtain⟨ti,hti,htz,hts,htb⟩:=info_parts numOK.info
 go_enter Tryz.func62,Tryz.ntmps62
 go_wp2_with fail
 go_loopw [6,7] (fun sl i wr => ∃ (k:Nat) (xk yk:Value),k≤l.length∧i=.int .i64 k∧Hid (wr.heap[w.heap.size]?=some (.cells #[xk,yk] 25 (0,0)))∧Hid (StAt wr xk yk (stAll t (l.take k)).1)∧Hid (OwnS numVals 1 52 wr (w.heap.size+2) sl (numsOf t (l.take k)))∧Hid (wr.heap[w.heap.size+1]?=some (.cells #[.slice none 0 0,.slice none 0 0] 25 (0,0)))∧Hid (StOK (stAll t (l.take k)).1)∧(stAll t (l.take k)).1.e.length≤t.e.length+2 * k∧Hid (Below w.heap.size w wr)∧w.heap.size+2≤wr.heap.size∧Hid (AllQ noStr wr 52 sl)) (fun _ i _ => l.length - (intOf i).toNat)
 case atStart => exact⟨0,x,y,by omega,rfl,FS,H,ownS_nil _ _,FR,HOK,by simp [stAll],HB,by omega,allQ_nil _ _ _⟩
 case round =>
  obtain⟨k,xk,yk,hk,rfl,GS,GH,GN,GR,GO,hlen,GB,hsz,GQ⟩:=hrel
  by_cases hlt:k < l.length
  ·obtain⟨vb,vo,rfl,hc⟩:=RdS.row HV.out GB.out k hlt
   have hes:=HSH.out _ (by rw [evgetD hlt]; exact List.getElem_mem hlt:l.getD k Ev.zero ∈ l)
   have htk:=stAll_take (t:=t) hlt
   have hng:=nums_take (t:=t) hlt
   obtain⟨⟨kk,u,o,id,⟨a,b,c,st⟩⟩,hr⟩ : ∃ r,l.getD k Ev.zero=r:=⟨_,rfl⟩
   rw [hr] at hc hes htk hng
   obtain⟨tk,htk0⟩ : ∃ tk,(stAll t (l.take k)).1=tk:=⟨_,rfl⟩
   rw [htk0] at GH GO hlen htk hng
   obtain⟨t2,n2,hap⟩ : ∃ t2 n2,stApply tk ⟨kk,u,o,id,⟨a,b,c,st⟩⟩=(t2,n2):=⟨_,_,rfl⟩
   rw [hap] at htk hng
   simp only at htk hng
   obtain⟨hs1,hs2,hs3⟩:=hes
   try simp only at hs1 hs2 hs3
   have hkl:(numsOf t (l.take k)).length≤100:=by rw [numsOf_len,List.length_take]; omega
   have HAP:=hD hap
   have HTK:=hD htk
   have HNG:=hD hng
   have GO2:=hD (stOK_next GO.out hap)
   have hlen2:=stLen_next hap
   have hnn:(0:Int)≤(k:Int):=by omega
   have hli:(k:Int) < (l.length:Int):=by omega
   obtain⟨ax,cx,rfl,-⟩:=GH.out.1.open'
   obtain⟨ay,cy,rfl,-⟩:=RdS.open' GH.out.2
   have D:=hD (show raQ wr w.heap.size vb (vo+k * 8) (.slice ax tk.e.length cx) (.slice ay tk.s.length cy) ⟨kk,u,o,id,⟨a,b,c,st⟩⟩ from ⟨row_two GS.out,hc⟩)
   clear hr hc hap htk hng htk0
   go_wp2_with fail
   go_cut [8,9] from 16 to 25 (fun p z wx => ∃ (B:Nat) (a4 a5:Option Addr) (c4 c5:Nat),p=.pointer (some ⟨B,0,none⟩)∧z=.int .i64 n2∧Hid (wx.heap[B]?=some (.cells #[.slice a4 t2.e.length c4,.slice a5 t2.s.length c5] 25 (0,0)))∧Hid (StAt wx (.slice a4 t2.e.length c4) (.slice a5 t2.s.length c5) t2)∧Hid (Below wr.heap.size wr wx))
   case first =>
    have s0q:∀ X,raQ X w.heap.size vb (vo+k * 8) (.slice ax tk.e.length cx) (.slice ay tk.s.length cy) ⟨kk,u,o,id,⟨a,b,c,st⟩⟩→X.cell? ⟨w.heap.size,0,none⟩=some (.slice ax tk.e.length cx):=fun X hx => (twoR hx.1).1
    have s1q:∀ X,raQ X w.heap.size vb (vo+k * 8) (.slice ax tk.e.length cx) (.slice ay tk.s.length cy) ⟨kk,u,o,id,⟨a,b,c,st⟩⟩→X.cell? ⟨w.heap.size,1,none⟩=some (.slice ay tk.s.length cy):=fun X hx => (twoR hx.1).2
    have e0q:∀ X,raQ X w.heap.size vb (vo+k * 8) (.slice ax tk.e.length cx) (.slice ay tk.s.length cy) ⟨kk,u,o,id,⟨a,b,c,st⟩⟩→X.cell? ⟨vb,vo+k * 8,none⟩=some (.int .i64 kk):=fun X hx => (eightAt hx.2).1
    have e1q:∀ X,raQ X w.heap.size vb (vo+k * 8) (.slice ax tk.e.length cx) (.slice ay tk.s.length cy) ⟨kk,u,o,id,⟨a,b,c,st⟩⟩→X.cell? ⟨vb,vo+k * 8+1,none⟩=some (.string ⟨u.toArray⟩):=fun X hx => (eightAt hx.2).2.1
    have e2q:∀ X,raQ X w.heap.size vb (vo+k * 8) (.slice ax tk.e.length cx) (.slice ay tk.s.length cy) ⟨kk,u,o,id,⟨a,b,c,st⟩⟩→X.cell? ⟨vb,vo+k * 8+2,none⟩=some (.string ⟨o.toArray⟩):=fun X hx => (eightAt hx.2).2.2.1
    have e3q:∀ X,raQ X w.heap.size vb (vo+k * 8) (.slice ax tk.e.length cx) (.slice ay tk.s.length cy) ⟨kk,u,o,id,⟨a,b,c,st⟩⟩→X.cell? ⟨vb,vo+k * 8+3,none⟩=some (.int .i64 id):=fun X hx => (eightAt hx.2).2.2.2.1
    have e4q:∀ X,raQ X w.heap.size vb (vo+k * 8) (.slice ax tk.e.length cx) (.slice ay tk.s.length cy) ⟨kk,u,o,id,⟨a,b,c,st⟩⟩→X.cell? ⟨vb,vo+k * 8+4,none⟩=some (.int .i64 a):=fun X hx => (eightAt hx.2).2.2.2.2.1
    have e5q:∀ X,raQ X w.heap.size vb (vo+k * 8) (.slice ax tk.e.length cx) (.slice ay tk.s.length cy) ⟨kk,u,o,id,⟨a,b,c,st⟩⟩→X.cell? ⟨vb,vo+k * 8+5,none⟩=some (.int .i64 b):=fun X hx => (eightAt hx.2).2.2.2.2.2.1
    have e6q:∀ X,raQ X w.heap.size vb (vo+k * 8) (.slice ax tk.e.length cx) (.slice ay tk.s.length cy) ⟨kk,u,o,id,⟨a,b,c,st⟩⟩→X.cell? ⟨vb,vo+k * 8+6,none⟩=some (.int .i64 c):=fun X hx => (eightAt hx.2).2.2.2.2.2.2.1
    have e7q:∀ X,raQ X w.heap.size vb (vo+k * 8) (.slice ax tk.e.length cx) (.slice ay tk.s.length cy) ⟨kk,u,o,id,⟨a,b,c,st⟩⟩→X.cell? ⟨vb,vo+k * 8+7,none⟩=some (.string ⟨st.toArray⟩):=fun X hx => (eightAt hx.2).2.2.2.2.2.2.2
    refine wp_region_held_drew (S:=(fun X => raQ X w.heap.size vb (vo+k * 8) (.slice ax tk.e.length cx) (.slice ay tk.s.length cy) ⟨kk,u,o,id,⟨a,b,c,st⟩⟩)) (by kernel_rfl) ?_ (fun hHeld => ?_)
    ·exact raQ_up (Below.refl _ _).drew D.out
    refine wpAnyH_take (i:=0) (oi:=⟨some 17,.load 25 (.tmp 2),25,"ref.go:43",#[],none⟩) (v:=?_) rfl (by as_aux_lemma => kernel_rfl) (by as_aux_lemma => kernel_rfl) (by as_aux_lemma => kernel_rfl) (fun _ _ _ h => h) (Or.inl ⟨by rfl,?_⟩) (by assumption) ?_
    rotate_left
    ·intro w' hSw
     try dsimp only at hSw
     go_simp
     try with_reducible rfl
    try simp only [Act.put,List.setIfInBounds_toArray,List.set_cons_zero,List.set_cons_succ]
    refine wpAnyH_take (i:=1) (oi:=⟨some 18,.move (.tmp 1),59,"ref.go:43",#[],none⟩) (v:=?_) rfl (by as_aux_lemma => kernel_rfl) (by as_aux_lemma => kernel_rfl) (by as_aux_lemma => kernel_rfl) (fun _ _ _ h => h) (Or.inl ⟨by rfl,?_⟩) (by assumption) ?_
    rotate_left
    ·intro w' hSw
     try dsimp only at hSw
     go_simp
     try with_reducible rfl
    try simp only [Act.put,List.setIfInBounds_toArray,List.set_cons_zero,List.set_cons_succ]
    refine wpAnyH_take (i:=2) (oi:=⟨some 19,.move (.tmp 7),3,"ref.go:43",#[],none⟩) (v:=?_) rfl (by as_aux_lemma => kernel_rfl) (by as_aux_lemma => kernel_rfl) (by as_aux_lemma => kernel_rfl) (fun _ _ _ h => h) (Or.inl ⟨by rfl,?_⟩) (by assumption) ?_
    rotate_left
    ·intro w' hSw
     try dsimp only at hSw
     go_simp
     try with_reducible rfl
    try simp only [Act.put,List.setIfInBounds_toArray,List.set_cons_zero,List.set_cons_succ]
    refine wpAnyH_take (i:=3) (oi:=⟨some 20,.indexAddr 59 (.tmp 18) (.tmp 19),0,"ref.go:43",#[⟨1,.data⟩,⟨2,.data⟩],none⟩) (v:=?_) rfl (by as_aux_lemma => kernel_rfl) (by as_aux_lemma => kernel_rfl) (by as_aux_lemma => kernel_rfl) (fun _ _ _ h => h) (Or.inl ⟨by rfl,?_⟩) (by assumption) ?_
    rotate_left
    ·intro w' hSw
     try dsimp only at hSw
     go_simp
     try with_reducible rfl
    try simp only [Act.put,List.setIfInBounds_toArray,List.set_cons_zero,List.set_cons_succ]
    refine wpAnyH_take (i:=4) (oi:=⟨some 21,.load 50 (.tmp 20),50,"ref.go:43",#[⟨3,.data⟩],none⟩) (v:=?_) rfl (by as_aux_lemma => kernel_rfl) (by as_aux_lemma => kernel_rfl) (by as_aux_lemma => kernel_rfl) (fun _ _ _ h => h) (Or.inl ⟨by rfl,?_⟩) (by assumption) ?_
    rotate_left
    ·intro w' hSw
     try dsimp only at hSw
     go_simp
     try with_reducible rfl
    try simp only [Act.put,List.setIfInBounds_toArray,List.set_cons_zero,List.set_cons_succ]
    refine wpAnyH_ready (rs:=[5,9]) (by as_aux_lemma => kernel_rfl) (by simp) ?_
    refine AllReadyH.cons (o:=⟨some 22,.call { callee:=.value (.func 63),args:=#[.tmp 17,.tmp 21],argTypes:=#[25,50] },53,"ref.go:43",#[⟨0,.data⟩,⟨4,.data⟩],none⟩) rfl (fun Kx hK => ?_) (AllReadyH.cons (o:=⟨some 8,.alloc 25,0,"ref.go:43",#[],none⟩) rfl (fun Kx hK => ?_) AllReadyH.nil)
    ·skip
     go_simp
     refine (rstdo_any (GH.out.later (Below.refl _ _).drew) GO.out.1 (by omega) GO.out.2 ⟨kk,u,o,id,⟨a,b,c,st⟩⟩ hs1 hs2 hs3 HAP.out).mono ?_
     rintro e X1 ⟨x4,y4,rfl,h4,b4⟩
     obtain⟨a4,c4,rfl,-⟩:=h4.1.open'
     obtain⟨a5,c5,rfl,-⟩:=RdS.open' h4.2
     have FK:=hD (below2Z (Below.refl _ _).drew b4)
     have H4:=hD h4
     go_wp2_with fail
     refine hK.out _ _ ?_ (fun hHeld2 => ?_)
     ·exact raQ_up FK.out D.out
     clear hK Kx hHeld
     have hHeld:=hHeld2
     clear hHeld2
     try simp only [Act.put,List.setIfInBounds_toArray,List.set_cons_zero,List.set_cons_succ]
     refine wpAnyH_take (i:=6) (oi:=⟨some 16,.move (.tmp 22),53,"ref.go:43",#[⟨5,.data⟩],none⟩) (v:=?_) rfl (by as_aux_lemma => kernel_rfl) (by as_aux_lemma => kernel_rfl) (by as_aux_lemma => kernel_rfl) (fun _ _ _ h => h) (Or.inl ⟨by rfl,?_⟩) (by assumption) ?_
     rotate_left
     ·intro w' hSw
      try dsimp only at hSw
      go_simp
      try with_reducible rfl
     try simp only [Act.put,List.setIfInBounds_toArray,List.set_cons_zero,List.set_cons_succ]
     refine wpAnyH_take (i:=7) (oi:=⟨some 23,.extract (.tmp 16) 0,25,"ref.go:43",#[⟨6,.data⟩],none⟩) (v:=?_) rfl (by as_aux_lemma => kernel_rfl) (by as_aux_lemma => kernel_rfl) (by as_aux_lemma => kernel_rfl) (fun _ _ _ h => h) (Or.inl ⟨by rfl,?_⟩) (by assumption) ?_
     rotate_left
     ·intro w' hSw
      try dsimp only at hSw
      go_simp
      try with_reducible rfl
     try simp only [Act.put,List.setIfInBounds_toArray,List.set_cons_zero,List.set_cons_succ]
     refine wpAnyH_take (i:=8) (oi:=⟨some 24,.extract (.tmp 16) 1,52,"ref.go:43",#[⟨6,.data⟩,⟨10,.gcOnly .lateStores⟩],none⟩) (v:=?_) rfl (by as_aux_lemma => kernel_rfl) (by as_aux_lemma => kernel_rfl) (by as_aux_lemma => kernel_rfl) (fun _ _ _ h => h) (Or.inl ⟨by rfl,?_⟩) (by assumption) ?_
     rotate_left
     ·intro w' hSw
      try dsimp only at hSw
      go_simp
      try with_reducible rfl
     try simp only [Act.put,List.setIfInBounds_toArray,List.set_cons_zero,List.set_cons_succ]
     refine wpAnyH_ready (rs:=[9]) (by as_aux_lemma => kernel_rfl) (by simp) ?_
     refine AllReadyH.cons (o:=⟨some 8,.alloc 25,0,"ref.go:43",#[],none⟩) rfl (fun Kx hK => ?_) AllReadyH.nil
     go_simp
     have bN:=bl_newZ X1 (.cells #[.slice none 0 0,.slice none 0 0] 25)
     have FP2:=hD (heap_newT X1 (.cells #[.slice none 0 0,.slice none 0 0] 25))
     have hP:wr.heap.size≤X1.heap.size:=FK.out.size
     replace H4:=hD (H4.out.later bN)
     replace FK:=hD (below2Z FK.out bN)
     clear bN h4 b4
     refine hK.out _ _ ?_ (fun hHeld2 => ?_)
     ·exact raQ_up FK.out D.out
     clear hK Kx hHeld
     have hHeld:=hHeld2
     clear hHeld2
     try simp only [Act.put,List.setIfInBounds_toArray,List.set_cons_zero,List.set_cons_succ]
     generalize X1.alloc (.cells #[.slice none 0 0,.slice none 0 0] 25)=X6 at FP2 FK H4 hHeld ⊢
     generalize X1.heap.size=bP at FP2 hP ⊢
     have FP:=FP2
     clear FP2
     obtain⟨p0,p1,g0,g1⟩:=two_T FP.out
     obtain⟨z1,z2,z3⟩:=st_box H4.out FK.out hP FP.out allSl_nil
     have Z1:=hD z1
     have Z2:=hD z2
     have Z3:=hD z3
     clear z1 z2 z3
     refine wpAnyH_ready (rs:=[10]) (by as_aux_lemma => kernel_rfl) (by simp) ?_
     refine AllReadyH.cons (o:=⟨none,.store 25 (.tmp 8) (.tmp 23),0,"ref.go:43",#[⟨9,.data⟩,⟨7,.data⟩,⟨5,.chain⟩,⟨0,.phase⟩,⟨1,.phase⟩,⟨2,.phase⟩,⟨3,.phase⟩,⟨4,.phase⟩,⟨5,.phase⟩,⟨6,.phase⟩,⟨7,.phase⟩,⟨8,.textOnly .lateStores⟩,⟨9,.phase⟩],none⟩) rfl (fun Kx hK => ?_) AllReadyH.nil
     go_simp
     refine hK.out _ _ ?_ (fun hHeld2 => ?_)
     ·exact raQ_up Z2.out D.out
     clear hK Kx hHeld
     have hHeld:=hHeld2
     clear hHeld2
     try simp only [Act.put,List.setIfInBounds_toArray,List.set_cons_zero,List.set_cons_succ]
     refine wpAnyH_take (i:=11) (oi:=⟨some 9,.assign (.tmp 24),52,"ref.go:43",#[⟨8,.data⟩,⟨10,.chain⟩,⟨0,.phase⟩,⟨1,.phase⟩,⟨2,.phase⟩,⟨3,.phase⟩,⟨4,.phase⟩,⟨5,.phase⟩,⟨6,.phase⟩,⟨7,.phase⟩,⟨8,.phase⟩,⟨9,.phase⟩,⟨10,.phase⟩],none⟩) (v:=?_) rfl (by as_aux_lemma => kernel_rfl) (by as_aux_lemma => kernel_rfl) (by as_aux_lemma => kernel_rfl) (fun _ _ _ h => h) (Or.inl ⟨by rfl,?_⟩) (by assumption) ?_
     rotate_left
     ·intro w' hSw
      try dsimp only at hSw
      go_simp
      try with_reducible rfl
     try simp only [Act.put,List.setIfInBounds_toArray,List.set_cons_zero,List.set_cons_succ]
     refine wpAnyH_done (by kernel_rfl) ?_ _
     go_wp2_with fail
     go_meet
     exact⟨bP,a4,a5,c4,c5,rfl,rfl,Z3,Z1,Z2⟩
    ·skip
     go_simp
     have FN:=hD (below2Z (bl_newZ wr (.cells #[.slice none 0 0,.slice none 0 0] 25)) (Below.refl _ _).drew)
     have FP2:=hD (upT (heap_newT wr (.cells #[.slice none 0 0,.slice none 0 0] 25)) (Below.refl _ _).drew)
     have hP:wr.heap.size≤wr.heap.size:=Nat.le_refl _
     refine hK.out _ _ ?_ (fun hHeld2 => ?_)
     ·exact raQ_up FN.out D.out
     clear hK Kx hHeld
     have hHeld:=hHeld2
     clear hHeld2
     try simp only [Act.put,List.setIfInBounds_toArray,List.set_cons_zero,List.set_cons_succ]
     generalize (wr.alloc (.cells #[.slice none 0 0,.slice none 0 0] 25)).drew=X5 at FP2 FN ⊢
     refine wpAnyH_ready (rs:=[5]) (by as_aux_lemma => kernel_rfl) (by simp) ?_
     refine AllReadyH.cons (o:=⟨some 22,.call { callee:=.value (.func 63),args:=#[.tmp 17,.tmp 21],argTypes:=#[25,50] },53,"ref.go:43",#[⟨0,.data⟩,⟨4,.data⟩],none⟩) rfl (fun Kx hK => ?_) AllReadyH.nil
     go_simp
     refine (rstdo_any (GH.out.later FN.out) GO.out.1 (by omega) GO.out.2 ⟨kk,u,o,id,⟨a,b,c,st⟩⟩ hs1 hs2 hs3 HAP.out).mono ?_
     rintro e X6 ⟨x4,y4,rfl,h4,b4⟩
     obtain⟨a4,c4,rfl,-⟩:=h4.1.open'
     obtain⟨a5,c5,rfl,-⟩:=RdS.open' h4.2
     have FK:=hD (below2Z FN.out b4)
     have H4:=hD h4
     have FP:=hD (upT FP2.out b4)
     clear FP2
     go_wp2_with fail
     refine hK.out _ _ ?_ (fun hHeld2 => ?_)
     ·exact raQ_up FK.out D.out
     clear hK Kx hHeld
     have hHeld:=hHeld2
     clear hHeld2
     try simp only [Act.put,List.setIfInBounds_toArray,List.set_cons_zero,List.set_cons_succ]
     refine wpAnyH_take (i:=6) (oi:=⟨some 16,.move (.tmp 22),53,"ref.go:43",#[⟨5,.data⟩],none⟩) (v:=?_) rfl (by as_aux_lemma => kernel_rfl) (by as_aux_lemma => kernel_rfl) (by as_aux_lemma => kernel_rfl) (fun _ _ _ h => h) (Or.inl ⟨by rfl,?_⟩) (by assumption) ?_
     rotate_left
     ·intro w' hSw
      try dsimp only at hSw
      go_simp
      try with_reducible rfl
     try simp only [Act.put,List.setIfInBounds_toArray,List.set_cons_zero,List.set_cons_succ]
     refine wpAnyH_take (i:=7) (oi:=⟨some 23,.extract (.tmp 16) 0,25,"ref.go:43",#[⟨6,.data⟩],none⟩) (v:=?_) rfl (by as_aux_lemma => kernel_rfl) (by as_aux_lemma => kernel_rfl) (by as_aux_lemma => kernel_rfl) (fun _ _ _ h => h) (Or.inl ⟨by rfl,?_⟩) (by assumption) ?_
     rotate_left
     ·intro w' hSw
      try dsimp only at hSw
      go_simp
      try with_reducible rfl
     try simp only [Act.put,List.setIfInBounds_toArray,List.set_cons_zero,List.set_cons_succ]
     refine wpAnyH_take (i:=8) (oi:=⟨some 24,.extract (.tmp 16) 1,52,"ref.go:43",#[⟨6,.data⟩,⟨10,.gcOnly .lateStores⟩],none⟩) (v:=?_) rfl (by as_aux_lemma => kernel_rfl) (by as_aux_lemma => kernel_rfl) (by as_aux_lemma => kernel_rfl) (fun _ _ _ h => h) (Or.inl ⟨by rfl,?_⟩) (by assumption) ?_
     rotate_left
     ·intro w' hSw
      try dsimp only at hSw
      go_simp
      try with_reducible rfl
     try simp only [Act.put,List.setIfInBounds_toArray,List.set_cons_zero,List.set_cons_succ]
     obtain⟨p0,p1,g0,g1⟩:=two_T FP.out
     obtain⟨z1,z2,z3⟩:=st_box H4.out FK.out hP FP.out allSl_nil
     have Z1:=hD z1
     have Z2:=hD z2
     have Z3:=hD z3
     clear z1 z2 z3
     refine wpAnyH_ready (rs:=[10]) (by as_aux_lemma => kernel_rfl) (by simp) ?_
     refine AllReadyH.cons (o:=⟨none,.store 25 (.tmp 8) (.tmp 23),0,"ref.go:43",#[⟨9,.data⟩,⟨7,.data⟩,⟨5,.chain⟩,⟨0,.phase⟩,⟨1,.phase⟩,⟨2,.phase⟩,⟨3,.phase⟩,⟨4,.phase⟩,⟨5,.phase⟩,⟨6,.phase⟩,⟨7,.phase⟩,⟨8,.textOnly .lateStores⟩,⟨9,.phase⟩],none⟩) rfl (fun Kx hK => ?_) AllReadyH.nil
     go_simp
     refine hK.out _ _ ?_ (fun hHeld2 => ?_)
     ·exact raQ_up Z2.out D.out
     clear hK Kx hHeld
     have hHeld:=hHeld2
     clear hHeld2
     try simp only [Act.put,List.setIfInBounds_toArray,List.set_cons_zero,List.set_cons_succ]
     refine wpAnyH_take (i:=11) (oi:=⟨some 9,.assign (.tmp 24),52,"ref.go:43",#[⟨8,.data⟩,⟨10,.chain⟩,⟨0,.phase⟩,⟨1,.phase⟩,⟨2,.phase⟩,⟨3,.phase⟩,⟨4,.phase⟩,⟨5,.phase⟩,⟨6,.phase⟩,⟨7,.phase⟩,⟨8,.phase⟩,⟨9,.phase⟩,⟨10,.phase⟩],none⟩) (v:=?_) rfl (by as_aux_lemma => kernel_rfl) (by as_aux_lemma => kernel_rfl) (by as_aux_lemma => kernel_rfl) (fun _ _ _ h => h) (Or.inl ⟨by rfl,?_⟩) (by assumption) ?_
     rotate_left
     ·intro w' hSw
      try dsimp only at hSw
      go_simp
      try with_reducible rfl
     try simp only [Act.put,List.setIfInBounds_toArray,List.set_cons_zero,List.set_cons_succ]
     refine wpAnyH_done (by kernel_rfl) ?_ _
     go_wp2_with fail
     go_meet
     exact⟨wr.heap.size,a4,a5,c4,c5,rfl,rfl,Z3,Z1,Z2⟩
   case rest =>
    obtain⟨B,a4,a5,c4,c5,rfl,rfl,FB,H4,HN⟩:=hcut
    replace GS:=hD (upT GS.out HN.out)
    replace GR:=hD (upT GR.out HN.out)
    replace GN:=hD (GN.out.later HN.out)
    replace GQ:=hD (GQ.out.later HN.out)
    replace GB:=hD (below2Z GB.out HN.out)
    have hsz2:w.heap.size+2≤wc.heap.size:=Nat.le_trans hsz HN.out.size
    clear HN GH D
    obtain⟨p0,p1,-,-⟩:=two_T FB.out
    obtain⟨s0,s1,v0,v1⟩:=two_T GS.out
    obtain⟨z1,z2,z3⟩:=st_box H4.out GB.out (Nat.le_refl _) GS.out (allSl_two ⟨_,_,_,rfl⟩ ⟨_,_,_,rfl⟩)
    have zo:∀ g,w.heap.size+1≤g→((wc.setCell ⟨w.heap.size,0,none⟩ (.slice a4 t2.e.length c4)).setCell ⟨w.heap.size,1,none⟩ (.slice a5 t2.s.length c5)).heap[g]?=wc.heap[g]?:=fun g hg => by
     rw [heap_setCell_other _ ⟨w.heap.size,1,none⟩ g _ (show g ≠ w.heap.size by omega),heap_setCell_other _ ⟨w.heap.size,0,none⟩ g _ (show g ≠ w.heap.size by omega)]
    have z4:=(zo (w.heap.size+1) (Nat.le_refl _)).trans GR.out
    have z5:=ownN_blocks GN.out (fun g hg => zo g (by omega))
    have z7:=GQ.out.kept (fun g hg => zo g (by have:=(World.ownsRow.lt GN.out g hg).1; omega))
    have z6:w.heap.size+2≤((wc.setCell ⟨w.heap.size,0,none⟩ (.slice a4 t2.e.length c4)).setCell ⟨w.heap.size,1,none⟩ (.slice a5 t2.s.length c5)).heap.size:=by simpa using hsz2
    have Z1:=hD z1
    have Z2:=hD z2
    have Z3:=hD z3
    have Z4:=hD z4
    have Z5:=hD z5
    have Z7:=hD z7
    clear z1 z2 z3 z4 z5 z7 zo H4 FB GS GR GN GB GQ
    go_upto_region 7 with fail
    generalize (wc.setCell ⟨w.heap.size,0,none⟩ (.slice a4 t2.e.length c4)).setCell ⟨w.heap.size,1,none⟩ (.slice a5 t2.s.length c5)=W7 at Z1 Z2 Z3 Z4 Z5 Z7 z6 ⊢
    clear p0 p1 s0 s1 v0 v1
    have bN:=bl_newZ W7 (.cells #[.int .i64 n2] 52)
    have C4:=hD (srcS_new (vals:=numVals) (w:=W7) (r:=(n2:Int)) (cs:=#[.int .i64 n2]) (e:=52) rfl (B:=W7.heap.size) rfl _ rfl)
    have O2:=hD (Z5.out.alloc (.cells #[.int .i64 n2] 52))
    have hz3:w.heap.size+2≤(W7.alloc (.cells #[.int .i64 n2] 52)).heap.size:=by simp; omega
    replace Z1:=hD (Z1.out.later bN)
    replace Z2:=hD (below2Z Z2.out bN)
    replace Z3:=hD (upT Z3.out bN)
    replace Z4:=hD (upT Z4.out bN)
    replace Z7:=hD (Z7.out.later bN)
    clear bN Z5
    go_wp2_with (at_builtin; refine wpList_append_q _ noStr rfl _ _ _ rfl (w.heap.size+2) 52 _ (.int .i64 0) 1 8 numOK.under hti htz hts htb rfl (by decide) _ (numsOf t (l.take k)).length (cellsS numVals (numsOf t (l.take k))) rfl O2.out Z7.out ⟨W7.heap.size,0,none⟩ 1 1 [.int .i64 n2] rfl rfl C4.out (by simp [Value.oneCell']) (by decide) (by simp [noStr]) num_zero (by unfold maxLen; omega) (by omega) hz3 ?_)
    intro v' w' hown' hgr hq'
    have O3:Hid (OwnS numVals 1 52 w' (w.heap.size+2) v' (numsOf t (l.take (k+1)))):=hD (by rw [HNG.out]; unfold OwnS; rw [cellsS_append,List.length_append]; exact hown')
    have hrow:=World.ownsRow.lt O2.out
    have KH:=hD (Z1.out.far Z7.out hgr)
    have KS:=hD ((hgr.block w.heap.size (by omega) (fun e => by have:=(hrow _ e.symm).1; omega)).trans Z3.out)
    have KR:=hD ((hgr.block (w.heap.size+1) (by omega) (fun e => by have:=(hrow _ e.symm).1; omega)).trans Z4.out)
    have KB:=hD (Z2.out.grown hgr (by omega) (fun k hk => by have:=(hrow k hk).1; omega))
    have KZ:w.heap.size+2≤w'.heap.size:=Nat.le_trans hz3 hgr.size
    have KQ:=hD hq'
    clear hown' hgr hq' hrow Z1 Z2 Z3 Z4 Z7 O2 C4
    go_wp2_with fail
    go_roundw
    case rel => exact⟨k+1,_,_,by omega,by go_num,KS,by rw [HTK.out]; exact KH,O3,KR,by rw [HTK.out]; exact GO2,by rw [HTK.out]; omega,KB,KZ,KQ⟩
    case measure => simp [intOf]; omega
  ·obtain rfl:k=l.length:=by omega
   rw [List.take_length] at GH GN
   obtain⟨ap,cp,rfl,-⟩:=GH.out.1.open'
   obtain⟨aq,cq,rfl,-⟩:=RdS.open' GH.out.2
   obtain⟨s0,s1,-,-⟩:=two_T GS.out
   obtain⟨r0,r1,g0,g1⟩:=two_T GR.out
   obtain⟨z1,z2,o0,o1⟩:=st_fin GH.out GB.out (Nat.le_succ _) GR.out allSl_nil
   have z5:OwnS numVals 1 52 ((wr.setCell ⟨w.heap.size+1,0,none⟩ (.slice ap (stAll t l).1.e.length cp)).setCell ⟨w.heap.size+1,1,none⟩ (.slice aq (stAll t l).1.s.length cq)) (w.heap.size+2) _ (numsOf t l):=ownN_blocks GN.out (fun g hg => by
    rw [heap_setCell_other _ ⟨w.heap.size+1,1,none⟩ g _ (show g ≠ w.heap.size+1 by omega),heap_setCell_other _ ⟨w.heap.size+1,0,none⟩ g _ (show g ≠ w.heap.size+1 by omega)])
   have HZ:=hD (z5.rd numOK)
   have Z1:=hD z1
   have Z2:=hD z2
   have O0:=hD o0
   have O1:=hD o1
   obtain⟨an,cn,rfl,-⟩:=RdS.open' HZ.out
   clear z1 z2 z5 o0 o1
   go_wp2_with fail
   have o0:=O0.out
   have o1:=O1.out
   exact bodyPost_ret (v:=.tuple #[.agg #[.slice ap (stAll t l).1.e.length cp,.slice aq (stAll t l).1.s.length cq],.slice an (numsOf t l).length cn]) (by simp [results,Tryz.results62,go_sem,o0,o1]) rfl ⟨_,_,_,rfl,Z1.out,HZ.out,Z2.out⟩

end Go.Proofs.YtphfinlfabklmaaGreat

end

section

namespace Go.Proofs.YtphfinlfabklmaaGreat

structure Que where
 l:List Chg
 la:Bool

def Chg.nought:Chg:=⟨[],false,Val.zero⟩

def quOne (c:Chg):Bool:=idIs c.c && (if c.on=true then vaMay c.v else vSame c.v Val.zero)
def quAt (l:List Chg) (x:List UInt8):Nat:=l.findIdx fun c => c.c == x
def quHas (l:List Chg) (x:List UInt8):Bool:=decide (quAt l x < l.length)
def quNo2 (l:List Chg):Prop:=(l.map (·.c)).Nodup
instance (l:List Chg):Decidable (quNo2 l):=by unfold quNo2; infer_instance
def quMay (q:Que) (room:Int):Bool:=decide ((q.l.length:Int)≤room) && !(q.la && decide (0 < q.l.length)) && q.l.all quOne && decide (quNo2 q.l)
def quEmpty (q:Que):Bool:=decide (q.l.length=0) && !q.la
def quFind (q:Que) (x:List UInt8):Chg × Bool:=if quHas q.l x=true then (q.l.getD (quAt q.l x) Chg.nought,true) else (Chg.nought,false)
def quPush (q:Que) (c:Chg) (room:Int):Que :=
 if q.la=true then q else if quHas q.l c.c=true then ⟨q.l.set (quAt q.l c.c) c,false⟩ else if (q.l.length:Int) < room then ⟨q.l ++ [c],false⟩ else ⟨[],true⟩
def quPop (q:Que):Chg × Que × Bool:=match q.l with
 | [] => (Chg.nought,q,false)
 | c :: l => (c,⟨l,q.la⟩,true)

/-! ### each text once -/
/-! ### what is pushed -/
end Go.Proofs.YtphfinlfabklmaaGreat

end

section

namespace Go.Proofs.YtphfinlfabklmaaGreat
open Go.RowKit

def lay {α:Type} (u:List α) (o:Nat) (ms:List α):List α:=u.take o ++ (ms ++ u.drop (o+ms.length))

theorem cellsOf_take (u:List Row) (o:Nat):(cellsOf u).take (o * 5)=cellsOf (u.take o):=by
 have h:=cellsOf_append (u.take o) (u.drop o)
 rw [List.take_append_drop] at h
 rw [h]
 by_cases ho:o≤u.length
 ·rw [List.take_left' (by rw [cellsOf_len,List.length_take]; omega)]
 ·have e1:u.drop o=[]:=List.drop_of_length_le (by omega)
  have e2:u.take o=u:=List.take_of_length_le (by omega)
  rw [e1,e2,cellsOf_nil,List.append_nil,List.take_of_length_le (by rw [cellsOf_len]; omega)]

theorem cellsOf_drop (u:List Row) (o:Nat):(cellsOf u).drop (o * 5)=cellsOf (u.drop o):=by
 have h:=cellsOf_append (u.take o) (u.drop o)
 rw [List.take_append_drop] at h
 by_cases ho:o≤u.length
 ·rw [h,List.drop_left' (by rw [cellsOf_len,List.length_take]; omega)]
 ·have e1:u.drop o=[]:=List.drop_of_length_le (by omega)
  rw [e1,cellsOf_nil,List.drop_of_length_le (by rw [cellsOf_len]; omega)]

theorem OwnR.head {w:World} {base g n cap:Nat} {u:List Row} (h:OwnR w base (.slice (some ⟨g,0,none⟩) n cap) u):n=u.length∧base≤g∧g < w.heap.size∧n≤cap∧cap≤maxLen∧∃ cur:Array Value,w.heap[g]?=some (.cells cur 45 (0,0))∧cur.size=cap * 5:=by
 rcases h with ⟨_,⟨h',_⟩ | ⟨g',cap',cur,h',hb,hg,hnc,hcm,hcs,_⟩⟩
 ·simp at h'
 ·simp only [Value.slice.injEq,Option.some.injEq,Addr.mk.injEq,and_true] at h'
  obtain⟨rfl,h2,rfl⟩:=h'
  exact⟨h2,hb,(Array.getElem?_eq_some_iff.1 hg).1,by omega,hcm,cur,hg,hcs⟩

theorem OwnR.cellAt {w:World} {base g n cap:Nat} {u:List Row} (h:OwnR w base (.slice (some ⟨g,0,none⟩) n cap) u) (j:Nat) (hj:j < u.length * 5):w.cell? ⟨g,j,none⟩=(cellsOf u)[j]?:=by
 have hn:=h.head.1
 subst hn
 exact World.ownsRow.cellAt h j hj

theorem OwnR.frozenAt {w:World} {base g n cap:Nat} {u:List Row} (h:OwnR w base (.slice (some ⟨g,0,none⟩) n cap) u) (j:Nat):w.frozen? ⟨g,j,none⟩=false:=by
 have hn:=h.head.1
 subst hn
 exact World.ownsRow.frozenAt h j

theorem OwnR.someAt {w:World} {base g n cap:Nat} {u:List Row} (h:OwnR w base (.slice (some ⟨g,0,none⟩) n cap) u) (j:Nat) (hj:j < u.length * 5):(w.cell? ⟨g,j,none⟩).isSome=true:=by
 rw [h.cellAt j hj,List.getElem?_eq_getElem (by rw [cellsOf_len]; exact hj)]
 rfl

def SrcR (w:World) (ad:Addr) (ms:List Row):Prop:=∀ j u,(cellsOf ms)[j]?=some u→w.cell? (ad.add j)=some u

theorem OwnR.src {w:World} {base g n cap:Nat} {u:List Row} (h:OwnR w base (.slice (some ⟨g,0,none⟩) n cap) u) (o k:Nat) (hk:o+k≤u.length):SrcR w ⟨g,o * 5,none⟩ ((u.drop o).take k):=by
 intro j x hx
 have hj:=(List.getElem?_eq_some_iff.1 hx).1
 rw [cellsOf_len,List.length_take,List.length_drop] at hj
 rw [Addr.add_lit,h.cellAt _ (by omega),← hx]
 rw [← cellsOf_take,← cellsOf_drop,List.getElem?_take,if_pos (by omega),List.getElem?_drop]

end Go.Proofs.YtphfinlfabklmaaGreat

end

section

namespace Go.Proofs.YtphfinlfabklmaaGreat
open Go.RowKit

def Found (t:List Row) (key:List UInt8) (n:Int):Prop :=
 (∃ k:Nat,k < t.length∧n=k∧(t.getD k Row.zero).c=key∧∀ j,j < k→¬ (t.getD j Row.zero).c=key)∨(n=-1∧∀ j,j < t.length→¬ (t.getD j Row.zero).c=key)

theorem OwnR.row {w:World} {base g n cap:Nat} {u:List Row} (h:OwnR w base (.slice (some ⟨g,0,none⟩) n cap) u) {k:Nat} (hk:k < u.length):Cells5 w g (k * 5) (u.getD k Row.zero):=by
 refine cells5_of fun j x hx => ?_
 have hj:j < 5:=by have:=(List.getElem?_eq_some_iff.1 hx).1; rwa [rowVals_len] at this
 rw [h.cellAt _ (by omega),cellsOf_at u k j hk hj,hx]

def DelAt (t u:List Row) (key:List UInt8) (i j:Nat):Prop:=u.length=t.length∧i < j∧j≤t.length∧u.take i=diRest (t.take j) key∧u.drop j=t.drop j

end Go.Proofs.YtphfinlfabklmaaGreat

end
