/-
 TEXTS OF THE PROOF, one behind the other: LnkRKeep.
-/
import Derived.Test.YtmpigdokghngiaaGreatK23
import Derived.Test.YtmpigdokghngiaaGreatK16

set_option maxHeartbeats 12800000
set_option maxRecDepth 100000

namespace Go.Proofs.YtmpigdokghngiaaGreat
open Go.RowKit

theorem rqupop_tail {w:World} {v:Value} {l:List Chg} (hv:Chgs w v l) (la:Bool) (hpos:1≤l.length) {c st:List UInt8} {on:Bool} {a b d:Int} (hg:l.getD 0 Chg.zero=⟨c,on,⟨a,b,d,st⟩⟩) :
  Calls Tryz.prog 71 #[.agg #[v,.bool la]] w fun e w' => ∃ u,e=.returned (.tuple #[.agg #[.string ⟨c.toArray⟩,.bool on,.int .i64 a,.int .i64 b,.int .i64 d,.string ⟨st.toArray⟩],.agg #[u,.bool la],.bool true])∧(∀ X,Chgs X v l→Chgs X u (l.drop 1))∧Below w.heap.size w w':=by
 obtain⟨ao,cap,rfl,_hmx⟩:=hv.open'
 have b0:=bl_newZ w (.cells #[.slice ao l.length cap,.bool la] 26)
 have b1:=bl_newZ (w.alloc (.cells #[.slice ao l.length cap,.bool la] 26)) (.cells #[.string ⟨#[]⟩,.bool false,.int .i64 0,.int .i64 0,.int .i64 0,.string ⟨#[]⟩] 105)
 have b2:=bl_newZ ((w.alloc (.cells #[.slice ao l.length cap,.bool la] 26)).alloc (.cells #[.string ⟨#[]⟩,.bool false,.int .i64 0,.int .i64 0,.int .i64 0,.string ⟨#[]⟩] 105)) (.cells #[.slice none 0 0,.bool false] 26)
 have HB:=hZq (below2Z (below2Z b0 b1) b2)
 have V:=hZq (((hv.later b0).later b1).later b2)
 have A:=hZq (upQ (upQ (newQ w (.cells #[.slice ao l.length cap,.bool la] 26)) b1) b2)
 have C:=newQ (w.alloc (.cells #[.slice ao l.length cap,.bool la] 26)) (.cells #[.string ⟨#[]⟩,.bool false,.int .i64 0,.int .i64 0,.int .i64 0,.string ⟨#[]⟩] 105)
 rw [World.size_alloc] at C
 replace C:=hZq (upQ C b2)
 have R:=newQ ((w.alloc (.cells #[.slice ao l.length cap,.bool la] 26)).alloc (.cells #[.string ⟨#[]⟩,.bool false,.int .i64 0,.int .i64 0,.int .i64 0,.string ⟨#[]⟩] 105)) (.cells #[.slice none 0 0,.bool false] 26)
 rw [World.size_alloc,World.size_alloc] at R
 replace R:=hZq R
 clear b0 b1 b2 hv
 have t1:((l.length:Int) == 0)=false:=by rw [beq_eq_false_iff_ne]; omega
 obtain⟨bk,off,rfl,h0,h1,h2,h3,h4,h5⟩:=V.out.row (Below.refl _ _) 0 hpos
 rw [hg] at h0 h1 h2 h3 h4 h5
 simp only [Nat.zero_mul,Nat.add_zero] at h0 h1 h2 h3 h4 h5
 have hsl:=fun w => run_slice_from_S chgOK w ⟨bk,off,none⟩ l.length cap 1 1 rfl hpos
 have VT:=hZq (RdS.tail V.out.rdS (by decide) 1 hpos)
 have VX:Hid (∀ X,Chgs X (.slice (some ⟨bk,off,none⟩) l.length cap) l→RdS chgVals 6 Chg.zero X _ _):=hZq (fun X hX => RdS.tail hX.rdS (by decide) 1 hpos)
 obtain⟨ad,had⟩ : ∃ ad,(if cap=1 then (⟨bk,off,none⟩ : Addr) else (⟨bk,off,none⟩ : Addr).add (1 * 6))=ad:=⟨_,rfl⟩
 rw [had] at VT VX
 simp only [had] at hsl
 have HG:=hZq hg
 clear had hg
 obtain⟨⟨q0,q1⟩,f0,f1⟩:=twoQ A.out
 obtain⟨⟨p0,p1,p2,p3,p4,p5⟩,⟨s0,s1,s2,s3,s4,s5⟩⟩:=sixQ C.out
 obtain⟨⟨r0,r1⟩,g0,g1⟩:=twoQ R.out
 go_enter Tryz.func71,Tryz.ntmps71
 go_upto_region 3 with fail
 clear q0 q1 f0 f1 p0 p1 p2 p3 p4 p5 s0 s1 s2 s3 s4 s5 r0 r1 g0 g1 h0 h1 h2 h3 h4 h5
 generalize ((w.alloc (.cells #[.slice (some ⟨bk,off,none⟩) l.length cap,.bool la] 26)).alloc (.cells #[.string ⟨#[]⟩,.bool false,.int .i64 0,.int .i64 0,.int .i64 0,.string ⟨#[]⟩] 105)).alloc (.cells #[.slice none 0 0,.bool false] 26)=W1 at A C R V VT HB ⊢
 have hA:=(Array.getElem?_eq_some_iff.1 A.out).1
 have hC:=(Array.getElem?_eq_some_iff.1 C.out).1
 have hR:=(Array.getElem?_eq_some_iff.1 R.out).1
 obtain⟨bk',off',e',h0,h1,h2,h3,h4,h5⟩:=V.out.row (Below.refl _ _) 0 hpos
 rw [HG.out] at h0 h1 h2 h3 h4 h5
 simp only [Nat.zero_mul,Nat.add_zero] at h0 h1 h2 h3 h4 h5
 simp only [Option.some.injEq,Addr.mk.injEq,and_true] at e'
 obtain⟨rfl,rfl⟩:=e'
 obtain⟨⟨q0,q1⟩,f0,f1⟩:=twoQ A.out
 obtain⟨⟨p0,p1,p2,p3,p4,p5⟩,⟨s0,s1,s2,s3,s4,s5⟩⟩:=sixQ C.out
 obtain⟨⟨r0,r1⟩,g0,g1⟩:=twoQ R.out
 go_wp2_with fail
 go_region
 go_wp2_with fail
 have hle1:w.heap.size≤w.heap.size+1:=by omega
 have hle2:w.heap.size≤w.heap.size+1+1:=by omega
 refine bodyPost_ret (v:=.tuple #[.agg #[.string ⟨c.toArray⟩,.bool on,.int .i64 a,.int .i64 b,.int .i64 d,.string ⟨st.toArray⟩],.agg #[.slice (some ad) (l.length - 1) (cap - 1),.bool la],.bool true]) (by simp [results,Tryz.results71,go_sem,p0,p1,p2,p3,p4,p5,r0,r1]) rfl ⟨_,rfl,?_,?_⟩
 ·exact fun X hX => chgs_of (VX.out X hX)
 ·exact Below.drew (((store6Q HB.out hle1 0 1 2 3 4 5 _ _ _ _ _ _).setCell hle2 _).setCell hle2 _)

def KQR (w _W:World) (v:Value) (l:List Chg):Prop:=∀ X,Below w.heap.size w X→Chgs X v l

theorem KQR.chgs {w W:World} {v:Value} {l:List Chg} (h:KQR w W v l) (hb:Below w.heap.size w W):Chgs W v l:=h W hb
theorem KQR.later {w W X:World} {v:Value} {l:List Chg} (h:KQR w W v l) (_:Below W.heap.size W X):KQR w X v l:=h
theorem KQR.past {w W X:World} {v:Value} {l:List Chg} (h:KQR w W v l) {B:Nat} {cs:Array Value} {T:TypeId} (_:W.heap[B]?=some (.cells cs T (0,0))) (_:105 ≠ T) (_:∀ k,¬ k=B→X.heap[k]?=W.heap[k]?):KQR w X v l:=h
theorem KQR.app {w W X:World} {v u:Value} {l:List Chg} {t:List FrS} (h:KQR w W v l) (_:OwnS frVals 10 56 W w.heap.size u t) (_:AppFar W X u):KQR w X v l:=h

def KTR (w _W:World) (p:FrS):Prop:=∀ X,Below w.heap.size w X→Tab X p.tv p.f.t

def KG (w W:World) (v:Value) (ps:List FrS):Prop:=OwnS frVals 10 56 W w.heap.size v ps∧∀ p ∈ ps,KTR w W p

theorem KG.frms {w W:World} {v:Value} {ps:List FrS} (h:KG w W v ps) (hb:Below w.heap.size w W):Frms W v ps:=⟨OwnS.rd frSOK h.1,fun p hp => h.2 p hp W hb⟩
theorem KG.later {w W X:World} {v:Value} {ps:List FrS} (h:KG w W v ps) (hb:Below W.heap.size W X):KG w X v ps:=⟨OwnS.later h.1 hb,h.2⟩
theorem KG.past {w W X:World} {v:Value} {ps:List FrS} (h:KG w W v ps) {B:Nat} {cs:Array Value} {T:TypeId} (hb:W.heap[B]?=some (.cells cs T (0,0))) (hne:56 ≠ T) (hfar:∀ k,¬ k=B→X.heap[k]?=W.heap[k]?):KG w X v ps :=
 ⟨row_past h.1 hb hne hfar,h.2⟩
theorem KG.more {w W X:World} {v u:Value} {ps:List FrS} {p:FrS} (h:KG w W v ps) (hp:KTR w W p) (hown:OwnS frVals 10 56 X w.heap.size u (ps ++ [p])) (_:AppFar W X v):KG w X u (ps ++ [p]) :=
 ⟨hown,fun q hq => by
  rcases List.mem_append.1 hq with hq | hq
  ·exact h.2 q hq
  ·rw [List.mem_singleton] at hq; subst hq; exact hp⟩

theorem kg_nil (w W:World):KG w W (.slice none 0 0) []:=⟨ownS_nil _ _,fun p hp => by cases hp⟩

theorem ktr_none (w W:World) (f:Frm) (h:f.t=[]):KTR w W ⟨f,none,0,0⟩:=fun X _ => by
 rw [show (⟨f,none,0,0⟩ : FrS).f.t=[] from h]
 exact OwnR.tab (ownR_nil X 0)

theorem kg_shape {w W:World} {v:Value} {ps:List FrS} (h:KG w W v ps):∃ a c,v=.slice a ps.length c:=by
 rcases h.1.2 with ⟨rfl,h0⟩ | ⟨g,cap,cur,h',_⟩
 ·exact⟨none,0,by rw [h0]⟩
 ·exact⟨_,_,h'⟩

def EmittedR (w:World) (M:Lnk) (fs:List Frm) (e:Ending) (w':World):Prop :=
 ∃ u fv ps,e=.returned (.tuple #[.agg #[.int .i64 M.seq,u,.bool M.q.la,.int .i64 M.b.tok,.int .i64 M.b.at',.bool M.sn,.int .i64 M.dg],fv])∧Chgs w' u M.q.l∧KG w w' fv ps∧ps.map FrS.f=fs∧Below w.heap.size w w'
end Go.Proofs.YtmpigdokghngiaaGreat
