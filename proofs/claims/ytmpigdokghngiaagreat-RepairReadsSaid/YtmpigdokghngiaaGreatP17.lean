/-
 TEXTS OF THE PROOF, one behind the other: FraRread.
-/
import Derived.Test.YtmpigdokghngiaaGreatP05
import Derived.Test.YtmpigdokghngiaaGreatP16
import Derived.Test.YtmpigdokghngiaaGreatP14
import Derived.Test.YtmpigdokghngiaaGreatP02

set_option maxHeartbeats 12800000
set_option maxRecDepth 100000

namespace Go.Proofs.YtmpigdokghngiaaGreat
open Go.RowKit

set_option linter.unusedSimpArgs false

theorem getD_byteF (l:List UInt8) (p:Nat) (hp:p < l.length) (h:p < (⟨l.toArray⟩ : ByteArray).size):(⟨l.toArray⟩ : ByteArray)[p]'h=l.getD p 0:=by
 rw [List.getD_eq_getElem?_getD,List.getElem?_eq_getElem hp]
 rfl

theorem rditake_f (l:List UInt8) (hl:l.length≤4294967296) (p:Int) {t:List Row} {g er:Nat} (h:Hid (diTake l p=(t,g,er))) (w:World) :
  Calls Tryz.prog 109 #[.string ⟨l.toArray⟩,.int .i64 p] w fun e w' => ∃ v,e=.returned (.tuple #[v,.int .i64 g,.int .i64 er])∧OwnR w' w.heap.size v t∧Below w.heap.size w w':=by
 have:=rditakeO_any l hl p w
 unfold TookO at this
 rw [h.out] at this
 exact this

theorem frread_nil (w:World) :
  Calls Tryz.prog 82 #[.string ⟨#[]⟩] w fun e w' => ∃ v,e=.returned (.agg #[.int .i64 0,.int .i64 0,.bool false,.string ⟨#[]⟩,.int .i64 0,.int .i64 0,.int .i64 0,.string ⟨#[]⟩,.int .u64 0,v])∧OwnR w' w.heap.size v []∧Below w.heap.size w w':=by
 obtain⟨R,HB⟩:=ent1 w (.cells #[.int .i64 0,.int .i64 0,.bool false,.string ⟨#[]⟩,.int .i64 0,.int .i64 0,.int .i64 0,.string ⟨#[]⟩,.int .u64 0,.slice none 0 0] 56)
 obtain⟨⟨Rc0,Rc1,Rc2,Rc3,Rc4,Rc5,Rc6,Rc7,Rc8,Rc9⟩,⟨Rf0,Rf1,Rf2,Rf3,Rf4,Rf5,Rf6,Rf7,Rf8,Rf9⟩⟩:=blk10 R.out
 go_enter Tryz.func82,Tryz.ntmps82
 go_wp2_with fail
 refine bodyPost_ret (v:=.agg #[.int .i64 0,.int .i64 0,.bool false,.string ⟨#[]⟩,.int .i64 0,.int .i64 0,.int .i64 0,.string ⟨#[]⟩,.int .u64 0,.slice none 0 0]) (by simp [results,Tryz.results82,go_sem,Rc0,Rc1,Rc2,Rc3,Rc4,Rc5,Rc6,Rc7,Rc8,Rc9]) rfl ⟨_,rfl,ownR_nil _ _,?_⟩
 exact HB.out

theorem frread_err (l:List UInt8) (hl:l.length≤4294967296) (hne:1≤l.length) {n f er:Nat} (HU:Hid (vget l 1=(n,f,er))) (he:er ≠ 0) (w:World) :
  Calls Tryz.prog 82 #[.string ⟨l.toArray⟩] w fun e w' => ∃ v,e=.returned (.agg #[.int .i64 0,.int .i64 0,.bool false,.string ⟨#[]⟩,.int .i64 0,.int .i64 0,.int .i64 0,.string ⟨#[]⟩,.int .u64 0,v])∧OwnR w' w.heap.size v []∧Below w.heap.size w w':=by
 have hnil2:l ≠ []:=by intro h; rw [h] at hne; simp at hne
 have hnil:(l == [])=false:=by cases l <;> simp at hne ⊢
 have t1:((er:Int) != 0)=true:=by simp; omega
 clear he
 obtain⟨R,HB⟩:=ent1 w (.cells #[.int .i64 0,.int .i64 0,.bool false,.string ⟨#[]⟩,.int .i64 0,.int .i64 0,.int .i64 0,.string ⟨#[]⟩,.int .u64 0,.slice none 0 0] 56)
 go_enter Tryz.func82,Tryz.ntmps82
 go_wp2_with fail
 refine (rget_eq l hl 1 _ HU).mono ?_
 rintro e wp ⟨rfl,rfl⟩
 generalize w.alloc (.cells #[.int .i64 0,.int .i64 0,.bool false,.string ⟨#[]⟩,.int .i64 0,.int .i64 0,.int .i64 0,.string ⟨#[]⟩,.int .u64 0,.slice none 0 0] 56)=w2 at R HB ⊢
 obtain⟨⟨Rc0,Rc1,Rc2,Rc3,Rc4,Rc5,Rc6,Rc7,Rc8,Rc9⟩,⟨Rf0,Rf1,Rf2,Rf3,Rf4,Rf5,Rf6,Rf7,Rf8,Rf9⟩⟩:=blk10 R.out
 go_wp2_with fail
 refine bodyPost_ret (v:=.agg #[.int .i64 0,.int .i64 0,.bool false,.string ⟨#[]⟩,.int .i64 0,.int .i64 0,.int .i64 0,.string ⟨#[]⟩,.int .u64 0,.slice none 0 0]) (by simp [results,Tryz.results82,go_sem,Rc0,Rc1,Rc2,Rc3,Rc4,Rc5,Rc6,Rc7,Rc8,Rc9]) rfl ⟨_,rfl,ownR_nil _ _,?_⟩
 exact ((((((((((HB.out.setCell (Nat.le_refl _) _).setCell (Nat.le_refl _) _).setCell (Nat.le_refl _) _).setCell (Nat.le_refl _) _).setCell (Nat.le_refl _) _).setCell (Nat.le_refl _) _).setCell (Nat.le_refl _) _).setCell (Nat.le_refl _) _).setCell (Nat.le_refl _) _).setCell (Nat.le_refl _) _)

theorem frread_far (l:List UInt8) (hl:l.length≤4294967296) (hne:1≤l.length) {n f:Nat} (HU:Hid (vget l 1=(n,f,0))) (hn:1099511627776 < n) (w:World) :
  Calls Tryz.prog 82 #[.string ⟨l.toArray⟩] w fun e w' => ∃ v,e=.returned (.agg #[.int .i64 0,.int .i64 0,.bool false,.string ⟨#[]⟩,.int .i64 0,.int .i64 0,.int .i64 0,.string ⟨#[]⟩,.int .u64 0,v])∧OwnR w' w.heap.size v []∧Below w.heap.size w w':=by
 have hnil2:l ≠ []:=by intro h; rw [h] at hne; simp at hne
 have hnil:(l == [])=false:=by cases l <;> simp at hne ⊢
 have t2:decide ((1099511627776:Int) < (n:Int))=true:=by rw [decide_eq_true_eq]; omega
 have t2b:decide (1099511627776 < n)=true:=by rw [decide_eq_true_eq]; omega
 obtain⟨R,HB⟩:=ent1 w (.cells #[.int .i64 0,.int .i64 0,.bool false,.string ⟨#[]⟩,.int .i64 0,.int .i64 0,.int .i64 0,.string ⟨#[]⟩,.int .u64 0,.slice none 0 0] 56)
 go_enter Tryz.func82,Tryz.ntmps82
 go_wp2_with fail
 refine (rget_eq l hl 1 _ HU).mono ?_
 rintro e wp ⟨rfl,rfl⟩
 generalize w.alloc (.cells #[.int .i64 0,.int .i64 0,.bool false,.string ⟨#[]⟩,.int .i64 0,.int .i64 0,.int .i64 0,.string ⟨#[]⟩,.int .u64 0,.slice none 0 0] 56)=w2 at R HB ⊢
 obtain⟨⟨Rc0,Rc1,Rc2,Rc3,Rc4,Rc5,Rc6,Rc7,Rc8,Rc9⟩,⟨Rf0,Rf1,Rf2,Rf3,Rf4,Rf5,Rf6,Rf7,Rf8,Rf9⟩⟩:=blk10 R.out
 go_wp2_with fail
 refine bodyPost_ret (v:=.agg #[.int .i64 0,.int .i64 0,.bool false,.string ⟨#[]⟩,.int .i64 0,.int .i64 0,.int .i64 0,.string ⟨#[]⟩,.int .u64 0,.slice none 0 0]) (by simp [results,Tryz.results82,go_sem,Rc0,Rc1,Rc2,Rc3,Rc4,Rc5,Rc6,Rc7,Rc8,Rc9]) rfl ⟨_,rfl,ownR_nil _ _,?_⟩
 exact ((((((((((HB.out.setCell (Nat.le_refl _) _).setCell (Nat.le_refl _) _).setCell (Nat.le_refl _) _).setCell (Nat.le_refl _) _).setCell (Nat.le_refl _) _).setCell (Nat.le_refl _) _).setCell (Nat.le_refl _) _).setCell (Nat.le_refl _) _).setCell (Nat.le_refl _) _).setCell (Nat.le_refl _) _)

theorem frread_other (l:List UInt8) (hl:l.length≤4294967296) (hne:1≤l.length) {kb:UInt8} (hb:l.getD 0 0=kb) {n f:Nat} (HU:Hid (vget l 1=(n,f,0))) (hn:n≤1099511627776) (h1:¬ kb.toNat=1) (h2:¬ kb.toNat=2) (h3:¬ kb.toNat=3) (w:World) :
  Calls Tryz.prog 82 #[.string ⟨l.toArray⟩] w fun e w' => ∃ v,e=.returned (.agg #[.int .i64 kb.toNat,.int .i64 n,.bool false,.string ⟨#[]⟩,.int .i64 0,.int .i64 0,.int .i64 0,.string ⟨#[]⟩,.int .u64 0,v])∧OwnR w' w.heap.size v []∧Below w.heap.size w w':=by
 have hs1:(⟨l.toArray⟩ : ByteArray).size=l.length:=size_bytes l
 have hq0:0 < (⟨l.toArray⟩ : ByteArray).size:=by omega
 have hb0:=getD_byteF l 0 (by omega) hq0
 rw [hb] at hb0
 have hk256:=kb.toNat_lt
 have hnil:(l == [])=false:=by cases l <;> simp at hne ⊢
 have hnil2:l ≠ []:=by intro h; rw [h] at hne; simp at hne
 clear hb
 have t2:decide ((1099511627776:Int) < (n:Int))=false:=by rw [decide_eq_false_iff_not]; omega
 have t2b:decide (1099511627776 < n)=false:=by rw [decide_eq_false_iff_not]; omega
 have hwn:IntKind.i64.wrap (n:Int)=n:=wrap_small hn
 have hwn2:wrap64 (n:Int)=n:=by rw [← wrap_i64F]; exact hwn
 have hfl:=(vget_facts HU.out).2.1
 have tk1:((kb.toNat:Int) == 1)=false:=by rw [beq_eq_false_iff_ne]; omega
 have tn1:(kb.toNat == 1)=false:=by rw [beq_eq_false_iff_ne]; omega
 have tk2:((kb.toNat:Int) == 2)=false:=by rw [beq_eq_false_iff_ne]; omega
 have tn2:(kb.toNat == 2)=false:=by rw [beq_eq_false_iff_ne]; omega
 have tk3:((kb.toNat:Int) == 3)=false:=by rw [beq_eq_false_iff_ne]; omega
 have tn3:(kb.toNat == 3)=false:=by rw [beq_eq_false_iff_ne]; omega
 obtain⟨R,HB⟩:=ent1 w (.cells #[.int .i64 0,.int .i64 0,.bool false,.string ⟨#[]⟩,.int .i64 0,.int .i64 0,.int .i64 0,.string ⟨#[]⟩,.int .u64 0,.slice none 0 0] 56)
 go_enter Tryz.func82,Tryz.ntmps82
 go_wp2_with fail
 refine (rget_eq l hl 1 _ HU).mono ?_
 rintro e wp ⟨rfl,rfl⟩
 generalize w.alloc (.cells #[.int .i64 0,.int .i64 0,.bool false,.string ⟨#[]⟩,.int .i64 0,.int .i64 0,.int .i64 0,.string ⟨#[]⟩,.int .u64 0,.slice none 0 0] 56)=w2 at R HB ⊢
 obtain⟨⟨Rc0,Rc1,Rc2,Rc3,Rc4,Rc5,Rc6,Rc7,Rc8,Rc9⟩,⟨Rf0,Rf1,Rf2,Rf3,Rf4,Rf5,Rf6,Rf7,Rf8,Rf9⟩⟩:=blk10 R.out
 have hR:=(Array.getElem?_eq_some_iff.1 R.out).1
 go_wp2_with fail
 refine bodyPost_ret (v:=.agg #[.int .i64 kb.toNat,.int .i64 n,.bool false,.string ⟨#[]⟩,.int .i64 0,.int .i64 0,.int .i64 0,.string ⟨#[]⟩,.int .u64 0,.slice none 0 0]) (by simp [results,Tryz.results82,go_sem,Rc0,Rc1,Rc2,Rc3,Rc4,Rc5,Rc6,Rc7,Rc8,Rc9,World.cell?_alloc_lt,hR]) rfl ⟨_,rfl,ownR_nil _ _,?_⟩
 exact (((((((((((HB.out.setCell (Nat.le_refl _) _).setCell (Nat.le_refl _) _).setCell (Nat.le_refl _) _).setCell (Nat.le_refl _) _).setCell (Nat.le_refl _) _).setCell (Nat.le_refl _) _).setCell (Nat.le_refl _) _).setCell (Nat.le_refl _) _).setCell (Nat.le_refl _) _).setCell (Nat.le_refl _) _)).alloc (by simp only [setCell_size]; exact HB.out.size) _

theorem frread_3e (l:List UInt8) (hl:l.length≤4294967296) (hne:1≤l.length) {kb:UInt8} (hb:l.getD 0 0=kb) {n f:Nat} (HU:Hid (vget l 1=(n,f,0))) (hn:n≤1099511627776) (hk:kb.toNat=3) {tt:List Row} {g er:Nat} (HT:Hid (diTake l f=(tt,g,er))) (he:er ≠ 0) (w:World) :
  Calls Tryz.prog 82 #[.string ⟨l.toArray⟩] w fun e w' => ∃ v,e=.returned (.agg #[.int .i64 0,.int .i64 0,.bool false,.string ⟨#[]⟩,.int .i64 0,.int .i64 0,.int .i64 0,.string ⟨#[]⟩,.int .u64 0,v])∧OwnR w' w.heap.size v []∧Below w.heap.size w w':=by
 have t1:((er:Int) != 0)=true:=by simp; omega
 clear he
 have hs1:(⟨l.toArray⟩ : ByteArray).size=l.length:=size_bytes l
 have hq0:0 < (⟨l.toArray⟩ : ByteArray).size:=by omega
 have hb0:=getD_byteF l 0 (by omega) hq0
 rw [hb] at hb0
 have hk256:=kb.toNat_lt
 have hnil:(l == [])=false:=by cases l <;> simp at hne ⊢
 have hnil2:l ≠ []:=by intro h; rw [h] at hne; simp at hne
 clear hb
 have t2:decide ((1099511627776:Int) < (n:Int))=false:=by rw [decide_eq_false_iff_not]; omega
 have t2b:decide (1099511627776 < n)=false:=by rw [decide_eq_false_iff_not]; omega
 have hwn:IntKind.i64.wrap (n:Int)=n:=wrap_small hn
 have hwn2:wrap64 (n:Int)=n:=by rw [← wrap_i64F]; exact hwn
 have hfl:=(vget_facts HU.out).2.1
 obtain⟨R,HB⟩:=ent1 w (.cells #[.int .i64 0,.int .i64 0,.bool false,.string ⟨#[]⟩,.int .i64 0,.int .i64 0,.int .i64 0,.string ⟨#[]⟩,.int .u64 0,.slice none 0 0] 56)
 go_enter Tryz.func82,Tryz.ntmps82
 go_wp2_with fail
 refine (rget_eq l hl 1 _ HU).mono ?_
 rintro e wp ⟨rfl,rfl⟩
 generalize w.alloc (.cells #[.int .i64 0,.int .i64 0,.bool false,.string ⟨#[]⟩,.int .i64 0,.int .i64 0,.int .i64 0,.string ⟨#[]⟩,.int .u64 0,.slice none 0 0] 56)=w2 at R HB ⊢
 go_wp2_with fail
 have hRl0:=hZq (Array.getElem?_eq_some_iff.1 R.out).1
 have b3:=bl_newZ w2 (.cells #[.int .i64 3,.int .i64 n,.bool false,.string ⟨#[]⟩,.int .i64 0,.int .i64 0,.int .i64 0,.string ⟨#[]⟩,.int .u64 0,.slice none 0 0] 56)
 have E:=newQ w2 (.cells #[.int .i64 3,.int .i64 n,.bool false,.string ⟨#[]⟩,.int .i64 0,.int .i64 0,.int .i64 0,.string ⟨#[]⟩,.int .u64 0,.slice none 0 0] 56)
 have hE:w.heap.size≤w2.heap.size:=HB.out.size
 replace R:=hZq (upQ R.out b3)
 replace HB:=hZq (below2Z HB.out b3)
 clear b3
 replace E:=hZq E
 generalize w2.alloc (.cells #[.int .i64 3,.int .i64 n,.bool false,.string ⟨#[]⟩,.int .i64 0,.int .i64 0,.int .i64 0,.string ⟨#[]⟩,.int .u64 0,.slice none 0 0] 56)=w4 at R E HB ⊢
 have hRE:w.heap.size < w2.heap.size:=hRl0.out
 clear hRl0
 generalize w2.heap.size=BE at E hE hRE ⊢
 have Eo:=blk10 E.out
 go_wp2_with fail
 clear Eo
 have hEl:=(Array.getElem?_eq_some_iff.1 E.out).1
 refine (rditake_f l hl f HT _).mono ?_
 rintro e w5 ⟨v,rfl,hov,b5⟩
 replace R:=hZq (upQ R.out b5)
 replace E:=hZq (upQ E.out b5)
 replace HB:=hZq (below2Z HB.out b5)
 obtain⟨va,vc,rfl,-⟩:=Tab.open' (OwnR.tab hov)
 have V:=hZq (OwnR.mono hov (Nat.succ_le_of_lt hEl))
 clear hov hEl
 clear b5
 have Eo:=blk10 E.out
 obtain⟨⟨Rc0,Rc1,Rc2,Rc3,Rc4,Rc5,Rc6,Rc7,Rc8,Rc9⟩,⟨Rf0,Rf1,Rf2,Rf3,Rf4,Rf5,Rf6,Rf7,Rf8,Rf9⟩⟩:=blk10 R.out
 go_wp2_with fail
 refine bodyPost_ret (v:=.agg #[.int .i64 0,.int .i64 0,.bool false,.string ⟨#[]⟩,.int .i64 0,.int .i64 0,.int .i64 0,.string ⟨#[]⟩,.int .u64 0,.slice none 0 0]) (by simp [results,Tryz.results82,go_sem,Rc0,Rc1,Rc2,Rc3,Rc4,Rc5,Rc6,Rc7,Rc8,Rc9]) rfl ⟨_,rfl,ownR_nil _ _,?_⟩
 exact ((((((((((HB.out.setCell (Nat.le_refl _) _).setCell (Nat.le_refl _) _).setCell (Nat.le_refl _) _).setCell (Nat.le_refl _) _).setCell (Nat.le_refl _) _).setCell (Nat.le_refl _) _).setCell (Nat.le_refl _) _).setCell (Nat.le_refl _) _).setCell (Nat.le_refl _) _).setCell (Nat.le_refl _) _)

theorem frread_3 (l:List UInt8) (hl:l.length≤4294967296) (hne:1≤l.length) {kb:UInt8} (hb:l.getD 0 0=kb) {n f:Nat} (HU:Hid (vget l 1=(n,f,0))) (hn:n≤1099511627776) (hk:kb.toNat=3) {tt:List Row} {g:Nat} (HT:Hid (diTake l f=(tt,g,0))) (w:World) :
  Calls Tryz.prog 82 #[.string ⟨l.toArray⟩] w fun e w' => ∃ v,e=.returned (.agg #[.int .i64 3,.int .i64 n,.bool false,.string ⟨#[]⟩,.int .i64 0,.int .i64 0,.int .i64 0,.string ⟨#[]⟩,.int .u64 0,v])∧OwnR w' w.heap.size v tt∧Below w.heap.size w w':=by
 have hs1:(⟨l.toArray⟩ : ByteArray).size=l.length:=size_bytes l
 have hq0:0 < (⟨l.toArray⟩ : ByteArray).size:=by omega
 have hb0:=getD_byteF l 0 (by omega) hq0
 rw [hb] at hb0
 have hk256:=kb.toNat_lt
 have hnil:(l == [])=false:=by cases l <;> simp at hne ⊢
 have hnil2:l ≠ []:=by intro h; rw [h] at hne; simp at hne
 clear hb
 have t2:decide ((1099511627776:Int) < (n:Int))=false:=by rw [decide_eq_false_iff_not]; omega
 have t2b:decide (1099511627776 < n)=false:=by rw [decide_eq_false_iff_not]; omega
 have hwn:IntKind.i64.wrap (n:Int)=n:=wrap_small hn
 have hwn2:wrap64 (n:Int)=n:=by rw [← wrap_i64F]; exact hwn
 have hfl:=(vget_facts HU.out).2.1
 obtain⟨R,HB⟩:=ent1 w (.cells #[.int .i64 0,.int .i64 0,.bool false,.string ⟨#[]⟩,.int .i64 0,.int .i64 0,.int .i64 0,.string ⟨#[]⟩,.int .u64 0,.slice none 0 0] 56)
 go_enter Tryz.func82,Tryz.ntmps82
 go_wp2_with fail
 refine (rget_eq l hl 1 _ HU).mono ?_
 rintro e wp ⟨rfl,rfl⟩
 generalize w.alloc (.cells #[.int .i64 0,.int .i64 0,.bool false,.string ⟨#[]⟩,.int .i64 0,.int .i64 0,.int .i64 0,.string ⟨#[]⟩,.int .u64 0,.slice none 0 0] 56)=w2 at R HB ⊢
 go_wp2_with fail
 have hRl0:=hZq (Array.getElem?_eq_some_iff.1 R.out).1
 have b3:=bl_newZ w2 (.cells #[.int .i64 3,.int .i64 n,.bool false,.string ⟨#[]⟩,.int .i64 0,.int .i64 0,.int .i64 0,.string ⟨#[]⟩,.int .u64 0,.slice none 0 0] 56)
 have E:=newQ w2 (.cells #[.int .i64 3,.int .i64 n,.bool false,.string ⟨#[]⟩,.int .i64 0,.int .i64 0,.int .i64 0,.string ⟨#[]⟩,.int .u64 0,.slice none 0 0] 56)
 have hE:w.heap.size≤w2.heap.size:=HB.out.size
 replace R:=hZq (upQ R.out b3)
 replace HB:=hZq (below2Z HB.out b3)
 clear b3
 replace E:=hZq E
 generalize w2.alloc (.cells #[.int .i64 3,.int .i64 n,.bool false,.string ⟨#[]⟩,.int .i64 0,.int .i64 0,.int .i64 0,.string ⟨#[]⟩,.int .u64 0,.slice none 0 0] 56)=w4 at R E HB ⊢
 have hRE:w.heap.size < w2.heap.size:=hRl0.out
 clear hRl0
 generalize w2.heap.size=BE at E hE hRE ⊢
 have Eo:=blk10 E.out
 go_wp2_with fail
 clear Eo
 have hEl:=(Array.getElem?_eq_some_iff.1 E.out).1
 refine (rditake_f l hl f HT _).mono ?_
 rintro e w5 ⟨v,rfl,hov,b5⟩
 replace R:=hZq (upQ R.out b5)
 replace E:=hZq (upQ E.out b5)
 replace HB:=hZq (below2Z HB.out b5)
 obtain⟨va,vc,rfl,-⟩:=Tab.open' (OwnR.tab hov)
 have V:=hZq (OwnR.mono hov (Nat.succ_le_of_lt hEl))
 clear hov hEl
 clear b5
 have Eo:=blk10 E.out
 obtain⟨⟨Rc0,Rc1,Rc2,Rc3,Rc4,Rc5,Rc6,Rc7,Rc8,Rc9⟩,⟨Rf0,Rf1,Rf2,Rf3,Rf4,Rf5,Rf6,Rf7,Rf8,Rf9⟩⟩:=blk10 R.out
 go_wp2_with fail
 refine bodyPost_ret (v:=.agg #[.int .i64 3,.int .i64 n,.bool false,.string ⟨#[]⟩,.int .i64 0,.int .i64 0,.int .i64 0,.string ⟨#[]⟩,.int .u64 0,.slice va tt.length vc]) (by simp [results,Tryz.results82,go_sem,Rc0,Rc1,Rc2,Rc3,Rc4,Rc5,Rc6,Rc7,Rc8,Rc9]) rfl ⟨_,rfl,OwnR.mono (((((((((((V.out.setCell (Nat.lt_succ_self _) _).setCell (Nat.lt_succ_of_lt hRE) _).setCell (Nat.lt_succ_of_lt hRE) _).setCell (Nat.lt_succ_of_lt hRE) _).setCell (Nat.lt_succ_of_lt hRE) _).setCell (Nat.lt_succ_of_lt hRE) _).setCell (Nat.lt_succ_of_lt hRE) _).setCell (Nat.lt_succ_of_lt hRE) _).setCell (Nat.lt_succ_of_lt hRE) _).setCell (Nat.lt_succ_of_lt hRE) _).setCell (Nat.lt_succ_of_lt hRE) _) (Nat.le_succ_of_le hE),?_⟩
 exact (((((((((((HB.out.setCell hE _).setCell (Nat.le_refl _) _).setCell (Nat.le_refl _) _).setCell (Nat.le_refl _) _).setCell (Nat.le_refl _) _).setCell (Nat.le_refl _) _).setCell (Nat.le_refl _) _).setCell (Nat.le_refl _) _).setCell (Nat.le_refl _) _).setCell (Nat.le_refl _) _).setCell (Nat.le_refl _) _)

theorem frread_1cut (l:List UInt8) (hl:l.length≤4294967296) (hne:1≤l.length) {kb:UInt8} (hb:l.getD 0 0=kb) {n f:Nat} (HU:Hid (vget l 1=(n,f,0))) (hn:n≤1099511627776) (hk:kb.toNat=1) (hf:l.length≤f) (w:World) :
  Calls Tryz.prog 82 #[.string ⟨l.toArray⟩] w fun e w' => ∃ v,e=.returned (.agg #[.int .i64 0,.int .i64 0,.bool false,.string ⟨#[]⟩,.int .i64 0,.int .i64 0,.int .i64 0,.string ⟨#[]⟩,.int .u64 0,v])∧OwnR w' w.heap.size v []∧Below w.heap.size w w':=by
 have t9:decide ((l.length:Int)≤(f:Int))=true:=by rw [decide_eq_true_eq]; omega
 have t9b:decide (l.length≤f)=true:=by rw [decide_eq_true_eq]; omega
 have hs1:(⟨l.toArray⟩ : ByteArray).size=l.length:=size_bytes l
 have hq0:0 < (⟨l.toArray⟩ : ByteArray).size:=by omega
 have hb0:=getD_byteF l 0 (by omega) hq0
 rw [hb] at hb0
 have hk256:=kb.toNat_lt
 have hnil:(l == [])=false:=by cases l <;> simp at hne ⊢
 have hnil2:l ≠ []:=by intro h; rw [h] at hne; simp at hne
 clear hb
 have t2:decide ((1099511627776:Int) < (n:Int))=false:=by rw [decide_eq_false_iff_not]; omega
 have t2b:decide (1099511627776 < n)=false:=by rw [decide_eq_false_iff_not]; omega
 have hwn:IntKind.i64.wrap (n:Int)=n:=wrap_small hn
 have hwn2:wrap64 (n:Int)=n:=by rw [← wrap_i64F]; exact hwn
 have hfl:=(vget_facts HU.out).2.1
 obtain⟨R,HB⟩:=ent1 w (.cells #[.int .i64 0,.int .i64 0,.bool false,.string ⟨#[]⟩,.int .i64 0,.int .i64 0,.int .i64 0,.string ⟨#[]⟩,.int .u64 0,.slice none 0 0] 56)
 go_enter Tryz.func82,Tryz.ntmps82
 go_wp2_with fail
 refine (rget_eq l hl 1 _ HU).mono ?_
 rintro e wp ⟨rfl,rfl⟩
 generalize w.alloc (.cells #[.int .i64 0,.int .i64 0,.bool false,.string ⟨#[]⟩,.int .i64 0,.int .i64 0,.int .i64 0,.string ⟨#[]⟩,.int .u64 0,.slice none 0 0] 56)=w2 at R HB ⊢
 obtain⟨⟨Rc0,Rc1,Rc2,Rc3,Rc4,Rc5,Rc6,Rc7,Rc8,Rc9⟩,⟨Rf0,Rf1,Rf2,Rf3,Rf4,Rf5,Rf6,Rf7,Rf8,Rf9⟩⟩:=blk10 R.out
 have hR:=(Array.getElem?_eq_some_iff.1 R.out).1
 go_wp2_with fail
 refine bodyPost_ret (v:=.agg #[.int .i64 0,.int .i64 0,.bool false,.string ⟨#[]⟩,.int .i64 0,.int .i64 0,.int .i64 0,.string ⟨#[]⟩,.int .u64 0,.slice none 0 0]) (by simp [results,Tryz.results82,go_sem,Rc0,Rc1,Rc2,Rc3,Rc4,Rc5,Rc6,Rc7,Rc8,Rc9,World.cell?_alloc_lt,hR]) rfl ⟨_,rfl,ownR_nil _ _,?_⟩
 exact (((((((((((HB.out.setCell (Nat.le_refl _) _).setCell (Nat.le_refl _) _).setCell (Nat.le_refl _) _).setCell (Nat.le_refl _) _).setCell (Nat.le_refl _) _).setCell (Nat.le_refl _) _).setCell (Nat.le_refl _) _).setCell (Nat.le_refl _) _).setCell (Nat.le_refl _) _).setCell (Nat.le_refl _) _)).alloc (by simp only [setCell_size]; exact HB.out.size) _

theorem frread_1ie (l:List UInt8) (hl:l.length≤4294967296) (hne:1≤l.length) {kb:UInt8} (hb:l.getD 0 0=kb) {n f:Nat} (HU:Hid (vget l 1=(n,f,0))) (hn:n≤1099511627776) (hk:kb.toNat=1) (hf:f < l.length) {x:UInt8} (hx:l.getD f 0=x) (hon:x.toNat=1) {c:List UInt8} {q er:Nat} (HI:Hid (idTake l ((f+1:Nat):Int)=(c,q,er))) (he:er ≠ 0) (w:World) :
  Calls Tryz.prog 82 #[.string ⟨l.toArray⟩] w fun e w' => ∃ v,e=.returned (.agg #[.int .i64 0,.int .i64 0,.bool false,.string ⟨#[]⟩,.int .i64 0,.int .i64 0,.int .i64 0,.string ⟨#[]⟩,.int .u64 0,v])∧OwnR w' w.heap.size v []∧Below w.heap.size w w':=by
 have t9:decide ((l.length:Int)≤(f:Int))=false:=by rw [decide_eq_false_iff_not]; omega
 have t9b:decide (l.length≤f)=false:=by rw [decide_eq_false_iff_not]; omega
 have hq:f < (⟨l.toArray⟩ : ByteArray).size:=by rw [size_bytes]; exact hf
 have hbp:=getD_byteF l f hf hq
 rw [hx] at hbp
 have hx256:=x.toNat_lt
 clear hx
 have tx:((x.toNat:Int) == 1)=true:=by rw [beq_iff_eq]; omega
 have txb:(x.toNat == 1)=true:=by rw [beq_iff_eq]; omega
 have t1:((er:Int) != 0)=true:=by simp; omega
 clear he
 have hs1:(⟨l.toArray⟩ : ByteArray).size=l.length:=size_bytes l
 have hq0:0 < (⟨l.toArray⟩ : ByteArray).size:=by omega
 have hb0:=getD_byteF l 0 (by omega) hq0
 rw [hb] at hb0
 have hk256:=kb.toNat_lt
 have hnil:(l == [])=false:=by cases l <;> simp at hne ⊢
 have hnil2:l ≠ []:=by intro h; rw [h] at hne; simp at hne
 clear hb
 have t2:decide ((1099511627776:Int) < (n:Int))=false:=by rw [decide_eq_false_iff_not]; omega
 have t2b:decide (1099511627776 < n)=false:=by rw [decide_eq_false_iff_not]; omega
 have hwn:IntKind.i64.wrap (n:Int)=n:=wrap_small hn
 have hwn2:wrap64 (n:Int)=n:=by rw [← wrap_i64F]; exact hwn
 have hfl:=(vget_facts HU.out).2.1
 obtain⟨R,HB⟩:=ent1 w (.cells #[.int .i64 0,.int .i64 0,.bool false,.string ⟨#[]⟩,.int .i64 0,.int .i64 0,.int .i64 0,.string ⟨#[]⟩,.int .u64 0,.slice none 0 0] 56)
 go_enter Tryz.func82,Tryz.ntmps82
 go_wp2_with fail
 refine (rget_eq l hl 1 _ HU).mono ?_
 rintro e wp ⟨rfl,rfl⟩
 generalize w.alloc (.cells #[.int .i64 0,.int .i64 0,.bool false,.string ⟨#[]⟩,.int .i64 0,.int .i64 0,.int .i64 0,.string ⟨#[]⟩,.int .u64 0,.slice none 0 0] 56)=w2 at R HB ⊢
 go_wp2_with fail
 have hRl0:=hZq (Array.getElem?_eq_some_iff.1 R.out).1
 have b3:=bl_newZ w2 (.cells #[.int .i64 1,.int .i64 n,.bool true,.string ⟨#[]⟩,.int .i64 0,.int .i64 0,.int .i64 0,.string ⟨#[]⟩,.int .u64 0,.slice none 0 0] 56)
 have E:=newQ w2 (.cells #[.int .i64 1,.int .i64 n,.bool true,.string ⟨#[]⟩,.int .i64 0,.int .i64 0,.int .i64 0,.string ⟨#[]⟩,.int .u64 0,.slice none 0 0] 56)
 have hE:w.heap.size≤w2.heap.size:=HB.out.size
 replace R:=hZq (upQ R.out b3)
 replace HB:=hZq (below2Z HB.out b3)
 clear b3
 replace E:=hZq E
 generalize w2.alloc (.cells #[.int .i64 1,.int .i64 n,.bool true,.string ⟨#[]⟩,.int .i64 0,.int .i64 0,.int .i64 0,.string ⟨#[]⟩,.int .u64 0,.slice none 0 0] 56)=w4 at R E HB ⊢
 have hRE:w.heap.size < w2.heap.size:=hRl0.out
 clear hRl0
 generalize w2.heap.size=BE at E hE hRE ⊢
 refine (ridtake_eq l hl ((f+1:Nat):Int) HI _).mono ?_
 rintro e wp ⟨rfl,rfl⟩
 obtain⟨⟨Rc0,Rc1,Rc2,Rc3,Rc4,Rc5,Rc6,Rc7,Rc8,Rc9⟩,⟨Rf0,Rf1,Rf2,Rf3,Rf4,Rf5,Rf6,Rf7,Rf8,Rf9⟩⟩:=blk10 R.out
 go_wp2_with fail
 refine bodyPost_ret (v:=.agg #[.int .i64 0,.int .i64 0,.bool false,.string ⟨#[]⟩,.int .i64 0,.int .i64 0,.int .i64 0,.string ⟨#[]⟩,.int .u64 0,.slice none 0 0]) (by simp [results,Tryz.results82,go_sem,Rc0,Rc1,Rc2,Rc3,Rc4,Rc5,Rc6,Rc7,Rc8,Rc9]) rfl ⟨_,rfl,ownR_nil _ _,?_⟩
 exact ((((((((((HB.out.setCell (Nat.le_refl _) _).setCell (Nat.le_refl _) _).setCell (Nat.le_refl _) _).setCell (Nat.le_refl _) _).setCell (Nat.le_refl _) _).setCell (Nat.le_refl _) _).setCell (Nat.le_refl _) _).setCell (Nat.le_refl _) _).setCell (Nat.le_refl _) _).setCell (Nat.le_refl _) _)

theorem frread_1oie (l:List UInt8) (hl:l.length≤4294967296) (hne:1≤l.length) {kb:UInt8} (hb:l.getD 0 0=kb) {n f:Nat} (HU:Hid (vget l 1=(n,f,0))) (hn:n≤1099511627776) (hk:kb.toNat=1) (hf:f < l.length) {x:UInt8} (hx:l.getD f 0=x) (hon:¬ x.toNat=1) {c:List UInt8} {q er:Nat} (HI:Hid (idTake l ((f+1:Nat):Int)=(c,q,er))) (he:er ≠ 0) (w:World) :
  Calls Tryz.prog 82 #[.string ⟨l.toArray⟩] w fun e w' => ∃ v,e=.returned (.agg #[.int .i64 0,.int .i64 0,.bool false,.string ⟨#[]⟩,.int .i64 0,.int .i64 0,.int .i64 0,.string ⟨#[]⟩,.int .u64 0,v])∧OwnR w' w.heap.size v []∧Below w.heap.size w w':=by
 have t9:decide ((l.length:Int)≤(f:Int))=false:=by rw [decide_eq_false_iff_not]; omega
 have t9b:decide (l.length≤f)=false:=by rw [decide_eq_false_iff_not]; omega
 have hq:f < (⟨l.toArray⟩ : ByteArray).size:=by rw [size_bytes]; exact hf
 have hbp:=getD_byteF l f hf hq
 rw [hx] at hbp
 have hx256:=x.toNat_lt
 clear hx
 have tx:((x.toNat:Int) == 1)=false:=by rw [beq_eq_false_iff_ne]; omega
 have txb:(x.toNat == 1)=false:=by rw [beq_eq_false_iff_ne]; omega
 have t1:((er:Int) != 0)=true:=by simp; omega
 clear he
 have hs1:(⟨l.toArray⟩ : ByteArray).size=l.length:=size_bytes l
 have hq0:0 < (⟨l.toArray⟩ : ByteArray).size:=by omega
 have hb0:=getD_byteF l 0 (by omega) hq0
 rw [hb] at hb0
 have hk256:=kb.toNat_lt
 have hnil:(l == [])=false:=by cases l <;> simp at hne ⊢
 have hnil2:l ≠ []:=by intro h; rw [h] at hne; simp at hne
 clear hb
 have t2:decide ((1099511627776:Int) < (n:Int))=false:=by rw [decide_eq_false_iff_not]; omega
 have t2b:decide (1099511627776 < n)=false:=by rw [decide_eq_false_iff_not]; omega
 have hwn:IntKind.i64.wrap (n:Int)=n:=wrap_small hn
 have hwn2:wrap64 (n:Int)=n:=by rw [← wrap_i64F]; exact hwn
 have hfl:=(vget_facts HU.out).2.1
 obtain⟨R,HB⟩:=ent1 w (.cells #[.int .i64 0,.int .i64 0,.bool false,.string ⟨#[]⟩,.int .i64 0,.int .i64 0,.int .i64 0,.string ⟨#[]⟩,.int .u64 0,.slice none 0 0] 56)
 go_enter Tryz.func82,Tryz.ntmps82
 go_wp2_with fail
 refine (rget_eq l hl 1 _ HU).mono ?_
 rintro e wp ⟨rfl,rfl⟩
 generalize w.alloc (.cells #[.int .i64 0,.int .i64 0,.bool false,.string ⟨#[]⟩,.int .i64 0,.int .i64 0,.int .i64 0,.string ⟨#[]⟩,.int .u64 0,.slice none 0 0] 56)=w2 at R HB ⊢
 go_wp2_with fail
 have hRl0:=hZq (Array.getElem?_eq_some_iff.1 R.out).1
 have b3:=bl_newZ w2 (.cells #[.int .i64 1,.int .i64 n,.bool false,.string ⟨#[]⟩,.int .i64 0,.int .i64 0,.int .i64 0,.string ⟨#[]⟩,.int .u64 0,.slice none 0 0] 56)
 have E:=newQ w2 (.cells #[.int .i64 1,.int .i64 n,.bool false,.string ⟨#[]⟩,.int .i64 0,.int .i64 0,.int .i64 0,.string ⟨#[]⟩,.int .u64 0,.slice none 0 0] 56)
 have hE:w.heap.size≤w2.heap.size:=HB.out.size
 replace R:=hZq (upQ R.out b3)
 replace HB:=hZq (below2Z HB.out b3)
 clear b3
 replace E:=hZq E
 generalize w2.alloc (.cells #[.int .i64 1,.int .i64 n,.bool false,.string ⟨#[]⟩,.int .i64 0,.int .i64 0,.int .i64 0,.string ⟨#[]⟩,.int .u64 0,.slice none 0 0] 56)=w4 at R E HB ⊢
 have hRE:w.heap.size < w2.heap.size:=hRl0.out
 clear hRl0
 generalize w2.heap.size=BE at E hE hRE ⊢
 refine (ridtake_eq l hl ((f+1:Nat):Int) HI _).mono ?_
 rintro e wp ⟨rfl,rfl⟩
 obtain⟨⟨Rc0,Rc1,Rc2,Rc3,Rc4,Rc5,Rc6,Rc7,Rc8,Rc9⟩,⟨Rf0,Rf1,Rf2,Rf3,Rf4,Rf5,Rf6,Rf7,Rf8,Rf9⟩⟩:=blk10 R.out
 go_wp2_with fail
 refine bodyPost_ret (v:=.agg #[.int .i64 0,.int .i64 0,.bool false,.string ⟨#[]⟩,.int .i64 0,.int .i64 0,.int .i64 0,.string ⟨#[]⟩,.int .u64 0,.slice none 0 0]) (by simp [results,Tryz.results82,go_sem,Rc0,Rc1,Rc2,Rc3,Rc4,Rc5,Rc6,Rc7,Rc8,Rc9]) rfl ⟨_,rfl,ownR_nil _ _,?_⟩
 exact ((((((((((HB.out.setCell (Nat.le_refl _) _).setCell (Nat.le_refl _) _).setCell (Nat.le_refl _) _).setCell (Nat.le_refl _) _).setCell (Nat.le_refl _) _).setCell (Nat.le_refl _) _).setCell (Nat.le_refl _) _).setCell (Nat.le_refl _) _).setCell (Nat.le_refl _) _).setCell (Nat.le_refl _) _)

theorem frread_1off (l:List UInt8) (hl:l.length≤4294967296) (hne:1≤l.length) {kb:UInt8} (hb:l.getD 0 0=kb) {n f:Nat} (HU:Hid (vget l 1=(n,f,0))) (hn:n≤1099511627776) (hk:kb.toNat=1) (hf:f < l.length) {x:UInt8} (hx:l.getD f 0=x) (hon:¬ x.toNat=1) {c:List UInt8} {q:Nat} (HI:Hid (idTake l ((f+1:Nat):Int)=(c,q,0))) (w:World) :
  Calls Tryz.prog 82 #[.string ⟨l.toArray⟩] w fun e w' => ∃ v,e=.returned (.agg #[.int .i64 1,.int .i64 n,.bool false,.string ⟨c.toArray⟩,.int .i64 0,.int .i64 0,.int .i64 0,.string ⟨#[]⟩,.int .u64 0,v])∧OwnR w' w.heap.size v []∧Below w.heap.size w w':=by
 have t9:decide ((l.length:Int)≤(f:Int))=false:=by rw [decide_eq_false_iff_not]; omega
 have t9b:decide (l.length≤f)=false:=by rw [decide_eq_false_iff_not]; omega
 have hq:f < (⟨l.toArray⟩ : ByteArray).size:=by rw [size_bytes]; exact hf
 have hbp:=getD_byteF l f hf hq
 rw [hx] at hbp
 have hx256:=x.toNat_lt
 clear hx
 have tx:((x.toNat:Int) == 1)=false:=by rw [beq_eq_false_iff_ne]; omega
 have txb:(x.toNat == 1)=false:=by rw [beq_eq_false_iff_ne]; omega
 have hs1:(⟨l.toArray⟩ : ByteArray).size=l.length:=size_bytes l
 have hq0:0 < (⟨l.toArray⟩ : ByteArray).size:=by omega
 have hb0:=getD_byteF l 0 (by omega) hq0
 rw [hb] at hb0
 have hk256:=kb.toNat_lt
 have hnil:(l == [])=false:=by cases l <;> simp at hne ⊢
 have hnil2:l ≠ []:=by intro h; rw [h] at hne; simp at hne
 clear hb
 have t2:decide ((1099511627776:Int) < (n:Int))=false:=by rw [decide_eq_false_iff_not]; omega
 have t2b:decide (1099511627776 < n)=false:=by rw [decide_eq_false_iff_not]; omega
 have hwn:IntKind.i64.wrap (n:Int)=n:=wrap_small hn
 have hwn2:wrap64 (n:Int)=n:=by rw [← wrap_i64F]; exact hwn
 have hfl:=(vget_facts HU.out).2.1
 obtain⟨R,HB⟩:=ent1 w (.cells #[.int .i64 0,.int .i64 0,.bool false,.string ⟨#[]⟩,.int .i64 0,.int .i64 0,.int .i64 0,.string ⟨#[]⟩,.int .u64 0,.slice none 0 0] 56)
 go_enter Tryz.func82,Tryz.ntmps82
 go_wp2_with fail
 refine (rget_eq l hl 1 _ HU).mono ?_
 rintro e wp ⟨rfl,rfl⟩
 generalize w.alloc (.cells #[.int .i64 0,.int .i64 0,.bool false,.string ⟨#[]⟩,.int .i64 0,.int .i64 0,.int .i64 0,.string ⟨#[]⟩,.int .u64 0,.slice none 0 0] 56)=w2 at R HB ⊢
 go_wp2_with fail
 have hRl0:=hZq (Array.getElem?_eq_some_iff.1 R.out).1
 have b3:=bl_newZ w2 (.cells #[.int .i64 1,.int .i64 n,.bool false,.string ⟨#[]⟩,.int .i64 0,.int .i64 0,.int .i64 0,.string ⟨#[]⟩,.int .u64 0,.slice none 0 0] 56)
 have E:=newQ w2 (.cells #[.int .i64 1,.int .i64 n,.bool false,.string ⟨#[]⟩,.int .i64 0,.int .i64 0,.int .i64 0,.string ⟨#[]⟩,.int .u64 0,.slice none 0 0] 56)
 have hE:w.heap.size≤w2.heap.size:=HB.out.size
 replace R:=hZq (upQ R.out b3)
 replace HB:=hZq (below2Z HB.out b3)
 clear b3
 replace E:=hZq E
 generalize w2.alloc (.cells #[.int .i64 1,.int .i64 n,.bool false,.string ⟨#[]⟩,.int .i64 0,.int .i64 0,.int .i64 0,.string ⟨#[]⟩,.int .u64 0,.slice none 0 0] 56)=w4 at R E HB ⊢
 have hRE:w.heap.size < w2.heap.size:=hRl0.out
 clear hRl0
 generalize w2.heap.size=BE at E hE hRE ⊢
 refine (ridtake_eq l hl ((f+1:Nat):Int) HI _).mono ?_
 rintro e wp ⟨rfl,rfl⟩
 have Eo:=blk10 E.out
 obtain⟨⟨Rc0,Rc1,Rc2,Rc3,Rc4,Rc5,Rc6,Rc7,Rc8,Rc9⟩,⟨Rf0,Rf1,Rf2,Rf3,Rf4,Rf5,Rf6,Rf7,Rf8,Rf9⟩⟩:=blk10 R.out
 go_wp2_with fail
 refine bodyPost_ret (v:=.agg #[.int .i64 1,.int .i64 n,.bool false,.string ⟨c.toArray⟩,.int .i64 0,.int .i64 0,.int .i64 0,.string ⟨#[]⟩,.int .u64 0,.slice none 0 0]) (by simp [results,Tryz.results82,go_sem,Rc0,Rc1,Rc2,Rc3,Rc4,Rc5,Rc6,Rc7,Rc8,Rc9]) rfl ⟨_,rfl,ownR_nil _ _,?_⟩
 exact (((((((((((HB.out.setCell hE _).setCell (Nat.le_refl _) _).setCell (Nat.le_refl _) _).setCell (Nat.le_refl _) _).setCell (Nat.le_refl _) _).setCell (Nat.le_refl _) _).setCell (Nat.le_refl _) _).setCell (Nat.le_refl _) _).setCell (Nat.le_refl _) _).setCell (Nat.le_refl _) _).setCell (Nat.le_refl _) _)

theorem frread_1ve (l:List UInt8) (hl:l.length≤4294967296) (hne:1≤l.length) {kb:UInt8} (hb:l.getD 0 0=kb) {n f:Nat} (HU:Hid (vget l 1=(n,f,0))) (hn:n≤1099511627776) (hk:kb.toNat=1) (hf:f < l.length) {x:UInt8} (hx:l.getD f 0=x) (hon:x.toNat=1) {c:List UInt8} {q:Nat} (HI:Hid (idTake l ((f+1:Nat):Int)=(c,q,0))) {sh pr si:Int} {st:List UInt8} {q2 er:Nat} (HV:Hid (vaTake l q=(⟨sh,pr,si,st⟩,q2,er))) (he:er ≠ 0) (w:World) :
  Calls Tryz.prog 82 #[.string ⟨l.toArray⟩] w fun e w' => ∃ v,e=.returned (.agg #[.int .i64 0,.int .i64 0,.bool false,.string ⟨#[]⟩,.int .i64 0,.int .i64 0,.int .i64 0,.string ⟨#[]⟩,.int .u64 0,v])∧OwnR w' w.heap.size v []∧Below w.heap.size w w':=by
 have t9:decide ((l.length:Int)≤(f:Int))=false:=by rw [decide_eq_false_iff_not]; omega
 have t9b:decide (l.length≤f)=false:=by rw [decide_eq_false_iff_not]; omega
 have hq:f < (⟨l.toArray⟩ : ByteArray).size:=by rw [size_bytes]; exact hf
 have hbp:=getD_byteF l f hf hq
 rw [hx] at hbp
 have hx256:=x.toNat_lt
 clear hx
 have tx:((x.toNat:Int) == 1)=true:=by rw [beq_iff_eq]; omega
 have txb:(x.toNat == 1)=true:=by rw [beq_iff_eq]; omega
 have t1:((er:Int) != 0)=true:=by simp; omega
 clear he
 have hs1:(⟨l.toArray⟩ : ByteArray).size=l.length:=size_bytes l
 have hq0:0 < (⟨l.toArray⟩ : ByteArray).size:=by omega
 have hb0:=getD_byteF l 0 (by omega) hq0
 rw [hb] at hb0
 have hk256:=kb.toNat_lt
 have hnil:(l == [])=false:=by cases l <;> simp at hne ⊢
 have hnil2:l ≠ []:=by intro h; rw [h] at hne; simp at hne
 clear hb
 have t2:decide ((1099511627776:Int) < (n:Int))=false:=by rw [decide_eq_false_iff_not]; omega
 have t2b:decide (1099511627776 < n)=false:=by rw [decide_eq_false_iff_not]; omega
 have hwn:IntKind.i64.wrap (n:Int)=n:=wrap_small hn
 have hwn2:wrap64 (n:Int)=n:=by rw [← wrap_i64F]; exact hwn
 have hfl:=(vget_facts HU.out).2.1
 obtain⟨R,HB⟩:=ent1 w (.cells #[.int .i64 0,.int .i64 0,.bool false,.string ⟨#[]⟩,.int .i64 0,.int .i64 0,.int .i64 0,.string ⟨#[]⟩,.int .u64 0,.slice none 0 0] 56)
 go_enter Tryz.func82,Tryz.ntmps82
 go_wp2_with fail
 refine (rget_eq l hl 1 _ HU).mono ?_
 rintro e wp ⟨rfl,rfl⟩
 generalize w.alloc (.cells #[.int .i64 0,.int .i64 0,.bool false,.string ⟨#[]⟩,.int .i64 0,.int .i64 0,.int .i64 0,.string ⟨#[]⟩,.int .u64 0,.slice none 0 0] 56)=w2 at R HB ⊢
 go_wp2_with fail
 have hRl0:=hZq (Array.getElem?_eq_some_iff.1 R.out).1
 have b3:=bl_newZ w2 (.cells #[.int .i64 1,.int .i64 n,.bool true,.string ⟨#[]⟩,.int .i64 0,.int .i64 0,.int .i64 0,.string ⟨#[]⟩,.int .u64 0,.slice none 0 0] 56)
 have E:=newQ w2 (.cells #[.int .i64 1,.int .i64 n,.bool true,.string ⟨#[]⟩,.int .i64 0,.int .i64 0,.int .i64 0,.string ⟨#[]⟩,.int .u64 0,.slice none 0 0] 56)
 have hE:w.heap.size≤w2.heap.size:=HB.out.size
 replace R:=hZq (upQ R.out b3)
 replace HB:=hZq (below2Z HB.out b3)
 clear b3
 replace E:=hZq E
 generalize w2.alloc (.cells #[.int .i64 1,.int .i64 n,.bool true,.string ⟨#[]⟩,.int .i64 0,.int .i64 0,.int .i64 0,.string ⟨#[]⟩,.int .u64 0,.slice none 0 0] 56)=w4 at R E HB ⊢
 have hRE:w.heap.size < w2.heap.size:=hRl0.out
 clear hRl0
 generalize w2.heap.size=BE at E hE hRE ⊢
 refine (ridtake_eq l hl ((f+1:Nat):Int) HI _).mono ?_
 rintro e wp ⟨rfl,rfl⟩
 have Eo:=blk10 E.out
 go_wp2_with fail
 clear Eo
 have Ez:=hZq (stS E.out 3 (.string ⟨c.toArray⟩) [.int .i64 1,.int .i64 n,.bool true,.string ⟨c.toArray⟩,.int .i64 0,.int .i64 0,.int .i64 0,.string ⟨#[]⟩,.int .u64 0,.slice none 0 0] rfl)
 have Rz:=hZq (stK R.out (a:=⟨BE,3,none⟩) (u:=.string ⟨c.toArray⟩) (show ¬ w.heap.size=BE by omega))
 have HBz:Hid (Below w.heap.size w (w4.setCell ⟨BE,3,none⟩ (.string ⟨c.toArray⟩))):=hZq (HB.out.setCell hE _)
 clear HB R E
 generalize w4.setCell ⟨BE,3,none⟩ (.string ⟨c.toArray⟩)=w5 at Rz Ez HBz ⊢
 have R:=Rz
 clear Rz
 have E:=Ez
 clear Ez
 have HB:=HBz
 clear HBz
 refine (rvatake_eq l hl q HV _).mono ?_
 rintro e w6 ⟨rfl,b6⟩
 replace R:=hZq (upQ R.out b6)
 replace E:=hZq (upQ E.out b6)
 replace HB:=hZq (below2Z HB.out b6)
 clear b6
 obtain⟨⟨Rc0,Rc1,Rc2,Rc3,Rc4,Rc5,Rc6,Rc7,Rc8,Rc9⟩,⟨Rf0,Rf1,Rf2,Rf3,Rf4,Rf5,Rf6,Rf7,Rf8,Rf9⟩⟩:=blk10 R.out
 have hR:=(Array.getElem?_eq_some_iff.1 R.out).1
 go_wp2_with fail
 refine bodyPost_ret (v:=.agg #[.int .i64 0,.int .i64 0,.bool false,.string ⟨#[]⟩,.int .i64 0,.int .i64 0,.int .i64 0,.string ⟨#[]⟩,.int .u64 0,.slice none 0 0]) (by simp [results,Tryz.results82,go_sem,Rc0,Rc1,Rc2,Rc3,Rc4,Rc5,Rc6,Rc7,Rc8,Rc9,World.cell?_alloc_lt,hR]) rfl ⟨_,rfl,ownR_nil _ _,?_⟩
 exact (((((((((((HB.out.setCell (Nat.le_refl _) _).setCell (Nat.le_refl _) _).setCell (Nat.le_refl _) _).setCell (Nat.le_refl _) _).setCell (Nat.le_refl _) _).setCell (Nat.le_refl _) _).setCell (Nat.le_refl _) _).setCell (Nat.le_refl _) _).setCell (Nat.le_refl _) _).setCell (Nat.le_refl _) _)).alloc (by simp only [setCell_size]; exact HB.out.size) _

theorem frread_1on (l:List UInt8) (hl:l.length≤4294967296) (hne:1≤l.length) {kb:UInt8} (hb:l.getD 0 0=kb) {n f:Nat} (HU:Hid (vget l 1=(n,f,0))) (hn:n≤1099511627776) (hk:kb.toNat=1) (hf:f < l.length) {x:UInt8} (hx:l.getD f 0=x) (hon:x.toNat=1) {c:List UInt8} {q:Nat} (HI:Hid (idTake l ((f+1:Nat):Int)=(c,q,0))) {sh pr si:Int} {st:List UInt8} {q2:Nat} (HV:Hid (vaTake l q=(⟨sh,pr,si,st⟩,q2,0))) (w:World) :
  Calls Tryz.prog 82 #[.string ⟨l.toArray⟩] w fun e w' => ∃ v,e=.returned (.agg #[.int .i64 1,.int .i64 n,.bool true,.string ⟨c.toArray⟩,.int .i64 sh,.int .i64 pr,.int .i64 si,.string ⟨st.toArray⟩,.int .u64 0,v])∧OwnR w' w.heap.size v []∧Below w.heap.size w w':=by
 have t9:decide ((l.length:Int)≤(f:Int))=false:=by rw [decide_eq_false_iff_not]; omega
 have t9b:decide (l.length≤f)=false:=by rw [decide_eq_false_iff_not]; omega
 have hq:f < (⟨l.toArray⟩ : ByteArray).size:=by rw [size_bytes]; exact hf
 have hbp:=getD_byteF l f hf hq
 rw [hx] at hbp
 have hx256:=x.toNat_lt
 clear hx
 have tx:((x.toNat:Int) == 1)=true:=by rw [beq_iff_eq]; omega
 have txb:(x.toNat == 1)=true:=by rw [beq_iff_eq]; omega
 have hs1:(⟨l.toArray⟩ : ByteArray).size=l.length:=size_bytes l
 have hq0:0 < (⟨l.toArray⟩ : ByteArray).size:=by omega
 have hb0:=getD_byteF l 0 (by omega) hq0
 rw [hb] at hb0
 have hk256:=kb.toNat_lt
 have hnil:(l == [])=false:=by cases l <;> simp at hne ⊢
 have hnil2:l ≠ []:=by intro h; rw [h] at hne; simp at hne
 clear hb
 have t2:decide ((1099511627776:Int) < (n:Int))=false:=by rw [decide_eq_false_iff_not]; omega
 have t2b:decide (1099511627776 < n)=false:=by rw [decide_eq_false_iff_not]; omega
 have hwn:IntKind.i64.wrap (n:Int)=n:=wrap_small hn
 have hwn2:wrap64 (n:Int)=n:=by rw [← wrap_i64F]; exact hwn
 have hfl:=(vget_facts HU.out).2.1
 obtain⟨R,HB⟩:=ent1 w (.cells #[.int .i64 0,.int .i64 0,.bool false,.string ⟨#[]⟩,.int .i64 0,.int .i64 0,.int .i64 0,.string ⟨#[]⟩,.int .u64 0,.slice none 0 0] 56)
 go_enter Tryz.func82,Tryz.ntmps82
 go_wp2_with fail
 refine (rget_eq l hl 1 _ HU).mono ?_
 rintro e wp ⟨rfl,rfl⟩
 generalize w.alloc (.cells #[.int .i64 0,.int .i64 0,.bool false,.string ⟨#[]⟩,.int .i64 0,.int .i64 0,.int .i64 0,.string ⟨#[]⟩,.int .u64 0,.slice none 0 0] 56)=w2 at R HB ⊢
 go_wp2_with fail
 have hRl0:=hZq (Array.getElem?_eq_some_iff.1 R.out).1
 have b3:=bl_newZ w2 (.cells #[.int .i64 1,.int .i64 n,.bool true,.string ⟨#[]⟩,.int .i64 0,.int .i64 0,.int .i64 0,.string ⟨#[]⟩,.int .u64 0,.slice none 0 0] 56)
 have E:=newQ w2 (.cells #[.int .i64 1,.int .i64 n,.bool true,.string ⟨#[]⟩,.int .i64 0,.int .i64 0,.int .i64 0,.string ⟨#[]⟩,.int .u64 0,.slice none 0 0] 56)
 have hE:w.heap.size≤w2.heap.size:=HB.out.size
 replace R:=hZq (upQ R.out b3)
 replace HB:=hZq (below2Z HB.out b3)
 clear b3
 replace E:=hZq E
 generalize w2.alloc (.cells #[.int .i64 1,.int .i64 n,.bool true,.string ⟨#[]⟩,.int .i64 0,.int .i64 0,.int .i64 0,.string ⟨#[]⟩,.int .u64 0,.slice none 0 0] 56)=w4 at R E HB ⊢
 have hRE:w.heap.size < w2.heap.size:=hRl0.out
 clear hRl0
 generalize w2.heap.size=BE at E hE hRE ⊢
 refine (ridtake_eq l hl ((f+1:Nat):Int) HI _).mono ?_
 rintro e wp ⟨rfl,rfl⟩
 have Eo:=blk10 E.out
 go_wp2_with fail
 clear Eo
 have Ez:=hZq (stS E.out 3 (.string ⟨c.toArray⟩) [.int .i64 1,.int .i64 n,.bool true,.string ⟨c.toArray⟩,.int .i64 0,.int .i64 0,.int .i64 0,.string ⟨#[]⟩,.int .u64 0,.slice none 0 0] rfl)
 have Rz:=hZq (stK R.out (a:=⟨BE,3,none⟩) (u:=.string ⟨c.toArray⟩) (show ¬ w.heap.size=BE by omega))
 have HBz:Hid (Below w.heap.size w (w4.setCell ⟨BE,3,none⟩ (.string ⟨c.toArray⟩))):=hZq (HB.out.setCell hE _)
 clear HB R E
 generalize w4.setCell ⟨BE,3,none⟩ (.string ⟨c.toArray⟩)=w5 at Rz Ez HBz ⊢
 have R:=Rz
 clear Rz
 have E:=Ez
 clear Ez
 have HB:=HBz
 clear HBz
 refine (rvatake_eq l hl q HV _).mono ?_
 rintro e w6 ⟨rfl,b6⟩
 replace R:=hZq (upQ R.out b6)
 replace E:=hZq (upQ E.out b6)
 replace HB:=hZq (below2Z HB.out b6)
 clear b6
 have Eo:=blk10 E.out
 obtain⟨⟨Rc0,Rc1,Rc2,Rc3,Rc4,Rc5,Rc6,Rc7,Rc8,Rc9⟩,⟨Rf0,Rf1,Rf2,Rf3,Rf4,Rf5,Rf6,Rf7,Rf8,Rf9⟩⟩:=blk10 R.out
 have hR:=(Array.getElem?_eq_some_iff.1 R.out).1
 have hEl:=(Array.getElem?_eq_some_iff.1 E.out).1
 go_wp2_with fail
 refine bodyPost_ret (v:=.agg #[.int .i64 1,.int .i64 n,.bool true,.string ⟨c.toArray⟩,.int .i64 sh,.int .i64 pr,.int .i64 si,.string ⟨st.toArray⟩,.int .u64 0,.slice none 0 0]) (by simp [results,Tryz.results82,go_sem,Rc0,Rc1,Rc2,Rc3,Rc4,Rc5,Rc6,Rc7,Rc8,Rc9,World.cell?_alloc_lt,hR]) rfl ⟨_,rfl,ownR_nil _ _,?_⟩
 exact (((((((((((((((HB.out.setCell hE _).setCell hE _).setCell hE _).setCell hE _).setCell (Nat.le_refl _) _).setCell (Nat.le_refl _) _).setCell (Nat.le_refl _) _).setCell (Nat.le_refl _) _).setCell (Nat.le_refl _) _).setCell (Nat.le_refl _) _).setCell (Nat.le_refl _) _).setCell (Nat.le_refl _) _).setCell (Nat.le_refl _) _).setCell (Nat.le_refl _) _)).alloc (by simp only [setCell_size]; exact HB.out.size) _

theorem frread_2 (l:List UInt8) (hl:l.length≤4294967296) (hne:1≤l.length) {kb:UInt8} (hb:l.getD 0 0=kb) {n f:Nat} (HU:Hid (vget l 1=(n,f,0))) (hn:n≤1099511627776) (hk:kb.toNat=2) (w:World) :
  Calls Tryz.prog 82 #[.string ⟨l.toArray⟩] w fun e w' => ∃ v,e=.returned (.agg #[.int .i64 2,.int .i64 n,.bool false,.string ⟨#[]⟩,.int .i64 0,.int .i64 0,.int .i64 0,.string ⟨#[]⟩,.int .u64 (sum8 ((l.drop f).take 8)),v])∧OwnR w' w.heap.size v []∧Below w.heap.size w w':=by
 have hgr:=Tryz.underlying54
 have hs1:(⟨l.toArray⟩ : ByteArray).size=l.length:=size_bytes l
 have hq0:0 < (⟨l.toArray⟩ : ByteArray).size:=by omega
 have hb0:=getD_byteF l 0 (by omega) hq0
 rw [hb] at hb0
 have hk256:=kb.toNat_lt
 have hnil:(l == [])=false:=by cases l <;> simp at hne ⊢
 have hnil2:l ≠ []:=by intro h; rw [h] at hne; simp at hne
 clear hb
 have t2:decide ((1099511627776:Int) < (n:Int))=false:=by rw [decide_eq_false_iff_not]; omega
 have t2b:decide (1099511627776 < n)=false:=by rw [decide_eq_false_iff_not]; omega
 have hwn:IntKind.i64.wrap (n:Int)=n:=wrap_small hn
 have hwn2:wrap64 (n:Int)=n:=by rw [← wrap_i64F]; exact hwn
 have hfl:=(vget_facts HU.out).2.1
 obtain⟨R,HB⟩:=ent1 w (.cells #[.int .i64 0,.int .i64 0,.bool false,.string ⟨#[]⟩,.int .i64 0,.int .i64 0,.int .i64 0,.string ⟨#[]⟩,.int .u64 0,.slice none 0 0] 56)
 go_enter Tryz.func82,Tryz.ntmps82
 go_wp2_with fail
 refine (rget_eq l hl 1 _ HU).mono ?_
 rintro e wp ⟨rfl,rfl⟩
 generalize w.alloc (.cells #[.int .i64 0,.int .i64 0,.bool false,.string ⟨#[]⟩,.int .i64 0,.int .i64 0,.int .i64 0,.string ⟨#[]⟩,.int .u64 0,.slice none 0 0] 56)=w2 at R HB ⊢
 go_wp2_with fail
 have hRl0:=hZq (Array.getElem?_eq_some_iff.1 R.out).1
 have b3:=bl_newZ w2 (.cells #[.int .i64 2,.int .i64 n,.bool false,.string ⟨#[]⟩,.int .i64 0,.int .i64 0,.int .i64 0,.string ⟨#[]⟩,.int .u64 0,.slice none 0 0] 56)
 have E:=newQ w2 (.cells #[.int .i64 2,.int .i64 n,.bool false,.string ⟨#[]⟩,.int .i64 0,.int .i64 0,.int .i64 0,.string ⟨#[]⟩,.int .u64 0,.slice none 0 0] 56)
 have hE:w.heap.size≤w2.heap.size:=HB.out.size
 replace R:=hZq (upQ R.out b3)
 replace HB:=hZq (below2Z HB.out b3)
 clear b3
 replace E:=hZq E
 generalize w2.alloc (.cells #[.int .i64 2,.int .i64 n,.bool false,.string ⟨#[]⟩,.int .i64 0,.int .i64 0,.int .i64 0,.string ⟨#[]⟩,.int .u64 0,.slice none 0 0] 56)=w4 at R E HB ⊢
 have hRE:w.heap.size < w2.heap.size:=hRl0.out
 clear hRl0
 generalize w2.heap.size=BE at E hE hRE ⊢
 go_loopw [13] (fun i wr => ∃ p j:Nat,f+j=p∧j≤8∧p≤l.length∧i=.int .i64 p∧Hid (Below w.heap.size w wr)∧Hid (wr.heap[w.heap.size]?=some (.cells #[.int .i64 0,.int .i64 0,.bool false,.string ⟨#[]⟩,.int .i64 0,.int .i64 0,.int .i64 0,.string ⟨#[]⟩,.int .u64 0,.slice none 0 0] 56 (0,0)))∧Hid (wr.heap[BE]?=some (.cells #[.int .i64 2,.int .i64 n,.bool false,.string ⟨#[]⟩,.int .i64 0,.int .i64 0,.int .i64 0,.string ⟨#[]⟩,.int .u64 (sum8 ((l.drop f).take j)),.slice none 0 0] 56 (0,0)))) (fun i _ => 8+f - (intOf i).toNat)
 case atStart => exact⟨f,0,rfl,by omega,hfl,rfl,HB,R,E⟩
 case round =>
 clear HB R E
 obtain⟨p,j,hp,hj,hpl,rfl,HB,R,E⟩:=hrel
 by_cases hA:p < l.length
 ·have tA:decide ((p:Int) < (l.length:Int))=true:=by rw [decide_eq_true_eq]; omega
  have tAb:decide (p < l.length)=true:=by rw [decide_eq_true_eq]; omega
  by_cases hB:j < 8
  ·have tB:decide ((p:Int) < (f:Int)+8)=true:=by rw [decide_eq_true_eq]; omega
   have tBb:decide (p < f+8)=true:=by rw [decide_eq_true_eq]; omega
   have hq:p < (⟨l.toArray⟩ : ByteArray).size:=by rw [size_bytes]; exact hA
   obtain⟨x,hx⟩ : ∃ x,l.getD p 0=x:=⟨_,rfl⟩
   have hbp:=getD_byteF l p hA hq
   rw [hx] at hbp
   have hx256:=x.toNat_lt
   have hlen:((l.drop f).take j).length≤7:=by rw [List.length_take]; omega
   have hsm:=sum8_short hlen
   have hnx:sum8 ((l.drop f).take (j+1))=sum8 ((l.drop f).take j) * 256+x.toNat:=by
    have hbx:(l.drop f)[j]?=some x:=by
     rw [List.getElem?_drop,hp,List.getElem?_eq_getElem hA,← hx,List.getD_eq_getElem?_getD,List.getElem?_eq_getElem hA]; rfl
    rw [List.take_add_one,hbx]
    exact sum8_snoc _ _
   obtain⟨s,hs⟩ : ∃ s,sum8 ((l.drop f).take j)=s:=⟨_,rfl⟩
   rw [hs] at hsm hnx E
   have HN:=hZq hnx
   have hm1:IntKind.u64.wrap (256 * (s:Int))=256 * s:=by rw [IntKind.wrap_u64]; omega
   have hv2:IntKind.u64.wrap (256 * (s:Int)+IntKind.u64.wrap (x.toNat:Int))=((s * 256+x.toNat:Nat):Int):=by rw [IntKind.wrap_u64,IntKind.wrap_u64]; omega
   have HV2:=hZq hv2
   clear hs hlen hnx hx hv2
   go_wp2_with fail
   obtain⟨BS,hBS⟩ : ∃ BS:List (Nat × List Value),BS=[(w.heap.size,[.int .i64 0,.int .i64 0,.bool false,.string ⟨#[]⟩,.int .i64 0,.int .i64 0,.int .i64 0,.string ⟨#[]⟩,.int .u64 0,.slice none 0 0])]:=⟨_,rfl⟩
   have D0:=hZq (show heldB wr BS from by rw [hBS]; exact heldB_cons (cellsAt_block R.out) (heldB_nil _))
   have hL:=heldB_at (b:=w.heap.size) (vs:=[.int .i64 0,.int .i64 0,.bool false,.string ⟨#[]⟩,.int .i64 0,.int .i64 0,.int .i64 0,.string ⟨#[]⟩,.int .u64 0,.slice none 0 0]) (bs:=BS) (by rw [hBS]; simp)
   have hq0:=hL 0 _ rfl
   have hq1:=hL 1 _ rfl
   have hq2:=hL 2 _ rfl
   have hq3:=hL 3 _ rfl
   have hq4:=hL 4 _ rfl
   have hq5:=hL 5 _ rfl
   have hq6:=hL 6 _ rfl
   have hq7:=hL 7 _ rfl
   have hq8:=hL 8 _ rfl
   have hq9:=hL 9 _ rfl
   clear hL
   have hBN:∀ p ∈ BS,p.1=w.heap.size:=by rw [hBS]; intro p hp; simp only [List.mem_cons,List.not_mem_nil,or_false] at hp; subst hp; rfl
   clear hBS
   have K0:Hid (Below wr.heap.size wr wr.drew):=hZq (Below.refl _ _).drew
   refine wp_region_held_drew (S:=(fun X => heldB X BS)) (by kernel_rfl) ?_ (fun hHeld => ?_)
   ·exact heldB_up K0.out D0.out
   generalize wr.drew=z0 at K0 hHeld ⊢
   refine tkZ 0 ?_
   refine tkZ 3 ?_
   refine tkZ 4 ?_
   refine tkZ 5 ?_
   refine tkZ 6 ?_
   obtain⟨⟨c0,c1,c2,c3,c4,c5,c6,c7,c8,c9⟩,-⟩:=blk10 (upQ E.out (K0.out))
   clear c0 c1 c2 c3 c4 c5 c6 c7 c9
   refine wpAnyH_ready (rs:=[1]) (by as_aux_lemma => kernel_rfl) (by simp) ?_
   refine AllReadyH.cons rfl (fun Kx hK => ?_) AllReadyH.nil
   go_simp
   refine hK.out _ _ ?_ (fun hHeld2 => ?_)
   ·exact heldB_up (K0.out) D0.out
   clear hK Kx hHeld c8
   have hHeld:=hHeld2
   clear hHeld2
   try simp only [Act.put,List.setIfInBounds_toArray,List.set_cons_zero,List.set_cons_succ]
   refine tkZ 2 ?_
   refine tkZ 7 ?_
   refine tkZ 8 ?_
   have EZ:=hZq (upQ E.out (K0.out))
   obtain⟨⟨c0,c1,c2,c3,c4,c5,c6,c7,c8,c9⟩,⟨g0,g1,g2,g3,g4,g5,g6,g7,g8,g9⟩⟩:=blk10 EZ.out
   refine wpAnyH_ready (rs:=[9]) (by as_aux_lemma => kernel_rfl) (by simp) ?_
   refine AllReadyH.cons rfl (fun Kx hK => ?_) AllReadyH.nil
   go_simp
   clear c0 c1 c2 c3 c4 c5 c6 c7 c8 c9 g0 g1 g2 g3 g4 g5 g6 g7 g8 g9
   have EY:Hid ((z0.setCell ⟨BE,8,none⟩ (.int .u64 (IntKind.u64.wrap (256 * (s:Int)+IntKind.u64.wrap (x.toNat:Int))))).heap[BE]?=some (.cells #[.int .i64 2,.int .i64 n,.bool false,.string ⟨#[]⟩,.int .i64 0,.int .i64 0,.int .i64 0,.string ⟨#[]⟩,.int .u64 (s * 256+x.toNat:Nat),.slice none 0 0] 56 (0,0))):=hZq (by rw [← HV2.out]; exact heap_setCell_same z0 BE 8 _ _ (.int .u64 (IntKind.u64.wrap (256 * (s:Int)+IntKind.u64.wrap (x.toNat:Int)))) EZ.out)
   have RY:Hid ((z0.setCell ⟨BE,8,none⟩ (.int .u64 (IntKind.u64.wrap (256 * (s:Int)+IntKind.u64.wrap (x.toNat:Int))))).heap[w.heap.size]?=some (.cells #[.int .i64 0,.int .i64 0,.bool false,.string ⟨#[]⟩,.int .i64 0,.int .i64 0,.int .i64 0,.string ⟨#[]⟩,.int .u64 0,.slice none 0 0] 56 (0,0))):=hZq ((Below.heap_setCell _ _ _ (w.heap.size) (show ¬ w.heap.size=BE by omega)).trans (upQ R.out (K0.out)))
   have HOLD:Hid (heldB (z0.setCell ⟨BE,8,none⟩ (.int .u64 (IntKind.u64.wrap (256 * (s:Int)+IntKind.u64.wrap (x.toNat:Int))))) BS):=hZq (heldB_farF (heldB_up (K0.out) D0.out) (fun k hk => Below.heap_setCell _ _ _ k hk) (fun p hp => by rw [hBN p hp]; exact (show ¬ w.heap.size=BE by omega)))
   have HY:Hid (Below w.heap.size w (z0.setCell ⟨BE,8,none⟩ (.int .u64 (IntKind.u64.wrap (256 * (s:Int)+IntKind.u64.wrap (x.toNat:Int)))))):=hZq ((below2Z HB.out (K0.out)).setCell hE _)
   refine hK.out _ _ ?_ (fun hHeld2 => ?_)
   ·exact HOLD.out
   clear hK Kx hHeld HOLD
   have hHeld:=hHeld2
   clear hHeld2
   generalize z0.setCell ⟨BE,8,none⟩ (.int .u64 (IntKind.u64.wrap (256 * (s:Int)+IntKind.u64.wrap (x.toNat:Int))))=zs at EY RY HY hHeld ⊢
   refine wpAnyH_done (by kernel_rfl) ?_ _
   go_wp2_with fail
   go_roundw
   case rel => exact⟨p+1,j+1,by omega,by omega,by omega,by go_num,HY,RY,by rw [HN.out]; exact EY⟩
   case measure => simp [intOf]; omega
  ·obtain rfl:j=8:=by omega
   have tB:decide ((p:Int) < (f:Int)+8)=false:=by rw [decide_eq_false_iff_not]; omega
   have tBb:decide (p < f+8)=false:=by rw [decide_eq_false_iff_not]; omega
   have Eo:=blk10 E.out
   obtain⟨⟨Rc0,Rc1,Rc2,Rc3,Rc4,Rc5,Rc6,Rc7,Rc8,Rc9⟩,⟨Rf0,Rf1,Rf2,Rf3,Rf4,Rf5,Rf6,Rf7,Rf8,Rf9⟩⟩:=blk10 R.out
   go_wp2_with fail
   refine bodyPost_ret (v:=.agg #[.int .i64 2,.int .i64 n,.bool false,.string ⟨#[]⟩,.int .i64 0,.int .i64 0,.int .i64 0,.string ⟨#[]⟩,.int .u64 (sum8 ((l.drop f).take 8)),.slice none 0 0]) (by simp [results,Tryz.results82,go_sem,Rc0,Rc1,Rc2,Rc3,Rc4,Rc5,Rc6,Rc7,Rc8,Rc9]) rfl ⟨_,rfl,ownR_nil _ _,?_⟩
   exact ((((((((((HB.out.setCell (Nat.le_refl _) _).setCell (Nat.le_refl _) _).setCell (Nat.le_refl _) _).setCell (Nat.le_refl _) _).setCell (Nat.le_refl _) _).setCell (Nat.le_refl _) _).setCell (Nat.le_refl _) _).setCell (Nat.le_refl _) _).setCell (Nat.le_refl _) _).setCell (Nat.le_refl _) _)
 ·have tA:decide ((p:Int) < (l.length:Int))=false:=by rw [decide_eq_false_iff_not]; omega
  have tAb:decide (p < l.length)=false:=by rw [decide_eq_false_iff_not]; omega
  have h8:(l.drop f).take j=(l.drop f).take 8:=by rw [List.take_of_length_le (by rw [List.length_drop]; omega),List.take_of_length_le (by rw [List.length_drop]; omega)]
  rw [h8] at E
  clear h8
  have Eo:=blk10 E.out
  obtain⟨⟨Rc0,Rc1,Rc2,Rc3,Rc4,Rc5,Rc6,Rc7,Rc8,Rc9⟩,⟨Rf0,Rf1,Rf2,Rf3,Rf4,Rf5,Rf6,Rf7,Rf8,Rf9⟩⟩:=blk10 R.out
  go_wp2_with fail
  refine bodyPost_ret (v:=.agg #[.int .i64 2,.int .i64 n,.bool false,.string ⟨#[]⟩,.int .i64 0,.int .i64 0,.int .i64 0,.string ⟨#[]⟩,.int .u64 (sum8 ((l.drop f).take 8)),.slice none 0 0]) (by simp [results,Tryz.results82,go_sem,Rc0,Rc1,Rc2,Rc3,Rc4,Rc5,Rc6,Rc7,Rc8,Rc9]) rfl ⟨_,rfl,ownR_nil _ _,?_⟩
  exact ((((((((((HB.out.setCell (Nat.le_refl _) _).setCell (Nat.le_refl _) _).setCell (Nat.le_refl _) _).setCell (Nat.le_refl _) _).setCell (Nat.le_refl _) _).setCell (Nat.le_refl _) _).setCell (Nat.le_refl _) _).setCell (Nat.le_refl _) _).setCell (Nat.le_refl _) _).setCell (Nat.le_refl _) _)

theorem frread_any (l:List UInt8) (hl:l.length≤4294967296) {k q sh pr si:Int} {on:Bool} {c st:List UInt8} {sum:Nat} {tt:List Row} (h:Hid (frRead l=⟨k,q,on,c,⟨sh,pr,si,st⟩,sum,tt⟩)) (w:World) :
  Calls Tryz.prog 82 #[.string ⟨l.toArray⟩] w fun e w' => ∃ v,e=.returned (.agg #[.int .i64 k,.int .i64 q,.bool on,.string ⟨c.toArray⟩,.int .i64 sh,.int .i64 pr,.int .i64 si,.string ⟨st.toArray⟩,.int .u64 sum,v])∧OwnR w' w.heap.size v tt∧Below w.heap.size w w':=by
 have e:=h.out
 clear h
 by_cases hnl:l=[]
 ·subst hnl
  unfold frRead at e
  simp only [Frm.zero,Val.zero,Frm.mk.injEq,Val.mk.injEq] at e
  obtain⟨rfl,rfl,rfl,rfl,⟨rfl,rfl,rfl,rfl⟩,rfl,rfl⟩:=e
  exact frread_nil w
 have hne:1≤l.length:=List.length_pos_iff.2 hnl
 obtain⟨n,f,er,hg⟩ : ∃ n f er,vget l 1=(n,f,er):=⟨_,_,_,rfl⟩
 rw [frRead_of hnl hg] at e
 by_cases he:er=0
 case neg =>
  rw [if_pos (.inl he)] at e
  simp only [Frm.zero,Val.zero,Frm.mk.injEq,Val.mk.injEq] at e
  obtain⟨rfl,rfl,rfl,rfl,⟨rfl,rfl,rfl,rfl⟩,rfl,rfl⟩:=e
  exact frread_err l hl hne (hZq hg) he w
 subst he
 by_cases hn:1099511627776 < n
 ·rw [if_pos (.inr hn)] at e
  simp only [Frm.zero,Val.zero,Frm.mk.injEq,Val.mk.injEq] at e
  obtain⟨rfl,rfl,rfl,rfl,⟨rfl,rfl,rfl,rfl⟩,rfl,rfl⟩:=e
  exact frread_far l hl hne (hZq hg) hn w
 rw [if_neg (by simp; omega)] at e
 have hn2:n≤1099511627776:=by omega
 obtain⟨kb,hb⟩ : ∃ kb,l.getD 0 0=kb:=⟨_,rfl⟩
 rw [hb] at e
 unfold frReadAt at e
 by_cases h1:kb.toNat=1
 ·rw [if_pos h1] at e
  by_cases hf:l.length≤f
  ·rw [if_pos hf] at e
   simp only [Frm.zero,Val.zero,Frm.mk.injEq,Val.mk.injEq] at e
   obtain⟨rfl,rfl,rfl,rfl,⟨rfl,rfl,rfl,rfl⟩,rfl,rfl⟩:=e
   exact frread_1cut l hl hne hb (hZq hg) hn2 h1 hf w
  rw [if_neg hf] at e
  have hf2:f < l.length:=by omega
  obtain⟨c0,q0,e0,hi⟩ : ∃ c q e,idTake l ((f:Int)+1)=(c,q,e):=⟨_,_,_,rfl⟩
  have hi2:idTake l ((f+1:Nat):Int)=(c0,q0,e0):=hi
  obtain⟨x,hx⟩ : ∃ x,l.getD f 0=x:=⟨_,rfl⟩
  rw [hi,hx] at e
  simp only at e
  by_cases he0:e0=0
  case neg =>
   rw [if_pos he0] at e
   simp only [Frm.zero,Val.zero,Frm.mk.injEq,Val.mk.injEq] at e
   obtain⟨rfl,rfl,rfl,rfl,⟨rfl,rfl,rfl,rfl⟩,rfl,rfl⟩:=e
   by_cases hon:x.toNat=1
   ·exact frread_1ie l hl hne hb (hZq hg) hn2 h1 hf2 hx hon (hZq hi2) he0 w
   ·exact frread_1oie l hl hne hb (hZq hg) hn2 h1 hf2 hx hon (hZq hi2) he0 w
  subst he0
  rw [if_neg (by simp)] at e
  by_cases hx1:x=1
  ·rw [if_pos hx1] at e
   have hon:x.toNat=1:=by rw [hx1]; rfl
   obtain⟨⟨sh0,pr0,si0,st0⟩,q2,e2,hv⟩ : ∃ v q e,vaTake l q0=(v,q,e):=⟨_,_,_,rfl⟩
   rw [hv] at e
   simp only at e
   by_cases he2:e2=0
   ·subst he2
    rw [if_neg (by simp)] at e
    simp only [Frm.mk.injEq,Val.mk.injEq] at e
    obtain⟨rfl,rfl,rfl,rfl,⟨rfl,rfl,rfl,rfl⟩,rfl,rfl⟩:=e
    exact frread_1on l hl hne hb (hZq hg) hn2 h1 hf2 hx hon (hZq hi2) (hZq hv) w
   ·rw [if_pos he2] at e
    simp only [Frm.zero,Val.zero,Frm.mk.injEq,Val.mk.injEq] at e
    obtain⟨rfl,rfl,rfl,rfl,⟨rfl,rfl,rfl,rfl⟩,rfl,rfl⟩:=e
    exact frread_1ve l hl hne hb (hZq hg) hn2 h1 hf2 hx hon (hZq hi2) (hZq hv) he2 w
  ·rw [if_neg hx1] at e
   have hon:¬ x.toNat=1:=fun h => hx1 (UInt8.toNat_inj.1 (by rw [h]; rfl))
   simp only [Frm.zero,Val.zero,Frm.mk.injEq,Val.mk.injEq] at e
   obtain⟨rfl,rfl,rfl,rfl,⟨rfl,rfl,rfl,rfl⟩,rfl,rfl⟩:=e
   exact frread_1off l hl hne hb (hZq hg) hn2 h1 hf2 hx hon (hZq hi2) w
 ·rw [if_neg h1] at e
  by_cases h2:kb.toNat=2
  ·rw [if_pos h2] at e
   simp only [Frm.zero,Val.zero,Frm.mk.injEq,Val.mk.injEq] at e
   obtain⟨rfl,rfl,rfl,rfl,⟨rfl,rfl,rfl,rfl⟩,rfl,rfl⟩:=e
   exact frread_2 l hl hne hb (hZq hg) hn2 h2 w
  ·rw [if_neg h2] at e
   by_cases h3:kb.toNat=3
   ·rw [if_pos h3] at e
    obtain⟨t0,g,e0,ht⟩ : ∃ t g e,diTake l f=(t,g,e):=⟨_,_,_,rfl⟩
    rw [ht] at e
    simp only at e
    by_cases he0:e0=0
    ·subst he0
     rw [if_neg (by simp)] at e
     simp only [Frm.zero,Val.zero,Frm.mk.injEq,Val.mk.injEq] at e
     obtain⟨rfl,rfl,rfl,rfl,⟨rfl,rfl,rfl,rfl⟩,rfl,rfl⟩:=e
     exact frread_3 l hl hne hb (hZq hg) hn2 h3 (hZq ht) w
    ·rw [if_pos he0] at e
     simp only [Frm.zero,Val.zero,Frm.mk.injEq,Val.mk.injEq] at e
     obtain⟨rfl,rfl,rfl,rfl,⟨rfl,rfl,rfl,rfl⟩,rfl,rfl⟩:=e
     exact frread_3e l hl hne hb (hZq hg) hn2 h3 (hZq ht) he0 w
   ·rw [if_neg h3] at e
    simp only [Frm.zero,Val.zero,Frm.mk.injEq,Val.mk.injEq] at e
    obtain⟨rfl,rfl,rfl,rfl,⟨rfl,rfl,rfl,rfl⟩,rfl,rfl⟩:=e
    exact frread_other l hl hne hb (hZq hg) hn2 h1 h2 h3 w
end Go.Proofs.YtmpigdokghngiaaGreat
