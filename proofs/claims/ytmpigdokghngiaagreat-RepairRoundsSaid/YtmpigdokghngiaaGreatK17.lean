/-
 TEXTS OF THE PROOF, one behind the other: FraRread.
-/
import Derived.Test.YtmpigdokghngiaaGreatK05
import Derived.Test.YtmpigdokghngiaaGreatK16
import Derived.Test.YtmpigdokghngiaaGreatK14
import Derived.Test.YtmpigdokghngiaaGreatK02

set_option maxHeartbeats 12800000
set_option maxRecDepth 100000

namespace Go.Proofs.YtmpigdokghngiaaGreat
open Go.RowKit

set_option linter.unusedSimpArgs false

theorem getD_byteF (l:List UInt8) (p:Nat) (hp:p < l.length) (h:p < (⟨l.toArray⟩ : ByteArray).size):(⟨l.toArray⟩ : ByteArray)[p]'h=l.getD p 0:=by
 rw [List.getD_eq_getElem?_getD,List.getElem?_eq_getElem hp]
 rfl

theorem frread_other (l:List UInt8) (hl:l.length≤4294967296) (hne:1≤l.length) {kb:UInt8} (hb:l.getD 0 0=kb) {n f:Nat} (HU:Hid (vget l 1=(n,f,0))) (hn:n≤1099511627776) (h1:¬ kb.toNat=1) (h2:¬ kb.toNat=2) (h3:¬ kb.toNat=3) (w:World) :
  Calls Tryz.prog 82 #[.string ⟨l.toArray⟩] w fun e w' => ∃ v,e=.returned (.agg #[.int .i64 kb.toNat,.int .i64 n,.bool false,.string ⟨#[]⟩,.int .i64 0,.int .i64 0,.int .i64 0,.string ⟨#[]⟩,.int .u64 0,v])∧OwnR w' w.heap.size v []∧Below w.heap.size w w':=by
 have hs1:(⟨l.toArray⟩ : ByteArray).size=l.length:=size_bytes l
 have hq0:0 < (⟨l.toArray⟩ : ByteArray).size:=by omega
 have hb0:=getD_byteF l 0 (by omega) hq0
 rw [hb] at hb0
 have hk256:=kb.toNat_lt
 have hnil:(l == [])=false:=by cases l <;> simp at hne ⊢
 have hnil2:l ≠ []:=by intro h; rw [h] at hne; simp at hne
 clear hb
 have t2:decide ((1099511627776:Int) < (n:Int))=false:=by rw [decide_eq_false_iff_not]; omega
 have t2b:decide (1099511627776 < n)=false:=by rw [decide_eq_false_iff_not]; omega
 have hwn:IntKind.i64.wrap (n:Int)=n:=wrap_small hn
 have hwn2:wrap64 (n:Int)=n:=by rw [← wrap_i64F]; exact hwn
 have hfl:=(vget_facts HU.out).2.1
 have tk1:((kb.toNat:Int) == 1)=false:=by rw [beq_eq_false_iff_ne]; omega
 have tn1:(kb.toNat == 1)=false:=by rw [beq_eq_false_iff_ne]; omega
 have tk2:((kb.toNat:Int) == 2)=false:=by rw [beq_eq_false_iff_ne]; omega
 have tn2:(kb.toNat == 2)=false:=by rw [beq_eq_false_iff_ne]; omega
 have tk3:((kb.toNat:Int) == 3)=false:=by rw [beq_eq_false_iff_ne]; omega
 have tn3:(kb.toNat == 3)=false:=by rw [beq_eq_false_iff_ne]; omega
 obtain⟨R,HB⟩:=ent1 w (.cells #[.int .i64 0,.int .i64 0,.bool false,.string ⟨#[]⟩,.int .i64 0,.int .i64 0,.int .i64 0,.string ⟨#[]⟩,.int .u64 0,.slice none 0 0] 56)
 go_enter Tryz.func82,Tryz.ntmps82
 go_wp2_with fail
 refine (rget_eq l hl 1 _ HU).mono ?_
 rintro e wp ⟨rfl,rfl⟩
 generalize w.alloc (.cells #[.int .i64 0,.int .i64 0,.bool false,.string ⟨#[]⟩,.int .i64 0,.int .i64 0,.int .i64 0,.string ⟨#[]⟩,.int .u64 0,.slice none 0 0] 56)=w2 at R HB ⊢
 obtain⟨⟨Rc0,Rc1,Rc2,Rc3,Rc4,Rc5,Rc6,Rc7,Rc8,Rc9⟩,⟨Rf0,Rf1,Rf2,Rf3,Rf4,Rf5,Rf6,Rf7,Rf8,Rf9⟩⟩:=blk10 R.out
 have hR:=(Array.getElem?_eq_some_iff.1 R.out).1
 go_wp2_with fail
 refine bodyPost_ret (v:=.agg #[.int .i64 kb.toNat,.int .i64 n,.bool false,.string ⟨#[]⟩,.int .i64 0,.int .i64 0,.int .i64 0,.string ⟨#[]⟩,.int .u64 0,.slice none 0 0]) (by simp [results,Tryz.results82,go_sem,Rc0,Rc1,Rc2,Rc3,Rc4,Rc5,Rc6,Rc7,Rc8,Rc9,World.cell?_alloc_lt,hR]) rfl ⟨_,rfl,ownR_nil _ _,?_⟩
 exact (((((((((((HB.out.setCell (Nat.le_refl _) _).setCell (Nat.le_refl _) _).setCell (Nat.le_refl _) _).setCell (Nat.le_refl _) _).setCell (Nat.le_refl _) _).setCell (Nat.le_refl _) _).setCell (Nat.le_refl _) _).setCell (Nat.le_refl _) _).setCell (Nat.le_refl _) _).setCell (Nat.le_refl _) _)).alloc (by simp only [setCell_size]; exact HB.out.size) _
end Go.Proofs.YtmpigdokghngiaaGreat
