/-
 TEXTS OF THE PROOF, one behind the other: ViewW, ViewW2.
-/
import Derived.Test.YtphfinlfabklmaaGreatB39
import Derived.Test.YtphfinlfabklmaaGreatB23
import Derived.Test.YtphfinlfabklmaaGreatB16

section

namespace Go.Proofs.YtphfinlfabklmaaGreat
open Go.RowKit

theorem fewSta_V {t:Sta} (h:fewSta t=true):(ShortE t.e∧ShortS t.s)∧t.e.length≤80∧t.s.length≤50:=by
 unfold fewSta at h
 rw [Bool.and_eq_true] at h
 refine ⟨⟨fewR_short h.1,fun s hs => ?_⟩,(fewR_get h.1).1,(few_get h.2).1⟩
 have:=(few_get h.2).2 s hs
 omega

theorem vwWat_le (t:Sta) (c:List UInt8):(vwWat t c).length≤t.e.length:=by
 unfold vwWat
 by_cases h:stMay t=true∧seOf t.s c ≠ []
 ·rw [if_pos h]
  unfold roWat
  rw [List.length_map]
  exact List.length_filter_le _ _
 ·rw [if_neg h]
  exact Nat.zero_le _

theorem long_yes {u:List UInt8} (h:¬ u.length≤40):decide ((40:Int) < (u.length:Int))=true:=by simp; omega
theorem long_no {u:List UInt8} (h:u.length≤40):decide ((40:Int) < (u.length:Int))=false:=by simp; omega

theorem bool_eql (q:Bool):(q == q)=true:=by cases q <;> rfl

end Go.Proofs.YtphfinlfabklmaaGreat

end

section

namespace Go.Proofs.YtphfinlfabklmaaGreat
open Go.RowKit

theorem mem_next {l:List (List UInt8)} {k:Nat} (hk:k < l.length) (u:List UInt8):decide (u ∈ l.take (k+1))=(decide (u ∈ l.take k) || (l.getD k [] == u)):=by
 have hm:u ∈ l.take k ++ [l[k]] ↔ u ∈ l.take k∨u=l[k]:=by rw [List.mem_append,List.mem_singleton]
 rw [List.take_succ_eq_append_getElem hk,List.getD_eq_getElem?_getD,List.getElem?_eq_getElem hk,Option.getD_some,Bool.eq_iff_iff,decide_eq_true_eq,hm,Bool.or_eq_true,decide_eq_true_eq,beq_iff_eq]
 exact⟨fun h => h.imp id Eq.symm,fun h => h.imp id Eq.symm⟩

theorem blk8 {w:World} {B:Nat} {x0 x1 x2 x3 x4 x5 x6 x7:Value} {T:TypeId} (h:w.heap[B]?=some (.cells #[x0,x1,x2,x3,x4,x5,x6,x7] T (0,0))):(w.cell? ⟨B,0,none⟩=some x0∧w.cell? ⟨B,1,none⟩=some x1∧w.cell? ⟨B,2,none⟩=some x2∧w.cell? ⟨B,3,none⟩=some x3∧w.cell? ⟨B,4,none⟩=some x4∧w.cell? ⟨B,5,none⟩=some x5∧w.cell? ⟨B,6,none⟩=some x6∧w.cell? ⟨B,7,none⟩=some x7)∧(w.frozen? ⟨B,0,none⟩=false∧w.frozen? ⟨B,1,none⟩=false∧w.frozen? ⟨B,2,none⟩=false∧w.frozen? ⟨B,3,none⟩=false∧w.frozen? ⟨B,4,none⟩=false∧w.frozen? ⟨B,5,none⟩=false∧w.frozen? ⟨B,6,none⟩=false∧w.frozen? ⟨B,7,none⟩=false) :=
 ⟨⟨cell_of_row w B 0 _ _ (0,0) h,cell_of_row w B 1 _ _ (0,0) h,cell_of_row w B 2 _ _ (0,0) h,cell_of_row w B 3 _ _ (0,0) h,cell_of_row w B 4 _ _ (0,0) h,cell_of_row w B 5 _ _ (0,0) h,cell_of_row w B 6 _ _ (0,0) h,cell_of_row w B 7 _ _ (0,0) h⟩,⟨frozen_of_row w B 0 _ _ h,frozen_of_row w B 1 _ _ h,frozen_of_row w B 2 _ _ h,frozen_of_row w B 3 _ _ h,frozen_of_row w B 4 _ _ h,frozen_of_row w B 5 _ _ h,frozen_of_row w B 6 _ _ h,frozen_of_row w B 7 _ _ h⟩⟩

def stN8 (w:World) (B:Nat) (y0 y1 y2 y3 y4 y5 y6 y7:Value):World:=(((((((w.setCell ⟨B,0,none⟩ y0).setCell ⟨B,1,none⟩ y1).setCell ⟨B,2,none⟩ y2).setCell ⟨B,3,none⟩ y3).setCell ⟨B,4,none⟩ y4).setCell ⟨B,5,none⟩ y5).setCell ⟨B,6,none⟩ y6).setCell ⟨B,7,none⟩ y7

end Go.Proofs.YtphfinlfabklmaaGreat

end
