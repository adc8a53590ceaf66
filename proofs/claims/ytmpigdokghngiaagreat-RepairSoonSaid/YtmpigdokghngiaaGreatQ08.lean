/-
 TEXTS OF THE PROOF, one behind the other: FraPut1.
-/
import Derived.Test.YtmpigdokghngiaaGreatQ07

set_option maxHeartbeats 12800000
set_option maxRecDepth 100000

namespace Go.Proofs.YtmpigdokghngiaaGreat
open Go.RowKit

attribute [local go_sem] ByteArray.mk_append_mk

set_option maxRecDepth 1000000 in
theorem frput_1 (n:Nat) (hn:n < 9223372036854775808) (on:Bool) (c:List UInt8) (sh pr si:Int) (st:List UInt8) (sum:Nat) (v:Value) (u:List UInt8) (hu:u.length≤4294967296) (w:World)
  (HK:Hid (∀ w1,Below w.heap.size w w1→Calls Tryz.prog 132 #[.agg #[.int .i64 1,.int .i64 n,.bool on,.string ⟨c.toArray⟩,.int .i64 sh,.int .i64 pr,.int .i64 si,.string ⟨st.toArray⟩,.int .u64 sum,v]] w1 fun e w2 => e=.returned (.string ⟨u.toArray⟩)∧Below w1.heap.size w1 w2)) :
  Calls Tryz.prog 80 #[.agg #[.int .i64 1,.int .i64 n,.bool on,.string ⟨c.toArray⟩,.int .i64 sh,.int .i64 pr,.int .i64 si,.string ⟨st.toArray⟩,.int .u64 sum,v]] w fun e w' => e=.returned (.string ⟨(u8of 1 :: (vput n ++ u)).toArray⟩)∧Below w.heap.size w w':=by
 have B0:Hid (Below w.heap.size w (w.alloc (.cells #[.int .i64 1,.int .i64 n,.bool on,.string ⟨c.toArray⟩,.int .i64 sh,.int .i64 pr,.int .i64 si,.string ⟨st.toArray⟩,.int .u64 sum,v] 56))):=hZq ((Below.refl _ _).alloc (Nat.le_refl _) _)
 have hix:∀ w,(Instr.index 138 kindsV (.int .i64 1)).run Tryz.prog w=.ok (.agg #[.func (.func 131) #[] #[],.func (.func 132) #[] #[],.func (.func 133) #[] #[]]) w:=fun _ => by kernel_rfl
 have hfd:∀ w,(Instr.field 137 (.agg #[.func (.func 131) #[] #[],.func (.func 132) #[] #[],.func (.func 133) #[] #[]]) 1).run Tryz.prog w=.ok (.func (.func 132) #[] #[]) w:=fun _ => by kernel_rfl
 have HP:=hZq (put_any n (by omega))
 have HKD:=hZq kindsF_any
 have hvl:=vput_len_le n
 have hz0:(0:Int)≤n:=by omega
 have e4:IntKind.u64.wrap (n:Int)=n:=by rw [IntKind.wrap_u64]; omega
 have e1:IntKind.u8.wrap 1=1:=by decide
 have hcv:=fun w B => run_convert_one (P:=Tryz.prog) w 118 5 9 Tryz.underlying118 Tryz.underlying5 Tryz.underlying9 B (u8of 1) 1 (by decide)
 obtain⟨hd,hhd⟩ : ∃ hd,hd=[u8of 1]:=⟨_,rfl⟩
 rw [← hhd] at hcv
 have hdl:hd.length≤1:=by rw [hhd]; simp
 have HV:Hid (u8of 1 :: (vput n ++ u)=hd ++ (vput n ++ u)):=by rw [hhd]; rfl
 clear hhd
 go_enter Tryz.func80,Tryz.ntmps80
 go_wp2_with fail
 go_region_held (fun w' => w'.cell? ⟨w.heap.size,0,none⟩=some (.int .i64 1)∧w'.cell? ⟨w.heap.size,1,none⟩=some (.int .i64 n)∧w'.cell? ⟨w.heap.size,2,none⟩=some (.bool on)∧w'.cell? ⟨w.heap.size,3,none⟩=some (.string ⟨c.toArray⟩)∧w'.cell? ⟨w.heap.size,4,none⟩=some (.int .i64 sh)∧w'.cell? ⟨w.heap.size,5,none⟩=some (.int .i64 pr)∧w'.cell? ⟨w.heap.size,6,none⟩=some (.int .i64 si)∧w'.cell? ⟨w.heap.size,7,none⟩=some (.string ⟨st.toArray⟩)∧w'.cell? ⟨w.heap.size,8,none⟩=some (.int .u64 sum)∧w'.cell? ⟨w.heap.size,9,none⟩=some (v))
  (first | (with_reducible exact keep10 (by assumption) (by assumption)) | (with_reducible exact keep10 ((Below.refl _ _).alloc (Nat.le_refl _) _) (by assumption)) | go_keep)
  ((first
   | (go_at_call 105; refine (HP.out _).mono ?_; rintro e w2 ⟨rfl,hb2⟩; (try (refine mpr2 (p:=w2.cell? ⟨w.heap.size+1,0,none⟩=some (.int .u8 1)) ?_ ?_; (· (refine cell_later ?_ hb2; first | assumption | (simp; done))); intro q20)); (try (refine mpr2 (p:=w2.cell? ⟨w3.heap.size,0,none⟩=some (.int .u8 1)) ?_ ?_; (· (refine cell_later ?_ hb2; first | assumption | (simp; done))); intro q22)); (try (refine mpr2 (p:=w2.cell? ⟨w4.heap.size,0,none⟩=some (.int .u8 1)) ?_ ?_; (· (refine cell_later ?_ hb2; first | assumption | (simp; done))); intro q23)))
   | (go_at_call 104; refine (HKD.out _).mono ?_; rintro e w3 ⟨rfl,hb3⟩; (try (refine mpr2 (p:=w3.cell? ⟨w.heap.size+1,0,none⟩=some (.int .u8 1)) ?_ ?_; (· (refine cell_later ?_ hb3; first | assumption | (simp; done))); intro q30)); (try (refine mpr2 (p:=w3.cell? ⟨w2.heap.size,0,none⟩=some (.int .u8 1)) ?_ ?_; (· (refine cell_later ?_ hb3; first | assumption | (simp; done))); intro q31)); (try (refine mpr2 (p:=w3.cell? ⟨w4.heap.size,0,none⟩=some (.int .u8 1)) ?_ ?_; (· (refine cell_later ?_ hb3; first | assumption | (simp; done))); intro q33)))
   | (go_at_call 132; refine (HK.out _ ?hbw).mono ?_; (case hbw => ((repeat (first | exact B0.out | (with_reducible refine below2' ?_ hb2) | (with_reducible refine below2' ?_ hb3) | (with_reducible refine below2' ?_ hb4) | (with_reducible refine bl_alloc ?_ _) | (with_reducible refine Below.drew ?_))))); rintro e w4 ⟨rfl,hb4⟩; (try (refine mpr2 (p:=w4.cell? ⟨w.heap.size+1,0,none⟩=some (.int .u8 1)) ?_ ?_; (· (refine cell_later ?_ hb4; first | assumption | (simp; done))); intro q40)); (try (refine mpr2 (p:=w4.cell? ⟨w2.heap.size,0,none⟩=some (.int .u8 1)) ?_ ?_; (· (refine cell_later ?_ hb4; first | assumption | (simp; done))); intro q41)); (try (refine mpr2 (p:=w4.cell? ⟨w3.heap.size,0,none⟩=some (.int .u8 1)) ?_ ?_; (· (refine cell_later ?_ hb4; first | assumption | (simp; done))); intro q42)))))
 all_goals
  go_wp2_with fail
  go_ret
  refine ⟨by rw [HV.out]; rfl,?_⟩
  (repeat (first | exact B0.out | (with_reducible refine below2' ?_ hb2) | (with_reducible refine below2' ?_ hb3) | (with_reducible refine below2' ?_ hb4) | (with_reducible refine bl_alloc ?_ _) | (with_reducible refine Below.drew ?_)))
end Go.Proofs.YtmpigdokghngiaaGreat
