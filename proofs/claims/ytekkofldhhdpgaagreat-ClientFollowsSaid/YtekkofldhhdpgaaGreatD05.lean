/-
 TEXTS OF THE PROOF, one behind the other: ValPut.
-/
import Derived.Test.YtekkofldhhdpgaaGreatD04
import Derived.Deep.RegionHeld

set_option maxHeartbeats 12800000
set_option maxRecDepth 100000

namespace Go.Proofs.YtekkofldhhdpgaaGreat
open Go.RowKit
attribute [local go_sem] ByteArray.mk_append_mk

def vaPut (v:Val):List UInt8:=if vaMay v=true then vaBytes v else []

theorem cell_later {w w':World} {a:Addr} {v:Value} (h:w.cell? a=some v) (hb:Below w.heap.size w w'):w'.cell? a=some v :=
 (hb.cell (World.block_lt_of_cell? w a h)).trans h

theorem head_vals (a b:Int) (ha:1≤a) (ha':a≤4) (hb:-128≤b) (hb':b≤127):#[Value.int IntKind.u8 a,Value.int IntKind.u8 (b+128)]=(bvals [u8of a.toNat,u8of (b+128).toNat]).toArray:=by
 simp only [bvals,List.map_cons,List.map_nil]
 rw [u8of_toNat (by omega),u8of_toNat (by omega),show ((a.toNat:Nat):Int)=a by omega,show (((b+128).toNat:Nat):Int)=b+128 by omega]

theorem may_eq (a b c:Int) (l:List UInt8) (hl:l.length≤4294967296) {r:Bool} (h:Hid (vaMay ⟨a,b,c,l⟩=r)) (w:World) :
  Calls Tryz.prog 102 #[.agg #[.int .i64 a,.int .i64 b,.int .i64 c,.string ⟨l.toArray⟩]] w fun e w' => e=.returned (.bool r)∧Below w.heap.size w w':=by
 have:=may_any a b c l hl w
 rwa [h.out] at this

theorem rmay_eq (a b c:Int) (l:List UInt8) (hl:l.length≤4294967296) {r:Bool} (h:Hid (vaMay ⟨a,b,c,l⟩=r)) (w:World) :
  Calls Tryz.prog 67 #[.agg #[.int .i64 a,.int .i64 b,.int .i64 c,.string ⟨l.toArray⟩]] w fun e w' => e=.returned (.bool r)∧Below w.heap.size w w':=by
 have:=rmay_any a b c l hl w
 rwa [h.out] at this

theorem regrown_below {w w':World} (h:∃ p:Regrown,w'=Sort.grow (redrawn w p.d) p.os):Below w.heap.size w w':=by
 obtain⟨p,rfl⟩:=h
 exact below_regrown _ _ _

theorem four_cells (w:World) (a b c s:Value) (t:TypeId):(w.alloc (.cells #[a,b,c,s] t)).cell? ⟨w.heap.size,0,none⟩=some a∧(w.alloc (.cells #[a,b,c,s] t)).cell? ⟨w.heap.size,1,none⟩=some b∧(w.alloc (.cells #[a,b,c,s] t)).cell? ⟨w.heap.size,2,none⟩=some c∧(w.alloc (.cells #[a,b,c,s] t)).cell? ⟨w.heap.size,3,none⟩=some s :=
 ⟨by rw [World.cell?_alloc_at _ _ _ _ rfl]; rfl,by rw [World.cell?_alloc_at _ _ _ _ rfl]; rfl,by rw [World.cell?_alloc_at _ _ _ _ rfl]; rfl,by rw [World.cell?_alloc_at _ _ _ _ rfl]; rfl⟩

theorem vaput_yes (a b c:Int) (l:List UInt8) (hm:vaMay ⟨a,b,c,l⟩=true) (w:World) :
  Calls Tryz.prog 169 #[.agg #[.int .i64 a,.int .i64 b,.int .i64 c,.string ⟨l.toArray⟩]] w fun e w' => e=.returned (.tuple #[.string ⟨(vaBytes ⟨a,b,c,l⟩).toArray⟩,.bool true])∧Below w.heap.size w w':=by
 obtain⟨h1,h2,h3,h4,h5,h6,h7⟩:=vaMay_parts hm
 simp only at h1 h2 h3 h4 h5 h6 h7
 obtain⟨n,rfl⟩:=Int.eq_ofNat_of_zero_le h5
 have hl:l.length≤4294967296:=by omega
 have HM:=may_eq a b n l hl (hZq hm)
 have HM':=hZq HM
 have HP:=hZq (put_any n (by omega))
 have HT:=hZq (text_any l hl)
 have hcv:=fun w => run_convert_new (P:=Tryz.prog) w 150 5 9 Tryz.underlying150 Tryz.underlying5 Tryz.underlying9 _ _ (head_vals a b h1 h2 h3 h4) 2 rfl (by decide)
 have HV:Hid (vaBytes ⟨a,b,n,l⟩=[u8of a.toNat,u8of (b+128).toNat] ++ (vput n ++ (vput l.length ++ l))):=rfl
 have hz0:(0:Int)≤n:=by omega
 obtain⟨k0,k1,k2,k3⟩:=four_cells w (.int .i64 a) (.int .i64 b) (.int .i64 n) (.string ⟨l.toArray⟩) 26
 have HK0:=hZq k0
 have HK1:=hZq k1
 have HK2:=hZq k2
 have HK3:=hZq k3
 obtain⟨hd,hhd⟩ : ∃ hd,hd=[u8of a.toNat,u8of (b+128).toNat]:=⟨_,rfl⟩
 rw [← hhd] at hcv HV
 have hdl:hd.length≤2:=by rw [hhd]; simp
 have hvn:=vput_len_le n
 have hvl:=vput_len_le l.length
 clear hhd hm HM k0 k1 k2 k3 h5
 go_enter Tryz.func169,Tryz.ntmps169
 go_wp2_with fail
 refine (HM'.out _).mono ?_
 rintro e w1 ⟨rfl,hb1⟩
 have k0:=cell_later HK0.out hb1
 have k1:=cell_later HK1.out hb1
 have k2:=cell_later HK2.out hb1
 have k3:=cell_later HK3.out hb1
 have hsz1:w.heap.size+1≤w1.heap.size:=by have:=hb1.size; simpa using this
 have HB1:Hid (Below w.heap.size w w1):=below2' ((Below.refl _ _).alloc (Nat.le_refl _) _) hb1
 have HK2':=hZq k2
 have HK3':=hZq k3
 clear HK0 HK1 HK2 HK3 hb1
 go_wp2_with fail
 have r2:=cell_regrown (w:=w1.alloc (.cells #[.int .u8 a,.int .u8 (b+128)] 5)) (a:=⟨w.heap.size,2,none⟩) (v:=.int .i64 n) (by rw [World.cell?_alloc_lt _ _ _ (by show w.heap.size < w1.heap.size; omega)]; exact HK2'.out)
 have r3:=cell_regrown (w:=w1.alloc (.cells #[.int .u8 a,.int .u8 (b+128)] 5)) (a:=⟨w.heap.size,3,none⟩) (v:=.string ⟨l.toArray⟩) (by rw [World.cell?_alloc_lt _ _ _ (by show w.heap.size < w1.heap.size; omega)]; exact HK3'.out)
 clear k0 k1 k2 k3 hcv
 refine wp_region_quiet_below (by kernel_rfl) (by kernel_rfl) ?_
 repeat (go_big_quiet_step (first | with_reducible exact rgB HP.out _ _ _ | with_reducible exact rgB HT.out _ _ _))
 refine wpQuiet_nil ?_
 intro w3 hw3
 have hb3:=regrown_below hw3
 have HB3:Hid (Below w.heap.size w w3):=below3 HB1.out ((Below.refl _ _).alloc (Nat.le_refl _) _) hb3
 clear hw3 hb3 r2 r3
 go_wp2_with fail
 go_ret2
 exact⟨by rw [HV.out]; rfl,HB3.out⟩

theorem bl_alloc {w a:World} (h:Below w.heap.size w a) (o:Obj):Below w.heap.size w (a.alloc o):=h.alloc h.size o

theorem mpr2 {p q:Prop} (hp:p) (h:p→q):q:=h hp

theorem vaput_no (a b c:Int) (l:List UInt8) (hl:l.length≤4294967296) (hm:vaMay ⟨a,b,c,l⟩=false) (w:World) :
  Calls Tryz.prog 169 #[.agg #[.int .i64 a,.int .i64 b,.int .i64 c,.string ⟨l.toArray⟩]] w fun e w' => e=.returned (.tuple #[.string ⟨([]:List UInt8).toArray⟩,.bool false])∧Below w.heap.size w w':=by
 have HM':=hZq (may_eq a b c l hl (hZq hm))
 clear hm
 go_enter Tryz.func169,Tryz.ntmps169
 go_wp2_with fail
 refine (HM'.out _).mono ?_
 rintro e w1 ⟨rfl,hb1⟩
 go_wp2_with fail
 go_ret2
 exact⟨rfl,below2' ((Below.refl _ _).alloc (Nat.le_refl _) _) hb1⟩

theorem vaput_any (a b c:Int) (l:List UInt8) (hl:l.length≤4294967296) {t:List UInt8} {r:Bool} (ht:Hid (vaPut ⟨a,b,c,l⟩=t)) (hr:Hid (vaMay ⟨a,b,c,l⟩=r)) (w:World) :
  Calls Tryz.prog 169 #[.agg #[.int .i64 a,.int .i64 b,.int .i64 c,.string ⟨l.toArray⟩]] w fun e w' => e=.returned (.tuple #[.string ⟨t.toArray⟩,.bool r])∧Below w.heap.size w w':=by
 have h1:=ht.out
 have h2:=hr.out
 unfold vaPut at h1
 cases r with
 | true => rw [if_pos h2] at h1; rw [← h1]; exact vaput_yes a b c l h2 w
 | false => rw [if_neg (by rw [h2]; decide)] at h1; rw [← h1]; exact vaput_no a b c l hl h2 w

end Go.Proofs.YtekkofldhhdpgaaGreat
