/-
 TEXTS OF THE PROOF, one behind the other: CrcStep, CrcSum, CrcSeal, FraEnc, SubSet, FraDtake, FraTake, FraDelta, FraTk.
-/
import Derived.Test.YtmpigdokghngiaaGreatP01
import Derived.Test.YtmpigdokghngiaaGreatP04
import Derived.Test.YtmpigdokghngiaaGreatRows
import Derived.Deep.DeepMust
import Derived.Lib.Hide
import Derived.Test.YtmpigdokghngiaaGreatP08
import Derived.Test.YtmpigdokghngiaaGreatP09
import Derived.Test.YtmpigdokghngiaaGreatP10
import Derived.Test.YtmpigdokghngiaaGreatP11
import Derived.Test.YtmpigdokghngiaaGreatP05
import Derived.Deep.RegionHeld
import Derived.Test.YtmpigdokghngiaaGreatP03
import Derived.Test.YtmpigdokghngiaaGreatP02

set_option maxHeartbeats 12800000
set_option maxRecDepth 100000

namespace Go.Proofs.YtmpigdokghngiaaGreat
section
open Go.RowKit

theorem and1_u32 (y:Nat) (h:y < 4294967296):bits .and .u32 (y:Int) 1=((y % 2:Nat):Int):=by
 rw [show (1:Int)=((1:Nat):Int) from rfl,u32_and_nat _ _ h (by omega),nat_mask1]

theorem xor_poly (y:Nat) (h:y < 4294967296):bits .xor .u32 ((y:Int) / 2) 3988292384=((y / 2 ^^^ 3988292384:Nat):Int):=by
 rw [show (3988292384:Int)=((3988292384:Nat):Int) from rfl,show (y:Int) / 2=((y / 2:Nat):Int) by omega,u32_xor_nat _ _ (by omega) (by omega)]

theorem xor_u32 (a b:Nat) (h:a < 4294967296) (h':b < 4294967296):bits .xor .u32 (a:Int) (b:Int)=((a ^^^ b:Nat):Int):=u32_xor_nat a b h h'

theorem step_any (c b:Nat) (hc:c < 4294967296) (hb:b < 256) (w:World) :
  Calls Tryz.prog 153 #[.int .u32 c,.int .u8 b] w fun e w' => e=.returned (.int .u32 (cstep c b))∧w=w':=by
 have hx:=xor_u32 c b hc (by omega)
 have hxl:c ^^^ b < 4294967296:=Nat.xor_lt_two_pow (n:=32) hc (by omega)
 have HS:Hid (cN 8 (c ^^^ b)=cstep c b):=rfl
 obtain⟨x,hx'⟩ : ∃ x,x=c ^^^ b:=⟨_,rfl⟩
 rw [← hx'] at hx hxl HS
 clear hx'
 go_enter Tryz.func153,Tryz.ntmps153
 go_wp2
 go_loop [5,11] (fun v i => ∃ k y:Nat,k≤8∧y < 4294967296∧i=.int .i64 k∧v=.int .u32 y∧Hid (cN (8 - k) y=cstep c b)) (fun _ i => 8 - (intOf i).toNat)
 case atStart => exact⟨0,x,by omega,hxl,rfl,rfl,HS⟩
 case round =>
  obtain⟨k,y,hk,hy,rfl,rfl,HY⟩:=hrel
  by_cases hlt:k < 8
  ·have HN:Hid (cN (8 - (k+1)) (c1 y)=cstep c b):=by
    show _=_
    rw [← HY.out,show 8 - k=(8 - (k+1))+1 by omega]
    rfl
   have t1:=and1_u32 y hy
   have t2:=xor_poly y hy
   have hcl:=c1_lt hy
   by_cases hodd:y % 2=1
   ·have HC:Hid (c1 y=y / 2 ^^^ 3988292384):=by show _=_; unfold c1; rw [if_pos hodd]
    rw [hodd] at t1
    rw [← HC.out] at t2
    clear hodd
    go_wp2
    go_round
    case rel => exact⟨k+1,c1 y,by omega,hcl,by go_num,by go_num,HN⟩
    case measure => simp [intOf]; omega
   ·have HC:Hid (c1 y=y / 2):=by show _=_; unfold c1; rw [if_neg hodd]
    rw [show y % 2=0 by omega] at t1
    clear hodd t2
    go_wp2
    go_round
    case rel => exact⟨k+1,c1 y,by omega,hcl,by go_num,by rw [HC.out]; go_num,HN⟩
    case measure => simp [intOf]; omega
  ·obtain rfl:k=8:=by omega
   go_wp2
   go_ret
   exact⟨ret_int (by rw [← HY.out]; rfl),rfl⟩

theorem rstep_any (c b:Nat) (hc:c < 4294967296) (hb:b < 256) (w:World) :
  Calls Tryz.prog 110 #[.int .u32 c,.int .u8 b] w fun e w' => e=.returned (.int .u32 (cstep c b))∧w=w':=by
 have hx:=xor_u32 c b hc (by omega)
 have hxl:c ^^^ b < 4294967296:=Nat.xor_lt_two_pow (n:=32) hc (by omega)
 have HS:Hid (cN 8 (c ^^^ b)=cstep c b):=rfl
 obtain⟨x,hx'⟩ : ∃ x,x=c ^^^ b:=⟨_,rfl⟩
 rw [← hx'] at hx hxl HS
 clear hx'
 go_enter Tryz.func110,Tryz.ntmps110
 go_wp2
 go_loop [5,6] (fun v i => ∃ k y:Nat,k≤8∧y < 4294967296∧i=.int .i64 k∧v=.int .u32 y∧Hid (cN (8 - k) y=cstep c b)) (fun _ i => 8 - (intOf i).toNat)
 case atStart => exact⟨0,x,by omega,hxl,rfl,rfl,HS⟩
 case round =>
  obtain⟨k,y,hk,hy,rfl,rfl,HY⟩:=hrel
  by_cases hlt:k < 8
  ·have HN:Hid (cN (8 - (k+1)) (c1 y)=cstep c b):=by
    show _=_
    rw [← HY.out,show 8 - k=(8 - (k+1))+1 by omega]
    rfl
   have t2:=xor_poly y hy
   have hcl:=c1_lt hy
   by_cases hodd:y % 2=1
   ·have HC:Hid (c1 y=y / 2 ^^^ 3988292384):=by show _=_; unfold c1; rw [if_pos hodd]
    have t1:((y:Int) % 2 == 1)=true:=by simp; omega
    rw [← HC.out] at t2
    clear hodd
    go_wp2
    go_round
    case rel => exact⟨k+1,c1 y,by omega,hcl,by go_num,by go_num,HN⟩
    case measure => simp [intOf]; omega
   ·have HC:Hid (c1 y=y / 2):=by show _=_; unfold c1; rw [if_neg hodd]
    have t1:((y:Int) % 2 == 1)=false:=by simp; omega
    clear hodd t2
    go_wp2
    go_round
    case rel => exact⟨k+1,c1 y,by omega,hcl,by go_num,by rw [HC.out]; go_num,HN⟩
    case measure => simp [intOf]; omega
  ·obtain rfl:k=8:=by omega
   go_wp2
   go_ret
   exact⟨ret_int (by rw [← HY.out]; rfl),rfl⟩
end
section
open Go.RowKit

theorem rstep_method (B c b:Nat) (hc:c < 4294967296) (hb:b < 256) (w:World) (hcell:w.cell? ⟨B,0,none⟩=some (.int .u32 c)) (hfr:w.frozen? ⟨B,0,none⟩=false) :
  Calls Tryz.prog 130 #[.pointer (some ⟨B,0,none⟩),.int .u8 b] w fun e w' => e=.returned (.tuple #[])∧w.setCell ⟨B,0,none⟩ (.int .u32 (cstep c b))=w':=by
 have HS:Hid (cstep c b=cstep c b):=rfl
 go_enter Tryz.func130,Tryz.ntmps130
 go_wp2_with fail
 refine (step_any c b hc hb _).mono ?_
 rintro e w' ⟨rfl,rfl⟩
 go_wp2_with fail
 go_end0
 exact⟨rfl,rfl⟩

theorem each_any (B c:Nat) (l:List UInt8) (hl:l.length≤4294967296) (hc:c < 4294967296) (w:World) (hcell:w.cell? ⟨B,0,none⟩=some (.int .u32 c)) (hfr:w.frozen? ⟨B,0,none⟩=false) :
  Calls Tryz.prog 129 #[.string ⟨l.toArray⟩,.func (Fn.func 130) #[.pointer (some ⟨B,0,none⟩)] #[]] w fun e w' =>
   e=.returned (.tuple #[])∧w'.cell? ⟨B,0,none⟩=some (.int .u32 (cfold c l))∧Below B w w':=by
 have HC:=hZq hcell
 have HF:=hZq hfr
 clear hcell hfr
 go_enter Tryz.func129,Tryz.ntmps129
 go_wp2_with fail
 go_loopw [7] (fun i wr => ∃ k:Nat,k≤l.length∧i=.int .i64 k∧Hid (wr.cell? ⟨B,0,none⟩=some (.int .u32 (cfold c (l.take k))))∧Hid (wr.frozen? ⟨B,0,none⟩=false)∧Below B w wr) (fun i _ => l.length - (intOf i).toNat)
 case atStart => exact⟨0,by omega,rfl,HC,HF,Below.refl _ _⟩
 case round =>
  obtain⟨k,hk,rfl,HC',HF',hnx⟩:=hrel
  by_cases hlt:k < l.length
  ·have hlt':k < (⟨l.toArray⟩ : ByteArray).size:=by rw [size_bytes]; exact hlt
   obtain⟨b,hb⟩ : ∃ b:UInt8,(⟨l.toArray⟩ : ByteArray)[k]'hlt'=b:=⟨_,rfl⟩
   have HB:Hid (l[k]?=some b):=by rw [← hb]; exact bytes_at l k hlt'
   have hN:Hid (cfold c (l.take (k+1))=cstep (cfold c (l.take k)) b.toNat):=by
    show _=_
    obtain⟨h1,h2⟩:=List.getElem?_eq_some_iff.1 HB.out
    rw [List.take_succ_eq_append_getElem h1,h2,cfold_append]
    rfl
   have hd:=cfold_lt (l.take k) hc
   have h256:=b.toNat_lt
   obtain⟨d,hd'⟩ : ∃ d,d=cfold c (l.take k):=⟨_,rfl⟩
   rw [← hd'] at hd hN HC'
   clear hd'
   go_wp2_with fail
   refine (rstep_method B d b.toNat hd (by omega) _ HC'.out HF'.out).mono ?_
   rintro e w1 ⟨rfl,rfl⟩
   go_wp2_with fail
   go_roundw
   case rel => exact⟨k+1,by omega,by go_num,by show _=_; rw [hN.out]; exact World.cell?_setCell_same _ _ _ HC'.out,(World.frozen?_setCell _ _ _ _).trans HF'.out,hnx.setCell (Nat.le_refl _) _⟩
   case measure => simp [intOf]; omega
  ·obtain rfl:k=l.length:=by omega
   have hfull:l.take l.length=l:=List.take_length
   rw [hfull] at HC'
   clear hfull
   go_wp2_with fail
   go_end0
   exact⟨rfl,HC'.out,hnx⟩

theorem sum_any (l:List UInt8) (hl:l.length≤4294967296) (w:World) :
  Calls Tryz.prog 101 #[.string ⟨l.toArray⟩] w fun e w' => e=.returned (.int .u32 (csum l))∧Below w.heap.size w w':=by
 have hmf:∀ (fn:Fn) (first cap:Array Value) (w:World),(Instr.makeFunc fn first cap).run Tryz.prog w=.ok (.func fn first cap) w:=fun _ _ _ _ => rfl
 have hd:=cfold_lt l (show 4294967295 < 4294967296 by decide)
 have hx:bits .xor .u32 ((cfold 4294967295 l:Nat):Int) 4294967295=((csum l:Nat):Int):=xor_u32 _ 4294967295 hd (by decide)
 have hc0:(w.alloc (.cells #[.int .u32 4294967295] 156)).cell? ⟨w.heap.size,0,none⟩=some (.int .u32 4294967295):=by
  rw [World.cell?_alloc_at _ _ _ _ rfl]; rfl
 have hf0:(w.alloc (.cells #[.int .u32 4294967295] 156)).frozen? ⟨w.heap.size,0,none⟩=false:=World.frozen?_alloc_at _ _ _ _ rfl
 go_enter Tryz.func101,Tryz.ntmps101
 go_wp2_with fail
 refine (each_any w.heap.size 4294967295 l hl (by decide) _ hc0 hf0).mono ?_
 rintro e w1 ⟨rfl,hc1,hb1⟩
 go_wp2_with fail
 go_ret
 exact⟨rfl,((Below.refl _ _).alloc (Nat.le_refl _) _).trans hb1⟩

theorem rsum_any (l:List UInt8) (hl:l.length≤4294967296) (w:World) :
  Calls Tryz.prog 83 #[.string ⟨l.toArray⟩] w fun e w' => e=.returned (.int .u32 (csum l))∧w=w':=by
 have hd:=cfold_lt l (show 4294967295 < 4294967296 by decide)
 have hx:bits .xor .u32 ((cfold 4294967295 l:Nat):Int) 4294967295=((csum l:Nat):Int):=xor_u32 _ 4294967295 hd (by decide)
 have HX:=hZq hx
 clear hx hd
 go_enter Tryz.func83,Tryz.ntmps83
 go_wp2_with fail
 go_loop [3,4] (fun v i => ∃ k d:Nat,k≤l.length∧d < 4294967296∧i=.int .i64 k∧v=.int .u32 d∧Hid (d=cfold 4294967295 (l.take k))) (fun _ i => l.length - (intOf i).toNat)
 case atStart => exact⟨0,4294967295,by omega,by decide,rfl,rfl,rfl⟩
 case round =>
  obtain⟨k,d,hk,hd,rfl,rfl,HD⟩:=hrel
  by_cases hlt:k < l.length
  ·have hlt':k < (⟨l.toArray⟩ : ByteArray).size:=by rw [size_bytes]; exact hlt
   obtain⟨b,hb⟩ : ∃ b:UInt8,(⟨l.toArray⟩ : ByteArray)[k]'hlt'=b:=⟨_,rfl⟩
   have HB:Hid (l[k]?=some b):=by rw [← hb]; exact bytes_at l k hlt'
   have hN:Hid (cstep d b.toNat=cfold 4294967295 (l.take (k+1))):=by
    show _=_
    obtain⟨h1,h2⟩:=List.getElem?_eq_some_iff.1 HB.out
    rw [List.take_succ_eq_append_getElem h1,h2,cfold_append,HD.out]
    rfl
   have h256:=b.toNat_lt
   have hl2:=cstep_lt hd (show b.toNat < 4294967296 by omega)
   go_wp2_with fail
   refine (rstep_any d b.toNat hd (by omega) _).mono ?_
   rintro e w1 ⟨rfl,rfl⟩
   go_wp2_with fail
   go_round
   case rel => exact⟨k+1,cstep d b.toNat,by omega,hl2,by go_num,rfl,hN⟩
   case measure => simp [intOf]; omega
  ·obtain rfl:k=l.length:=by omega
   have hx2:bits .xor .u32 (d:Int) 4294967295=((csum l:Nat):Int):=by
    have h1:=HX.out
    have h2:=HD.out
    rw [List.take_length] at h2
    rwa [← h2] at h1
   clear HX
   go_wp2_with fail
   go_ret
   exact⟨rfl,rfl⟩
end
section
open Go.RowKit
attribute [local go_sem] ByteArray.mk_append_mk

theorem low4_vals (n:Nat) (hn:n < 4294967296):#[Value.int IntKind.u8 ((n:Int) % 256),Value.int IntKind.u8 ((n:Int) / 256 % 256),Value.int IntKind.u8 ((n:Int) / 65536 % 256),Value.int IntKind.u8 ((n:Int) / 16777216)]=(bvals (low4 n)).toArray:=by
 simp only [bvals,low4,List.map_cons,List.map_nil]
 rw [u8of_toNat (by omega),u8of_toNat (by omega),u8of_toNat (by omega),u8of_toNat (by omega)]
 rw [show ((n % 256:Nat):Int)=(n:Int) % 256 by omega,show ((n / 256 % 256:Nat):Int)=(n:Int) / 256 % 256 by omega,show ((n / 65536 % 256:Nat):Int)=(n:Int) / 65536 % 256 by omega,show ((n / 16777216 % 256:Nat):Int)=(n:Int) / 16777216 by omega]

theorem low_any (n:Nat) (hn:n < 4294967296) (w:World) :
  Calls Tryz.prog 100 #[.int .u32 n] w fun e w' => e=.returned (.string ⟨(low4 n).toArray⟩)∧Below w.heap.size w w':=by
 have hcv:=fun w => run_convert_new (P:=Tryz.prog) w 118 5 9 Tryz.underlying118 Tryz.underlying5 Tryz.underlying9 _ (low4 n) (low4_vals n hn) 4 rfl (by decide)
 go_enter Tryz.func100,Tryz.ntmps100
 go_wp2_with fail
 go_ret
 exact⟨rfl,(Below.refl _ _).alloc (Nat.le_refl _) _⟩

theorem seal_any (l:List UInt8) (hl:l.length≤4294967296) (w:World) :
  Calls Tryz.prog 128 #[.string ⟨l.toArray⟩] w fun e w' => e=.returned (.string ⟨(cseal l).toArray⟩)∧Below w.heap.size w w':=by
 have h4:(low4 (csum l)).length=4:=rfl
 have hs:=csum_lt l
 go_enter Tryz.func128,Tryz.ntmps128
 go_wp2_with fail
 refine (sum_any l hl _).mono ?_
 rintro e w1 ⟨rfl,hb1⟩
 go_wp2_with fail
 refine (low_any (csum l) hs _).mono ?_
 rintro e w2 ⟨rfl,hb2⟩
 go_wp2_with fail
 go_ret
 exact⟨rfl,below2' hb1 hb2⟩

theorem rseal_any (l:List UInt8) (hl:l.length≤4294967296) (w:World) :
  Calls Tryz.prog 54 #[.string ⟨l.toArray⟩] w fun e w' => e=.returned (.string ⟨(cseal l).toArray⟩)∧Below w.heap.size w w':=by
 have h4:(low4 (csum l)).length=4:=rfl
 have hs:=csum_lt l
 have hcv:=fun w => run_convert_new (P:=Tryz.prog) w 118 5 9 Tryz.underlying118 Tryz.underlying5 Tryz.underlying9 _ (low4 (csum l)) (low4_vals (csum l) hs) 4 rfl (by decide)
 go_enter Tryz.func54,Tryz.ntmps54
 go_wp2_with fail
 refine (rsum_any l hl _).mono ?_
 rintro e w' ⟨rfl,rfl⟩
 go_wp2_with fail
 go_ret
 exact⟨rfl,(Below.refl _ _).alloc (Nat.le_refl _) _⟩

def pairS (r:List UInt8 × Nat):Value:=.tuple #[.string ⟨r.1.toArray⟩,.int .i64 r.2]

theorem open_any (l:List UInt8) (hl:l.length≤4294967296) (w:World) :
  Calls Tryz.prog 77 #[.string ⟨l.toArray⟩] w fun e w' => e=.returned (pairS (copen l))∧Below w.heap.size w w':=by
 by_cases h4:l.length < 4
 ·have HR:Hid (copen l=([],2)):=by show _=_; unfold copen; rw [if_pos h4]
  go_enter Tryz.func77,Tryz.ntmps77
  go_wp2_with fail
  go_ret2
  exact⟨by rw [HR.out]; rfl,Below.refl _ _⟩
 ·obtain⟨s,hs⟩ : ∃ s,s=l.take (l.length - 4):=⟨_,rfl⟩
  obtain⟨d,hd⟩ : ∃ d,d=l.drop (l.length - 4):=⟨_,rfl⟩
  have hsl1:=fun w => run_slice_bytes_to (P:=Tryz.prog) w 9 l (l.length - 4) ((l.length:Int) - 4) (by omega) Tryz.underlying9 (by omega)
  have hsl2:=fun w => run_slice_bytes_from (P:=Tryz.prog) w 9 l (l.length - 4) ((l.length:Int) - 4) (by omega) Tryz.underlying9 (by omega)
  have hsl:s.length≤4294967296:=by rw [hs]; simp; omega
  have hsm:=csum_lt s
  have hop:copen l=if d=low4 (csum s) then (s,0) else ([],4):=by unfold copen; rw [if_neg h4,← hs,← hd]
  rw [← hs] at hsl1
  rw [← hd] at hsl2
  have HO:=hZq hop
  have HSL:=hZq hsl
  clear hop hsl hs hd
  by_cases he:d=low4 (csum s)
  ·have t1:(low4 (csum s) == d)=true:=by rw [he]; simp
   have HR:Hid (copen l=(s,0)):=by show _=_; rw [HO.out,if_pos he]
   clear he
   go_enter Tryz.func77,Tryz.ntmps77
   go_wp2_with fail
   refine wp_region_quiet_below (by kernel_rfl) (by kernel_rfl) ?_
   repeat (go_big_quiet_step (first | exact rgB (sum_any s HSL.out) _ _ _ | exact rgB (low_any (csum s) hsm) _ _ _))
   refine wpQuiet_nil ?_
   intro _ hw'
   obtain⟨⟨dq,osq⟩,hw''⟩:=hw'
   subst hw''
   go_wp2
   go_ret2
   exact⟨by rw [HR.out]; rfl,below_regrown _ _ _⟩
  ·have t1:(low4 (csum s) == d)=false:=by simpa using fun h => he h.symm
   have HR:Hid (copen l=([],4)):=by show _=_; rw [HO.out,if_neg he]
   clear he
   go_enter Tryz.func77,Tryz.ntmps77
   go_wp2_with fail
   refine wp_region_quiet_below (by kernel_rfl) (by kernel_rfl) ?_
   repeat (go_big_quiet_step (first | exact rgB (sum_any s HSL.out) _ _ _ | exact rgB (low_any (csum s) hsm) _ _ _))
   refine wpQuiet_nil ?_
   intro _ hw'
   obtain⟨⟨dq,osq⟩,hw''⟩:=hw'
   subst hw''
   go_wp2
   go_ret2
   exact⟨by rw [HR.out]; rfl,below_regrown _ _ _⟩

theorem ropen_any (l:List UInt8) (hl:l.length≤4294967296) (w:World) :
  Calls Tryz.prog 81 #[.string ⟨l.toArray⟩] w fun e w' => e=.returned (pairS (copen l))∧Below w.heap.size w w':=by
 by_cases h4:l.length < 4
 ·have HR:Hid (copen l=([],2)):=by show _=_; unfold copen; rw [if_pos h4]
  go_enter Tryz.func81,Tryz.ntmps81
  go_wp2_with fail
  go_ret2
  exact⟨by rw [HR.out]; rfl,Below.refl _ _⟩
 ·obtain⟨s,hs⟩ : ∃ s,s=l.take (l.length - 4):=⟨_,rfl⟩
  have hsl1:=fun w => run_slice_bytes_to (P:=Tryz.prog) w 9 l (l.length - 4) ((l.length:Int) - 4) (by omega) Tryz.underlying9 (by omega)
  have hsl:s.length≤4294967296:=by rw [hs]; simp; omega
  have hop:copen l=if cseal s=l then (s,0) else ([],4):=by
   have e:(cseal s=l) ↔ (l.drop (l.length - 4)=low4 (csum s)):=by
    unfold cseal
    constructor
    ·intro h
     rw [hs] at h ⊢
     conv at h => rhs; rw [← List.take_append_drop (l.length - 4) l]
     exact (List.append_cancel_left h).symm
    ·intro h
     rw [← h,hs,List.take_append_drop]
   unfold copen
   rw [if_neg h4,← hs]
   by_cases hh:cseal s=l
   ·rw [if_pos hh,if_pos (e.1 hh)]
   ·rw [if_neg hh,if_neg (fun x => hh (e.2 x))]
  rw [← hs] at hsl1
  have HO:=hZq hop
  have HSL:=hZq hsl
  clear hop hsl hs
  by_cases he:cseal s=l
  ·have t1:(cseal s == l)=true:=by simpa using he
   have HR:Hid (copen l=(s,0)):=by show _=_; rw [HO.out,if_pos he]
   clear he
   go_enter Tryz.func81,Tryz.ntmps81
   go_wp2_with fail
   refine (rseal_any s HSL.out _).mono ?_
   rintro e w1 ⟨rfl,hb1⟩
   go_wp2_with fail
   go_ret2
   exact⟨by rw [HR.out]; rfl,hb1⟩
  ·have t1:(cseal s == l)=false:=by simpa using he
   have HR:Hid (copen l=([],4)):=by show _=_; rw [HO.out,if_neg he]
   clear he
   go_enter Tryz.func81,Tryz.ntmps81
   go_wp2_with fail
   refine (rseal_any s HSL.out _).mono ?_
   rintro e w1 ⟨rfl,hb1⟩
   go_wp2_with fail
   go_ret2
   exact⟨by rw [HR.out]; rfl,hb1⟩
end
section
open Go.RowKit

def frAgg (f:Frm) (v:Value):Value:=.agg #[.int .i64 f.k,.int .i64 f.s,.bool f.on,.string ⟨f.c.toArray⟩,.int .i64 f.v.sh,.int .i64 f.v.pr,.int .i64 f.v.si,.string ⟨f.v.st.toArray⟩,.int .u64 f.sum,v]

theorem frput_any {w:World} {v:Value} {t:List Row} (hv:Tab w v t) (hsh:Short t) (k s:Int) (on:Bool) (c:List UInt8) (sh pr si:Int) (st:List UInt8) (sum:Nat) (hs:sum < 18446744073709551616)
  (hm:frMay ⟨k,s,on,c,⟨sh,pr,si,st⟩,sum,t⟩=true) :
  Calls Tryz.prog 80 #[.agg #[.int .i64 k,.int .i64 s,.bool on,.string ⟨c.toArray⟩,.int .i64 sh,.int .i64 pr,.int .i64 si,.string ⟨st.toArray⟩,.int .u64 sum,v]] w fun e w' => e=.returned (.string ⟨(frPlain ⟨k,s,on,c,⟨sh,pr,si,st⟩,sum,t⟩).toArray⟩)∧Below w.heap.size w w':=by
 have ho:=frMay_iff.1 hm
 obtain⟨h1,h4,h0,hs1,hr⟩:=ho
 simp only at h1 h4 h0 hs1
 obtain⟨n,rfl⟩:=Int.eq_ofNat_of_zero_le h0
 have hn:n < 9223372036854775808:=by omega
 have hk:k=1∨k=2∨k=3∨k=4:=by omega
 unfold frRest at hr
 simp only at hr
 rcases hk with rfl | rfl | rfl | rfl
 ·simp only [if_true,Bool.and_eq_true,decide_eq_true_eq] at hr
  obtain⟨_,_,hc,hvm⟩:=hr
  have hl:=(idIs_parts hc).2.1
  have hip:=(idPut_len hc)
  cases on with
  | false =>
   refine frput_1 n hn false c sh pr si st sum v (0 :: (idPut c).1) (by rw [hip.1]; have:=hip.2; simp only [List.length_cons]; omega) w ?_
   show ∀ _,_
   exact fun w1 _ => putDelta_off 1 n c sh pr si st sum v hc w1
  | true =>
   simp only [if_true] at hvm
   have h3:(vaBytes ⟨sh,pr,si,st⟩).length≤100:=by
    obtain⟨_,_,_,_,g5,g6,g7⟩:=vaMay_parts hvm
    unfold vaBytes
    have a1:=vput_len_le si.toNat
    have a2:=vput_len_le st.length
    simp only [List.length_append,List.length_cons,List.length_nil] at g7 ⊢
    omega
   refine frput_1 n hn true c sh pr si st sum v (1 :: ((idPut c).1 ++ vaBytes ⟨sh,pr,si,st⟩)) (by rw [hip.1]; have:=hip.2; simp only [List.length_cons,List.length_append] at this ⊢; omega) w ?_
   show ∀ _,_
   exact fun w1 _ => putDelta_on 1 n c sh pr si st sum v hc hvm w1
 ·refine frput_2 n hn on c sh pr si st sum v (be8 sum) (by rw [be8_len]; decide) w ?_
  show ∀ _,_
  exact fun w1 _ => putDigest_any 2 n on c sh pr si st sum v hs w1
 ·have hl:=frPlain_len hm
  refine frput_3 n hn on c sh pr si st sum v (diPut t).1 (by
   unfold frPlain frBody at hl
   simp only [show ¬ (3:Int)=1 by omega,show ¬ (3:Int)=2 by omega,if_false,if_true,List.length_cons,List.length_append] at hl
   omega) w ?_
  show ∀ _,_
  exact fun w1 hb => putSnapshot_any (hv.later hb) hsh 3 n on c sh pr si st sum
 ·refine frput_4 n hn on c sh pr si st sum v [] (by simp) w ?_
  show ∀ _,_
  exact fun w1 _ => putResync_any 4 n on c sh pr si st sum v w1

theorem frenc_any {w:World} {v:Value} {t:List Row} (hv:Tab w v t) (hsh:Short t) (k s:Int) (on:Bool) (c:List UInt8) (sh pr si:Int) (st:List UInt8) (sum:Nat) (hs:sum < 18446744073709551616) (hc:c.length≤4294967296) (hst:st.length≤4294967296)
  {l:List UInt8} {er:Nat} (h:Hid (frEnc ⟨k,s,on,c,⟨sh,pr,si,st⟩,sum,t⟩=(l,er))) :
  Calls Tryz.prog 98 #[.agg #[.int .i64 k,.int .i64 s,.bool on,.string ⟨c.toArray⟩,.int .i64 sh,.int .i64 pr,.int .i64 si,.string ⟨st.toArray⟩,.int .u64 sum,v]] w fun e w' => e=.returned (.tuple #[.string ⟨l.toArray⟩,.int .i64 er])∧Below w.heap.size w w':=by
 have B0:Hid (Below w.heap.size w (w.alloc (.cells #[.int .i64 k,.int .i64 s,.bool on,.string ⟨c.toArray⟩,.int .i64 sh,.int .i64 pr,.int .i64 si,.string ⟨st.toArray⟩,.int .u64 sum,v] 56))):=hZq ((Below.refl _ _).alloc (Nat.le_refl _) _)
 have HV:=hZq (hv.later B0.out)
 have HM:=hZq (frmay_any HV.out hsh k s on c sh pr si st sum hc hst)
 have e:=h.out
 unfold frEnc at e
 cases hm:frMay ⟨k,s,on,c,⟨sh,pr,si,st⟩,sum,t⟩ with
 | false =>
  rw [hm] at e HM
  simp only [Bool.false_eq_true,if_false,Prod.mk.injEq] at e
  obtain⟨rfl,rfl⟩:=e
  clear h hm hv
  go_enter Tryz.func98,Tryz.ntmps98
  go_wp2_with fail
  refine HM.out.mono ?_
  rintro e w1 ⟨rfl,b⟩
  have B1:=hZq (below2' B0.out b)
  clear b
  go_wp2_with fail
  go_ret2
  exact⟨rfl,B1.out⟩
 | true =>
  have hp:=fun (w1:World) (hv1:Tab w1 v t) => frput_any (w:=w1) hv1 hsh k s on c sh pr si st sum hs hm
  have HP:=hZq hp
  clear hp
  rw [hm] at e HM
  simp only [if_true,Prod.mk.injEq] at e
  obtain⟨hl,rfl⟩:=e
  have hl2:=frPlain_len hm
  obtain⟨u,hu⟩ : ∃ u,frPlain ⟨k,s,on,c,⟨sh,pr,si,st⟩,sum,t⟩=u:=⟨_,rfl⟩
  rw [hu] at hl hl2 HP
  subst hl
  have hul:u.length≤4294967296:=by omega
  have HS:=hZq (seal_any u hul)
  obtain⟨z,hz⟩ : ∃ z,cseal u=z:=⟨_,rfl⟩
  rw [hz] at HS ⊢
  clear h hm hv hu hl2 hul hz
  go_enter Tryz.func98,Tryz.ntmps98
  go_wp2_with fail
  refine HM.out.mono ?_
  rintro e w1 ⟨rfl,b⟩
  have B1:=hZq (below2' B0.out b)
  have V1:=hZq (HV.out.later b)
  obtain⟨hcl,_⟩:=bcellF b
  clear b
  go_wp2_with fail
  refine (HP.out _ V1.out).mono ?_
  rintro e w2 ⟨rfl,b⟩
  have B2:=hZq (below2' B1.out b)
  clear b hcl
  go_wp2_with fail
  refine (HS.out _).mono ?_
  rintro e w3 ⟨rfl,b⟩
  have B3:=hZq (below2' B2.out b)
  clear b
  go_wp2_with fail
  go_ret2
  exact⟨rfl,B3.out⟩
end
section
open Go.RowKit

def setMany (w:World):List (Addr × Value)→World
 | [] => w
 | x :: l => setMany (w.setCell x.1 x.2) l

theorem setMany_other (p:Addr):∀ (l:List (Addr × Value)) (w:World),(∀ x ∈ l,x.1 ≠ p)→(setMany w l).cell? p=w.cell? p
 | [],_,_ => rfl
 | x :: l,w,h => by
  show (setMany (w.setCell x.1 x.2) l).cell? p=_
  rw [setMany_other p l _ (fun y hy => h y (List.mem_cons_of_mem _ hy)),World.cell?_setCell_other _ _ _ _ (h x (by simp))]

theorem setMany_get:∀ (l:List (Addr × Value)) (w:World),l.Pairwise (fun x y => x.1 ≠ y.1)→(∀ x ∈ l,(w.cell? x.1).isSome=true)→∀ x ∈ l,(setMany w l).cell? x.1=some x.2
 | [],_,_,_,_,h => by cases h
 | y :: l,w,hp,hs,x,hx => by
  obtain⟨h1,h2⟩:=List.pairwise_cons.1 hp
  show (setMany (w.setCell y.1 y.2) l).cell? x.1=_
  rcases List.mem_cons.1 hx with rfl | hx
  ·rw [setMany_other _ l _ (fun z hz => (h1 z hz).symm)]
   exact World.cell?_setCell_same' _ _ _ (hs x (by simp))
  ·refine setMany_get l _ h2 (fun z hz => ?_) x hx
   rw [World.cell?_setCell_other _ _ _ _ (h1 z hz)]
   exact hs z (List.mem_cons_of_mem _ hz)

theorem setMany_below {w:World}:∀ (l:List (Addr × Value)) {w1:World},Below w.heap.size w w1→(∀ x ∈ l,w.heap.size≤x.1.block)→Below w.heap.size w (setMany w1 l)
 | [],_,h,_ => h
 | x :: l,_,h,hl => setMany_below l (h.setCell (hl x (by simp)) _) (fun y hy => hl y (List.mem_cons_of_mem _ hy))

def set10 (w:World) (B C:Nat) (a1 a2 a3 a4 a5 b1 b2 b3 b4 b5:Value):World :=
 setMany w [(⟨B,0,none⟩,a1),(⟨B,1,none⟩,a2),(⟨B,2,none⟩,a3),(⟨B,3,none⟩,a4),(⟨B,4,none⟩,a5),(⟨C,0,none⟩,b1),(⟨C,1,none⟩,b2),(⟨C,2,none⟩,b3),(⟨C,3,none⟩,b4),(⟨C,4,none⟩,b5)]
end
section
open Go.RowKit

def TookO (r:List Row × Nat × Nat) (w:World) (e:Ending) (w':World):Prop :=
 ∃ v,e=.returned (.tuple #[v,.int .i64 r.2.1,.int .i64 r.2.2])∧OwnR w' w.heap.size v r.1∧Below w.heap.size w w'

theorem OwnR.setCell {w:World} {base:Nat} {v:Value} {t:List Row} (h:OwnR w base v t) {a:Addr} (ha:a.block < base) (u:Value):OwnR (w.setCell a u) base v t:=by
 refine ⟨h.1,?_⟩
 rcases h.2 with h' | ⟨g,cap,cur,h1,h2,h3,h4⟩
 ·exact .inl h'
 ·exact .inr ⟨g,cap,cur,h1,h2,by rw [Below.heap_setCell _ _ _ _ (by omega)]; exact h3,h4⟩

theorem ditakeO_get (l:List UInt8) (hl:l.length≤4294967296) (p:Int) {n f er:Nat} (h:vget l p=(n,f,er)) (he:er ≠ 0) (w:World) :
  Calls Tryz.prog 160 #[.string ⟨l.toArray⟩,.int .i64 p] w (TookO (diTake l p) w):=by
 have HR:=hZq (ditake_1 h he)
 have HG:=hZq h
 have t1:((er:Int) != 0)=true:=by simp; omega
 clear h he
 rw [HR.out]
 go_enter Tryz.func160,Tryz.ntmps160
 go_wp2_with fail
 refine (get_eq l hl _ _ HG).mono ?_
 rintro e w1 ⟨rfl,rfl⟩
 go_wp2_with fail
 go_ret3
 exact⟨_,rfl,ownR_nil _ _,Below.refl _ _⟩

theorem ditakeO_many (l:List UInt8) (hl:l.length≤4294967296) (p:Int) {n f:Nat} (h:vget l p=(n,f,0)) (hn:32 < n) (w:World) :
  Calls Tryz.prog 160 #[.string ⟨l.toArray⟩,.int .i64 p] w (TookO (diTake l p) w):=by
 have HR:=hZq (ditake_2 h hn)
 have HG:=hZq h
 clear h
 rw [HR.out]
 go_enter Tryz.func160,Tryz.ntmps160
 go_wp2_with fail
 refine (get_eq l hl _ _ HG).mono ?_
 rintro e w1 ⟨rfl,rfl⟩
 go_wp2_with fail
 go_ret3
 exact⟨_,rfl,ownR_nil _ _,Below.refl _ _⟩

theorem ditakeO_rows (l:List UInt8) (hl:l.length≤4294967296) (p:Int) {n f:Nat} (h:vget l p=(n,f,0)) (hn:¬ 32 < n) {T:List Row} {g es:Nat} (h2:diRows n l f=(T,g,es)) (w:World) :
  Calls Tryz.prog 160 #[.string ⟨l.toArray⟩,.int .i64 p] w (TookO (diTake l p) w):=by
 have HG:=hZq h
 have hfl:=(vget_in_facts h).2.2.1
 have H2:Hid (diComb [] (diRows (n - 0) l f)=(T,g,es)):=by show _=_; rw [diComb_start]; exact h2
 have HE:Hid (∀ e,e ≠ 0→(([]:List Row),0,e)=(T,g,es)→diTake l p=([],0,e)):=by
  show ∀ e,_
  intro e he e'
  simp only [Prod.mk.injEq] at e'
  obtain⟨rfl,rfl,rfl⟩:=e'
  exact ditake_3 h hn h2 he
 have HEnd:Hid (∀ acc q,(acc,q,0)=(T,g,es)→(diMay acc=false→diTake l p=([],0,3))∧(diMay acc=true→diTake l p=(acc,q,0))∧Short acc):=by
  show ∀ acc q,_
  intro acc q e'
  simp only [Prod.mk.injEq] at e'
  obtain⟨rfl,rfl,rfl⟩:=e'
  exact⟨ditake_4 h hn h2,ditake_5 h hn h2,ok_short (diRows_bytes n hfl h2).2.1⟩
 obtain⟨R,hR⟩ : ∃ R,diTake l p=R:=⟨_,rfl⟩
 rw [hR] at HE HEnd
 rw [hR]
 clear h h2 hR
 go_enter Tryz.func160,Tryz.ntmps160
 go_wp2_with fail
 refine (get_eq l hl _ _ HG).mono ?_
 rintro e w1 ⟨rfl,rfl⟩
 go_wp2_with fail
 go_loopw [8,10,27] (fun q v i wr => ∃ (k:Nat) (acc:List Row) (pl:Nat),k≤n∧i=.int .u64 k∧q=.int .i64 pl∧Hid (OwnR wr w.heap.size v acc)∧Hid (acc.length=k)∧Hid (diComb acc (diRows (n - k) l pl)=(T,g,es))∧Hid (Below w.heap.size w wr)) (fun _ _ i _ => n - (intOf i).toNat)
 case atStart => exact⟨0,[],f,by omega,rfl,rfl,ownR_nil _ _,rfl,H2,Below.refl _ _⟩
 case round =>
  clear H2
  obtain⟨k,acc,pl,hk,rfl,rfl,HO,HL,HC,HN⟩:=hrel
  by_cases hlt:k < n
  ·obtain⟨⟨c,⟨x,y,z,st⟩⟩,q,er,hr⟩ : ∃ r q er,diTakeRow l pl=(r,q,er):=⟨_,_,_,rfl⟩
   have HT:=hZq (taker_eq l hl pl (hZq hr))
   have hc:=HC.out
   rw [show n - k=n - (k+1)+1 by omega] at hc
   by_cases he:er=0
   ·subst he
    rw [diComb_step acc hr] at hc
    have HC2:=hZq hc
    have hal:acc.length≤32:=by rw [HL.out]; omega
    have HL2:Hid ((acc ++ [(⟨c,x,y,z,st⟩ : Row)]).length=k+1):=by show _=_; rw [List.length_append,HL.out]; rfl
    have hz:=HN.out.size
    clear hr hc HC
    go_wp2_with fail
    refine (HT.out _).mono ?_
    rintro e w2 ⟨rfl,hb2⟩
    have N2:=hZq (below2' HN.out hb2)
    have N3:=hZq (bl_alloc N2.out (.cells #[.string ⟨c.toArray⟩,.int .i64 x,.int .i64 y,.int .i64 z,.string ⟨st.toArray⟩] 73))
    have N4:=hZq (bl_alloc N3.out (.cells #[.string ⟨c.toArray⟩,.int .i64 x,.int .i64 y,.int .i64 z,.string ⟨st.toArray⟩] 73))
    have O2:=hZq (((HO.out.later hb2).alloc (.cells #[.string ⟨c.toArray⟩,.int .i64 x,.int .i64 y,.int .i64 z,.string ⟨st.toArray⟩] 73)).alloc (.cells #[.string ⟨c.toArray⟩,.int .i64 x,.int .i64 y,.int .i64 z,.string ⟨st.toArray⟩] 73))
    have hz2:=N4.out.size
    clear hb2 HO
    go_wp2_with (at_builtin; go_must (refine wpList_append_rows rfl _ _ rfl w.heap.size _ acc rfl (by exact O2.out) _ 1 1 [⟨c,x,y,z,st⟩] rfl rfl (fun e => nomatch e) ?c1 (by simp; omega) hz2 ?_))
    case c1 => exact new_row (by simp)
    intro v' w' hown' hb'
    have O3:=hZq hown'
    have N5:=hZq (N4.out.trans hb')
    clear hown' hb' hz2 hz O2
    go_wp2_with fail
    go_roundw
    case rel => exact⟨k+1,acc ++ [⟨c,x,y,z,st⟩],q,by omega,by go_num,rfl,O3,HL2,HC2,N5⟩
    case measure => simp [intOf]; omega
   ·rw [diComb_err acc hr he] at hc
    have HR:=hZq (HE.out er he hc)
    have t1:((er:Int) != 0)=true:=by simp; omega
    clear hr hc he
    go_wp2_with fail
    refine (HT.out _).mono ?_
    rintro e w2 ⟨rfl,hb2⟩
    have N2:=hZq (bl_alloc (below2' HN.out hb2) (.cells #[.string ⟨c.toArray⟩,.int .i64 x,.int .i64 y,.int .i64 z,.string ⟨st.toArray⟩] 73))
    clear hb2
    go_wp2_with fail
    go_ret3
    exact⟨_,by rw [HR.out]; rfl,by rw [HR.out]; exact ownR_nil _ _,N2.out⟩
  ·obtain rfl:k=n:=by omega
   have hc:=HC.out
   rw [Nat.sub_self,diComb_end] at hc
   obtain⟨e1,e2,e3⟩:=HEnd.out acc pl hc
   have HTb:=hZq HO.out.tab
   clear hc
   cases hm:diMay acc with
   | false =>
    have HR:=hZq (e1 hm)
    have HM:=hZq (dimay_eq HTb.out e3 (hZq hm))
    clear hm e1 e2 e3
    go_wp2_with fail
    refine HM.out.mono ?_
    rintro e w2 ⟨rfl,hb2⟩
    have N2:=hZq (below2' HN.out hb2)
    clear hb2
    go_wp2_with fail
    go_ret3
    exact⟨_,by rw [HR.out]; rfl,by rw [HR.out]; exact ownR_nil _ _,N2.out⟩
   | true =>
    have HR:=hZq (e2 hm)
    have HM:=hZq (dimay_eq HTb.out e3 (hZq hm))
    clear hm e1 e2 e3
    go_wp2_with fail
    refine HM.out.mono ?_
    rintro e w2 ⟨rfl,hb2⟩
    have N2:=hZq (below2' HN.out hb2)
    have T2:=hZq (HO.out.later hb2)
    clear hb2
    go_wp2_with fail
    go_ret3
    exact⟨_,by rw [HR.out]; rfl,by rw [HR.out]; exact T2.out,N2.out⟩

theorem ditakeO_any (l:List UInt8) (hl:l.length≤4294967296) (p:Int) (w:World) :
  Calls Tryz.prog 160 #[.string ⟨l.toArray⟩,.int .i64 p] w (TookO (diTake l p) w):=by
 obtain⟨n,f,er,h⟩ : ∃ n f er,vget l p=(n,f,er):=⟨_,_,_,rfl⟩
 by_cases he:er=0
 ·subst he
  by_cases hn:32 < n
  ·exact ditakeO_many l hl p h hn w
  ·obtain⟨T,g,es,h2⟩ : ∃ T g es,diRows n l f=(T,g,es):=⟨_,_,_,rfl⟩
   exact ditakeO_rows l hl p h hn h2 w
 ·exact ditakeO_get l hl p h he w
end
section
open Go.RowKit

def setF (w:World) (B:Nat) (c0 c1 c2 c3 c4 c5 c6 c7 c8 c9:Value):World :=
 setMany w [(⟨B,0,none⟩,c0),(⟨B,1,none⟩,c1),(⟨B,2,none⟩,c2),(⟨B,3,none⟩,c3),(⟨B,4,none⟩,c4),(⟨B,5,none⟩,c5),(⟨B,6,none⟩,c6),(⟨B,7,none⟩,c7),(⟨B,8,none⟩,c8),(⟨B,9,none⟩,c9)]

def FrAt (w:World) (B:Nat) (c0 c1 c2 c3 c4 c5 c6 c7 c8 c9:Value):Prop :=
 (w.cell? ⟨B,0,none⟩=some c0∧w.cell? ⟨B,1,none⟩=some c1∧w.cell? ⟨B,2,none⟩=some c2∧w.cell? ⟨B,3,none⟩=some c3∧w.cell? ⟨B,4,none⟩=some c4 ∧
  w.cell? ⟨B,5,none⟩=some c5∧w.cell? ⟨B,6,none⟩=some c6∧w.cell? ⟨B,7,none⟩=some c7∧w.cell? ⟨B,8,none⟩=some c8∧w.cell? ⟨B,9,none⟩=some c9) ∧
 ∀ i,i < 10→w.frozen? ⟨B,i,none⟩=false

theorem FrAt.later {w w':World} {B:Nat} {c0 c1 c2 c3 c4 c5 c6 c7 c8 c9:Value} (h:FrAt w B c0 c1 c2 c3 c4 c5 c6 c7 c8 c9) (hb:Below w.heap.size w w'):FrAt w' B c0 c1 c2 c3 c4 c5 c6 c7 c8 c9:=by
 have hlt:B < w.heap.size:=by have:=World.block_lt_of_cell? _ _ h.1.1; simpa using this
 exact⟨keep10 hb h.1,fun i hi => (hb.frozen (p:=⟨B,i,none⟩) hlt).trans (h.2 i hi)⟩

theorem frAt_made (w:World) (c0 c1 c2 c3 c4 c5 c6 c7 c8 c9:Value) (T:TypeId):FrAt (w.alloc (.cells #[c0,c1,c2,c3,c4,c5,c6,c7,c8,c9] T)) w.heap.size c0 c1 c2 c3 c4 c5 c6 c7 c8 c9:=by
 refine ⟨⟨?_,?_,?_,?_,?_,?_,?_,?_,?_,?_⟩,fun i hi => ?_⟩
 all_goals first | (rw [World.cell?_alloc_at _ _ _ _ rfl]; rfl) | simp

theorem setF_get {w:World} {B:Nat} {u0 u1 u2 u3 u4 u5 u6 u7 u8 u9:Value} (h:FrAt w B u0 u1 u2 u3 u4 u5 u6 u7 u8 u9) (c0 c1 c2 c3 c4 c5 c6 c7 c8 c9:Value) :
  let x:=setF w B c0 c1 c2 c3 c4 c5 c6 c7 c8 c9
  x.cell? ⟨B,0,none⟩=some c0∧x.cell? ⟨B,1,none⟩=some c1∧x.cell? ⟨B,2,none⟩=some c2∧x.cell? ⟨B,3,none⟩=some c3∧x.cell? ⟨B,4,none⟩=some c4 ∧
  x.cell? ⟨B,5,none⟩=some c5∧x.cell? ⟨B,6,none⟩=some c6∧x.cell? ⟨B,7,none⟩=some c7∧x.cell? ⟨B,8,none⟩=some c8∧x.cell? ⟨B,9,none⟩=some c9:=by
 obtain⟨⟨h0,h1,h2,h3,h4,h5,h6,h7,h8,h9⟩,_⟩:=h
 have hm:=setMany_get [(⟨B,0,none⟩,c0),(⟨B,1,none⟩,c1),(⟨B,2,none⟩,c2),(⟨B,3,none⟩,c3),(⟨B,4,none⟩,c4),(⟨B,5,none⟩,c5),(⟨B,6,none⟩,c6),(⟨B,7,none⟩,c7),(⟨B,8,none⟩,c8),(⟨B,9,none⟩,c9)] w
  (by simp) (by simp [h0,h1,h2,h3,h4,h5,h6,h7,h8,h9])
 exact⟨hm (_,_) (by simp),hm (_,_) (by simp),hm (_,_) (by simp),hm (_,_) (by simp),hm (_,_) (by simp),hm (_,_) (by simp),hm (_,_) (by simp),hm (_,_) (by simp),hm (_,_) (by simp),hm (_,_) (by simp)⟩

theorem setF_below {w w1:World} (h:Below w.heap.size w w1) (B:Nat) (hB:w.heap.size≤B) (c0 c1 c2 c3 c4 c5 c6 c7 c8 c9:Value):Below w.heap.size w (setF w1 B c0 c1 c2 c3 c4 c5 c6 c7 c8 c9) :=
 setMany_below _ h (by simp [hB])

theorem OwnR.mono {w:World} {base b2:Nat} {v:Value} {t:List Row} (h:OwnR w base v t) (hb:b2≤base):OwnR w b2 v t:=by
 refine ⟨h.1,?_⟩
 rcases h.2 with h' | ⟨g,cap,cur,h1,h2,h3,h4⟩
 ·exact .inl h'
 ·exact .inr ⟨g,cap,cur,h1,by omega,h3,h4⟩

theorem ownR_setMany {base:Nat} {v:Value} {t:List Row}:∀ (l:List (Addr × Value)) {w:World},OwnR w base v t→(∀ x ∈ l,x.1.block < base)→OwnR (setMany w l) base v t
 | [],_,h,_ => h
 | x :: l,_,h,hl => ownR_setMany l (h.setCell (hl x (by simp)) _) (fun y hy => hl y (List.mem_cons_of_mem _ hy))

theorem ownR_setF {w:World} {base:Nat} {v:Value} {t:List Row} (h:OwnR w base v t) (B:Nat) (hB:B < base) (c0 c1 c2 c3 c4 c5 c6 c7 c8 c9:Value):OwnR (setF w B c0 c1 c2 c3 c4 c5 c6 c7 c8 c9) base v t :=
 ownR_setMany _ h (by simp [hB])

def TookF (o:Option Frm) (w:World) (e:Ending) (w':World):Prop :=
 ∃ v,e=.returned (.tuple #[frAgg (o.getD Frm.zero) v,.bool o.isSome])∧OwnR w' w.heap.size v (o.getD Frm.zero).t∧Below w.heap.size w w'

def tkResync (_:List UInt8):Option Frm:=some Frm.zero
def tkSnapshot (b:List UInt8):Option Frm:=if (diTake b 0).2.2 ≠ 0 then none else some ⟨0,0,false,[],Val.zero,0,(diTake b 0).1⟩
def tkDigest (b:List UInt8):Option Frm:=if b.length < 8 then none else some ⟨0,0,false,[],Val.zero,sum8 (b.take 8),[]⟩

theorem takeResync_any (b:List UInt8) (w:World):Calls Tryz.prog 142 #[.string ⟨b.toArray⟩] w (TookF (tkResync b) w):=by
 go_enter Tryz.func142,Tryz.ntmps142
 go_wp2_with fail
 refine bodyPost_ret (v:=.tuple #[frAgg Frm.zero (.slice none 0 0),.bool true]) (by simp [results,Tryz.results142,go_sem,frAgg,Frm.zero,Val.zero]) rfl ⟨_,rfl,ownR_nil _ _,?_⟩
 exact (Below.refl _ _).alloc (Nat.le_refl _) _

theorem takeSnapshot_any (b:List UInt8) (hb:b.length≤4294967296) (w:World):Calls Tryz.prog 139 #[.string ⟨b.toArray⟩] w (TookF (tkSnapshot b) w):=by
 have F0:=hZq (frAt_made w (.int .i64 0) (.int .i64 0) (.bool false) (.string ⟨#[]⟩) (.int .i64 0) (.int .i64 0) (.int .i64 0) (.string ⟨#[]⟩) (.int .u64 0) (.slice none 0 0) 56)
 have B0:Hid (Below w.heap.size w (w.alloc (.cells #[.int .i64 0,.int .i64 0,.bool false,.string ⟨#[]⟩,.int .i64 0,.int .i64 0,.int .i64 0,.string ⟨#[]⟩,.int .u64 0,.slice none 0 0] 56))):=hZq ((Below.refl _ _).alloc (Nat.le_refl _) _)
 obtain⟨t,f,er,hr⟩ : ∃ t f er,diTake b 0=(t,f,er):=⟨_,_,_,rfl⟩
 have ht:=ditakeO_any b hb 0
 rw [hr] at ht
 have HT:=hZq ht
 clear ht
 by_cases he:er=0
 ·subst he
  have HQ:Hid (tkSnapshot b=some ⟨0,0,false,[],Val.zero,0,t⟩):=by show _=_; unfold tkSnapshot; rw [hr]; simp
  clear hr hb
  go_enter Tryz.func139,Tryz.ntmps139
  go_wp2_with fail
  refine (HT.out _).mono ?_
  rintro e w1 ⟨v,rfl,ht,b1⟩
  have B1:=hZq (below2' B0.out b1)
  have F1:=hZq (F0.out.later b1)
  have T1:=hZq ht
  obtain⟨a,cap,rfl,_⟩:=ht.tab.open'
  obtain⟨⟨h0,h1,h2,h3,h4,h5,h6,h7,h8,h9⟩,hz⟩:=F1.out
  have z0:=hz 0 (by decide)
  have z1:=hz 1 (by decide)
  have z2:=hz 2 (by decide)
  have z3:=hz 3 (by decide)
  have z4:=hz 4 (by decide)
  have z5:=hz 5 (by decide)
  have z6:=hz 6 (by decide)
  have z7:=hz 7 (by decide)
  have z8:=hz 8 (by decide)
  have z9:=hz 9 (by decide)
  clear b1 ht hz
  go_wp2_with fail
  obtain⟨r0,r1,r2,r3,r4,r5,r6,r7,r8,r9⟩:=setF_get F1.out (.int .i64 0) (.int .i64 0) (.bool false) (.string ⟨#[]⟩) (.int .i64 0) (.int .i64 0) (.int .i64 0) (.string ⟨#[]⟩) (.int .u64 0) (.slice a t.length cap)
  have hB:=setF_below B1.out w.heap.size (Nat.le_refl _) (.int .i64 0) (.int .i64 0) (.bool false) (.string ⟨#[]⟩) (.int .i64 0) (.int .i64 0) (.int .i64 0) (.string ⟨#[]⟩) (.int .u64 0) (.slice a t.length cap)
  have hT:=(ownR_setF T1.out w.heap.size (by simp) (.int .i64 0) (.int .i64 0) (.bool false) (.string ⟨#[]⟩) (.int .i64 0) (.int .i64 0) (.int .i64 0) (.string ⟨#[]⟩) (.int .u64 0) (.slice a t.length cap)).mono (show w.heap.size≤_ by simp)
  show bodyPost _ _ _ _ _ (setF w1 w.heap.size (.int .i64 0) (.int .i64 0) (.bool false) (.string ⟨#[]⟩) (.int .i64 0) (.int .i64 0) (.int .i64 0) (.string ⟨#[]⟩) (.int .u64 0) (.slice a t.length cap))
  exact bodyPost_ret (v:=.tuple #[frAgg ⟨0,0,false,[],Val.zero,0,t⟩ (.slice a t.length cap),.bool true]) (by simp [results,Tryz.results139,go_sem,frAgg,Val.zero,r0,r1,r2,r3,r4,r5,r6,r7,r8,r9]) rfl ⟨_,by rw [HQ.out]; rfl,by rw [HQ.out]; exact hT,hB⟩
 ·have HQ:Hid (tkSnapshot b=none):=by show _=_; unfold tkSnapshot; rw [hr]; simp [he]
  have t1:((er:Int) != 0)=true:=by rw [bne_iff_ne]; omega
  clear hr hb he
  go_enter Tryz.func139,Tryz.ntmps139
  go_wp2_with fail
  refine (HT.out _).mono ?_
  rintro e w1 ⟨v,rfl,ht,b1⟩
  have B1:=hZq (below2' B0.out b1)
  have F1:=hZq (F0.out.later b1)
  obtain⟨a,cap,rfl,_⟩:=ht.tab.open'
  obtain⟨⟨h0,h1,h2,h3,h4,h5,h6,h7,h8,h9⟩,hz⟩:=F1.out
  have z0:=hz 0 (by decide)
  have z1:=hz 1 (by decide)
  have z2:=hz 2 (by decide)
  have z3:=hz 3 (by decide)
  have z4:=hz 4 (by decide)
  have z5:=hz 5 (by decide)
  have z6:=hz 6 (by decide)
  have z7:=hz 7 (by decide)
  have z8:=hz 8 (by decide)
  have z9:=hz 9 (by decide)
  clear b1 ht hz
  go_wp2_with fail
  obtain⟨r0,r1,r2,r3,r4,r5,r6,r7,r8,r9⟩:=setF_get F1.out (.int .i64 0) (.int .i64 0) (.bool false) (.string ⟨#[]⟩) (.int .i64 0) (.int .i64 0) (.int .i64 0) (.string ⟨#[]⟩) (.int .u64 0) (.slice none 0 0)
  have hB:=setF_below B1.out w.heap.size (Nat.le_refl _) (.int .i64 0) (.int .i64 0) (.bool false) (.string ⟨#[]⟩) (.int .i64 0) (.int .i64 0) (.int .i64 0) (.string ⟨#[]⟩) (.int .u64 0) (.slice none 0 0)
  have hT:=ownR_nil (setF w1 w.heap.size (.int .i64 0) (.int .i64 0) (.bool false) (.string ⟨#[]⟩) (.int .i64 0) (.int .i64 0) (.int .i64 0) (.string ⟨#[]⟩) (.int .u64 0) (.slice none 0 0)) w.heap.size
  show bodyPost _ _ _ _ _ (setF w1 w.heap.size (.int .i64 0) (.int .i64 0) (.bool false) (.string ⟨#[]⟩) (.int .i64 0) (.int .i64 0) (.int .i64 0) (.string ⟨#[]⟩) (.int .u64 0) (.slice none 0 0))
  exact bodyPost_ret (v:=.tuple #[frAgg Frm.zero (.slice none 0 0),.bool false]) (by simp [results,Tryz.results139,go_sem,frAgg,Frm.zero,Val.zero,r0,r1,r2,r3,r4,r5,r6,r7,r8,r9]) rfl ⟨_,by rw [HQ.out]; rfl,by rw [HQ.out]; exact hT,hB⟩

theorem sum8_snoc (l:List UInt8) (x:UInt8):sum8 (l ++ [x])=sum8 l * 256+x.toNat:=by simp [sum8]

theorem or_byte (s:Nat) (x:UInt8) (h:s < 72057594037927936):bits .or .u64 ((s:Int) * 256) (x.toNat:Int)=((s * 256+x.toNat:Nat):Int):=by
 have hx:=x.toNat_lt
 rw [show ((s:Int) * 256)=((s * 256:Nat):Int) by omega,u64_or_nat _ _ (by omega) (by omega)]
 congr 1
 have:=Nat.two_pow_add_eq_or_of_lt (i:=8) (b:=x.toNat) (by omega) s
 rw [Nat.mul_comm s 256]
 exact this.symm

theorem sum8_short {l:List UInt8} (h:l.length≤7):sum8 l < 72057594037927936:=by
 have h1:=sum8_lt l 0
 have h2:256 ^ l.length≤256 ^ 7:=Nat.pow_le_pow_right (by omega) h
 unfold sum8
 omega

theorem takeDigest_any (b:List UInt8) (hb:b.length≤4294967296) (w:World):Calls Tryz.prog 136 #[.string ⟨b.toArray⟩] w (TookF (tkDigest b) w):=by
 by_cases h8:b.length < 8
 ·have HQ:Hid (tkDigest b=none):=by show _=_; unfold tkDigest; rw [if_pos h8]
  go_enter Tryz.func136,Tryz.ntmps136
  go_wp2_with fail
  refine bodyPost_ret (v:=.tuple #[frAgg Frm.zero (.slice none 0 0),.bool false]) (by simp [results,Tryz.results136,go_sem,frAgg,Frm.zero,Val.zero]) rfl ⟨_,by rw [HQ.out]; rfl,by rw [HQ.out]; exact ownR_nil _ _,?_⟩
  exact (Below.refl _ _).alloc (Nat.le_refl _) _
 ·have HQ:Hid (tkDigest b=some ⟨0,0,false,[],Val.zero,sum8 (b.take 8),[]⟩):=by show _=_; unfold tkDigest; rw [if_neg h8]
  have h8':8≤b.length:=by omega
  clear h8
  go_enter Tryz.func136,Tryz.ntmps136
  go_wp2_with fail
  go_loop [4,10] (fun s i => ∃ k:Nat,k≤8∧i=.int .i64 k∧s=.int .u64 (sum8 (b.take k))) (fun _ i => 8 - (intOf i).toNat)
  case atStart => exact⟨0,by omega,rfl,rfl⟩
  case round =>
   obtain⟨k,hk,rfl,rfl⟩:=hrel
   by_cases hlt:k < 8
   ·have hlt':k < (⟨b.toArray⟩ : ByteArray).size:=by rw [size_bytes]; omega
    obtain⟨x,hx⟩ : ∃ x:UInt8,(⟨b.toArray⟩ : ByteArray)[k]'hlt'=x:=⟨_,rfl⟩
    have hbx:b[k]?=some x:=by rw [← hx]; exact bytes_at b k hlt'
    have h256:=x.toNat_lt
    have hlen:(b.take k).length≤7:=by rw [List.length_take]; omega
    have hsm:=sum8_short hlen
    have hnx:sum8 (b.take (k+1))=sum8 (b.take k) * 256+x.toNat:=by
     rw [List.take_add_one,hbx]
     exact sum8_snoc _ _
    have HN:=hZq hnx
    obtain⟨s,hs⟩ : ∃ s,sum8 (b.take k)=s:=⟨_,rfl⟩
    rw [hs] at hsm HN ⊢
    have HOr:=hZq (or_byte s x hsm)
    clear hs hlen hnx hbx
    go_wp2_with fail
    go_round
    case rel => exact⟨k+1,by omega,by go_num,congrArg (Value.int .u64) (by rw [HOr.out,HN.out])⟩
    case measure => simp [intOf]; omega
   ·obtain rfl:k=8:=by omega
    go_wp2_with fail
    refine bodyPost_ret (v:=.tuple #[frAgg ⟨0,0,false,[],Val.zero,sum8 (b.take 8),[]⟩ (.slice none 0 0),.bool true]) (by simp [results,Tryz.results136,go_sem,frAgg,Val.zero]) rfl ⟨_,by rw [HQ.out]; rfl,by rw [HQ.out]; exact ownR_nil _ _,?_⟩
    exact (Below.refl _ _).alloc (Nat.le_refl _) _
end
section
open Go.RowKit

def tkDelta (b:List UInt8):Option Frm :=
 if b.length=0 then none
 else if (idTake b 1).2.2 ≠ 0 then none
 else if b.getD 0 0=0 then some ⟨0,0,false,(idTake b 1).1,Val.zero,0,[]⟩
 else if (vaTake b (idTake b 1).2.1).2.2 ≠ 0 then none
 else some ⟨0,0,true,(idTake b 1).1,(vaTake b (idTake b 1).2.1).1,0,[]⟩

theorem takeDelta_nil (w:World):Calls Tryz.prog 133 #[.string ⟨([]:List UInt8).toArray⟩] w (TookF (tkDelta []) w):=by
 go_enter Tryz.func133,Tryz.ntmps133
 go_wp2_with fail
 refine bodyPost_ret (v:=.tuple #[frAgg Frm.zero (.slice none 0 0),.bool false]) (by simp [results,Tryz.results133,go_sem,frAgg,Frm.zero,Val.zero]) rfl ⟨_,rfl,ownR_nil _ _,?_⟩
 exact (Below.refl _ _).alloc (Nat.le_refl _) _

theorem takeDelta_cons (x:UInt8) (b:List UInt8) (hb:(x :: b).length≤4294967296) (w:World):Calls Tryz.prog 133 #[.string ⟨(x :: b).toArray⟩] w (TookF (tkDelta (x :: b)) w):=by
 have F0:=hZq (frAt_made w (.int .i64 0) (.int .i64 0) (.bool false) (.string ⟨#[]⟩) (.int .i64 0) (.int .i64 0) (.int .i64 0) (.string ⟨#[]⟩) (.int .u64 0) (.slice none 0 0) 56)
 have B0:Hid (Below w.heap.size w (w.alloc (.cells #[.int .i64 0,.int .i64 0,.bool false,.string ⟨#[]⟩,.int .i64 0,.int .i64 0,.int .i64 0,.string ⟨#[]⟩,.int .u64 0,.slice none 0 0] 56))):=hZq ((Below.refl _ _).alloc (Nat.le_refl _) _)
 obtain⟨c,p,er,hr⟩ : ∃ c p er,idTake (x :: b) 1=(c,p,er):=⟨_,_,_,rfl⟩
 have HI:=hZq (idtake_eq (x :: b) hb 1 (hZq hr))
 have hq:tkDelta (x :: b)=if er ≠ 0 then none else if x=0 then some ⟨0,0,false,c,Val.zero,0,[]⟩ else if (vaTake (x :: b) p).2.2 ≠ 0 then none else some ⟨0,0,true,c,(vaTake (x :: b) p).1,0,[]⟩:=by
  unfold tkDelta
  rw [hr]
  simp
 have hx0:0 < (⟨(x :: b).toArray⟩ : ByteArray).size:=by rw [size_bytes]; simp
 by_cases he:er=0
 ·subst he
  by_cases hx:x=0
  ·have HQ:Hid (tkDelta (x :: b)=some ⟨0,0,false,c,Val.zero,0,[]⟩):=by show _=_; rw [hq]; simp [hx]
   subst hx
   clear hr hb hq
   go_enter Tryz.func133,Tryz.ntmps133
   go_wp2_with fail
   refine (HI.out _).mono ?_
   rintro e w1 ⟨rfl,b1⟩
   have B1:=hZq (below2' B0.out b1)
   have F1:=hZq (F0.out.later b1)
   clear b1
   obtain⟨⟨h0,h1,h2,h3,h4,h5,h6,h7,h8,h9⟩,hz⟩:=F1.out
   have z0:=hz 0 (by decide)
   have z1:=hz 1 (by decide)
   have z2:=hz 2 (by decide)
   have z3:=hz 3 (by decide)
   have z4:=hz 4 (by decide)
   have z5:=hz 5 (by decide)
   have z6:=hz 6 (by decide)
   have z7:=hz 7 (by decide)
   have z8:=hz 8 (by decide)
   have z9:=hz 9 (by decide)
   clear hz
   go_wp2_with fail
   obtain⟨r0,r1,r2,r3,r4,r5,r6,r7,r8,r9⟩:=setF_get F1.out (.int .i64 0) (.int .i64 0) (.bool false) (.string ⟨c.toArray⟩) (.int .i64 0) (.int .i64 0) (.int .i64 0) (.string ⟨#[]⟩) (.int .u64 0) (.slice none 0 0)
   have hB:=setF_below B1.out w.heap.size (Nat.le_refl _) (.int .i64 0) (.int .i64 0) (.bool false) (.string ⟨c.toArray⟩) (.int .i64 0) (.int .i64 0) (.int .i64 0) (.string ⟨#[]⟩) (.int .u64 0) (.slice none 0 0)
   show bodyPost _ _ _ _ _ (setF w1 w.heap.size (.int .i64 0) (.int .i64 0) (.bool false) (.string ⟨c.toArray⟩) (.int .i64 0) (.int .i64 0) (.int .i64 0) (.string ⟨#[]⟩) (.int .u64 0) (.slice none 0 0))
   exact bodyPost_ret (v:=.tuple #[frAgg ⟨0,0,false,c,Val.zero,0,[]⟩ (.slice none 0 0),.bool true]) (by simp [results,Tryz.results133,go_sem,frAgg,Val.zero,r0,r1,r2,r3,r4,r5,r6,r7,r8,r9]) rfl ⟨_,by rw [HQ.out]; rfl,by rw [HQ.out]; exact ownR_nil _ _,hB⟩
  ·have tx:((x.toNat:Int) == 0)=false:=by
    rw [beq_eq_false_iff_ne]
    intro h
    exact hx (UInt8.toNat_inj.1 (by simpa using h))
   have tx':(((((⟨(x :: b).toArray⟩ : ByteArray)[0]'hx0).toNat:Nat):Int) == 0)=false:=tx
   obtain⟨⟨sh,pr,si,st⟩,g,ev,hv⟩ : ∃ v g ev,vaTake (x :: b) p=(v,g,ev):=⟨_,_,_,rfl⟩
   have HW:=hZq (vatake_eq (x :: b) hb p (hZq hv))
   rw [hv] at hq
   simp only [ne_eq,not_true_eq_false,if_false,if_neg hx] at hq
   by_cases hev:ev=0
   ·subst hev
    have HQ:Hid (tkDelta (x :: b)=some ⟨0,0,true,c,⟨sh,pr,si,st⟩,0,[]⟩):=by show _=_; rw [hq]; simp
    clear hr hb hq hv hx tx
    go_enter Tryz.func133,Tryz.ntmps133
    go_wp2_with fail
    refine (HI.out _).mono ?_
    rintro e w1 ⟨rfl,b1⟩
    have B1:=hZq (below2' B0.out b1)
    have F1:=hZq (F0.out.later b1)
    clear b1
    go_wp2_with fail
    refine (HW.out _).mono ?_
    rintro e w2 ⟨rfl,b2⟩
    have b3:=bl_alloc b2 (.cells #[.int .i64 sh,.int .i64 pr,.int .i64 si,.string ⟨st.toArray⟩] 53)
    have B3:=hZq (below2' B1.out b3)
    have F3:=hZq (F1.out.later b3)
    clear b2 b3
    obtain⟨⟨h0,h1,h2,h3,h4,h5,h6,h7,h8,h9⟩,hz⟩:=F3.out
    have z0:=hz 0 (by decide)
    have z1:=hz 1 (by decide)
    have z2:=hz 2 (by decide)
    have z3:=hz 3 (by decide)
    have z4:=hz 4 (by decide)
    have z5:=hz 5 (by decide)
    have z6:=hz 6 (by decide)
    have z7:=hz 7 (by decide)
    have z8:=hz 8 (by decide)
    have z9:=hz 9 (by decide)
    clear hz
    go_wp2_with fail
    obtain⟨r0,r1,r2,r3,r4,r5,r6,r7,r8,r9⟩:=setF_get F3.out (.int .i64 0) (.int .i64 0) (.bool true) (.string ⟨c.toArray⟩) (.int .i64 sh) (.int .i64 pr) (.int .i64 si) (.string ⟨st.toArray⟩) (.int .u64 0) (.slice none 0 0)
    have hB:=setF_below B3.out w.heap.size (Nat.le_refl _) (.int .i64 0) (.int .i64 0) (.bool true) (.string ⟨c.toArray⟩) (.int .i64 sh) (.int .i64 pr) (.int .i64 si) (.string ⟨st.toArray⟩) (.int .u64 0) (.slice none 0 0)
    show bodyPost _ _ _ _ _ (setF (w2.alloc (.cells #[.int .i64 sh,.int .i64 pr,.int .i64 si,.string ⟨st.toArray⟩] 53)) w.heap.size (.int .i64 0) (.int .i64 0) (.bool true) (.string ⟨c.toArray⟩) (.int .i64 sh) (.int .i64 pr) (.int .i64 si) (.string ⟨st.toArray⟩) (.int .u64 0) (.slice none 0 0))
    exact bodyPost_ret (v:=.tuple #[frAgg ⟨0,0,true,c,⟨sh,pr,si,st⟩,0,[]⟩ (.slice none 0 0),.bool true]) (by simp [results,Tryz.results133,go_sem,frAgg,r0,r1,r2,r3,r4,r5,r6,r7,r8,r9]) rfl ⟨_,by rw [HQ.out]; rfl,by rw [HQ.out]; exact ownR_nil _ _,hB⟩
   ·have tv:((ev:Int) != 0)=true:=by rw [bne_iff_ne]; omega
    have HQ:Hid (tkDelta (x :: b)=none):=by show _=_; rw [hq]; simp [hev]
    clear hr hb hq hv hx hev tx
    go_enter Tryz.func133,Tryz.ntmps133
    go_wp2_with fail
    refine (HI.out _).mono ?_
    rintro e w1 ⟨rfl,b1⟩
    have B1:=hZq (below2' B0.out b1)
    have F1:=hZq (F0.out.later b1)
    clear b1
    go_wp2_with fail
    refine (HW.out _).mono ?_
    rintro e w2 ⟨rfl,b2⟩
    have b3:=bl_alloc b2 (.cells #[.int .i64 sh,.int .i64 pr,.int .i64 si,.string ⟨st.toArray⟩] 53)
    have B3:=hZq (below2' B1.out b3)
    have F3:=hZq (F1.out.later b3)
    clear b2 b3
    obtain⟨⟨h0,h1,h2,h3,h4,h5,h6,h7,h8,h9⟩,hz⟩:=F3.out
    have z0:=hz 0 (by decide)
    have z1:=hz 1 (by decide)
    have z2:=hz 2 (by decide)
    have z3:=hz 3 (by decide)
    have z4:=hz 4 (by decide)
    have z5:=hz 5 (by decide)
    have z6:=hz 6 (by decide)
    have z7:=hz 7 (by decide)
    have z8:=hz 8 (by decide)
    have z9:=hz 9 (by decide)
    clear hz
    go_wp2_with fail
    obtain⟨r0,r1,r2,r3,r4,r5,r6,r7,r8,r9⟩:=setF_get F3.out (.int .i64 0) (.int .i64 0) (.bool false) (.string ⟨#[]⟩) (.int .i64 0) (.int .i64 0) (.int .i64 0) (.string ⟨#[]⟩) (.int .u64 0) (.slice none 0 0)
    have hB:=setF_below B3.out w.heap.size (Nat.le_refl _) (.int .i64 0) (.int .i64 0) (.bool false) (.string ⟨#[]⟩) (.int .i64 0) (.int .i64 0) (.int .i64 0) (.string ⟨#[]⟩) (.int .u64 0) (.slice none 0 0)
    show bodyPost _ _ _ _ _ (setF (w2.alloc (.cells #[.int .i64 sh,.int .i64 pr,.int .i64 si,.string ⟨st.toArray⟩] 53)) w.heap.size (.int .i64 0) (.int .i64 0) (.bool false) (.string ⟨#[]⟩) (.int .i64 0) (.int .i64 0) (.int .i64 0) (.string ⟨#[]⟩) (.int .u64 0) (.slice none 0 0))
    exact bodyPost_ret (v:=.tuple #[frAgg Frm.zero (.slice none 0 0),.bool false]) (by simp [results,Tryz.results133,go_sem,frAgg,Frm.zero,Val.zero,r0,r1,r2,r3,r4,r5,r6,r7,r8,r9]) rfl ⟨_,by rw [HQ.out]; rfl,by rw [HQ.out]; exact ownR_nil _ _,hB⟩
 ·have t1:((er:Int) != 0)=true:=by rw [bne_iff_ne]; omega
  have HQ:Hid (tkDelta (x :: b)=none):=by show _=_; rw [hq]; simp [he]
  clear hr hb hq he
  go_enter Tryz.func133,Tryz.ntmps133
  go_wp2_with fail
  refine (HI.out _).mono ?_
  rintro e w1 ⟨rfl,b1⟩
  have B1:=hZq (below2' B0.out b1)
  have F1:=hZq (F0.out.later b1)
  clear b1
  obtain⟨⟨h0,h1,h2,h3,h4,h5,h6,h7,h8,h9⟩,hz⟩:=F1.out
  have z0:=hz 0 (by decide)
  have z1:=hz 1 (by decide)
  have z2:=hz 2 (by decide)
  have z3:=hz 3 (by decide)
  have z4:=hz 4 (by decide)
  have z5:=hz 5 (by decide)
  have z6:=hz 6 (by decide)
  have z7:=hz 7 (by decide)
  have z8:=hz 8 (by decide)
  have z9:=hz 9 (by decide)
  clear hz
  go_wp2_with fail
  obtain⟨r0,r1,r2,r3,r4,r5,r6,r7,r8,r9⟩:=setF_get F1.out (.int .i64 0) (.int .i64 0) (.bool false) (.string ⟨#[]⟩) (.int .i64 0) (.int .i64 0) (.int .i64 0) (.string ⟨#[]⟩) (.int .u64 0) (.slice none 0 0)
  have hB:=setF_below B1.out w.heap.size (Nat.le_refl _) (.int .i64 0) (.int .i64 0) (.bool false) (.string ⟨#[]⟩) (.int .i64 0) (.int .i64 0) (.int .i64 0) (.string ⟨#[]⟩) (.int .u64 0) (.slice none 0 0)
  show bodyPost _ _ _ _ _ (setF w1 w.heap.size (.int .i64 0) (.int .i64 0) (.bool false) (.string ⟨#[]⟩) (.int .i64 0) (.int .i64 0) (.int .i64 0) (.string ⟨#[]⟩) (.int .u64 0) (.slice none 0 0))
  exact bodyPost_ret (v:=.tuple #[frAgg Frm.zero (.slice none 0 0),.bool false]) (by simp [results,Tryz.results133,go_sem,frAgg,Frm.zero,Val.zero,r0,r1,r2,r3,r4,r5,r6,r7,r8,r9]) rfl ⟨_,by rw [HQ.out]; rfl,by rw [HQ.out]; exact ownR_nil _ _,hB⟩

theorem takeDelta_any (b:List UInt8) (hb:b.length≤4294967296) (w:World):Calls Tryz.prog 133 #[.string ⟨b.toArray⟩] w (TookF (tkDelta b) w):=by
 cases b with
 | nil => exact takeDelta_nil w
 | cons x b => exact takeDelta_cons x b hb w
end
section
open Go.RowKit

def tkBody (k:Nat) (b:List UInt8):Option Frm :=
 if k=1 then tkDelta b else if k=2 then tkDigest b else if k=3 then tkSnapshot b else tkResync b

def tkAll (l:List UInt8):Option Frm × Int × Int :=
 match l with
 | [] => (none,0,0)
 | x :: r => if x.toNat < 1∨4 < x.toNat then (none,0,0) else if (vget (x :: r) 1).2.2 ≠ 0 then (none,0,0) else (tkBody x.toNat ((x :: r).drop (vget (x :: r) 1).2.1),x.toNat,IntKind.i64.wrap ((vget (x :: r) 1).1:Int))

def TookA (r:Option Frm × Int × Int) (w:World) (e:Ending) (w':World):Prop :=
 ∃ v,e=.returned (.tuple #[frAgg ⟨r.2.1,r.2.2,(r.1.getD Frm.zero).on,(r.1.getD Frm.zero).c,(r.1.getD Frm.zero).v,(r.1.getD Frm.zero).sum,(r.1.getD Frm.zero).t⟩ v,.bool r.1.isSome])∧OwnR w' w.heap.size v (r.1.getD Frm.zero).t∧Below w.heap.size w w'

theorem take_nil (w:World):Calls Tryz.prog 78 #[.string ⟨([]:List UInt8).toArray⟩] w (TookA (tkAll []) w):=by
 go_enter Tryz.func78,Tryz.ntmps78
 go_wp2_with fail
 refine bodyPost_ret (v:=.tuple #[frAgg Frm.zero (.slice none 0 0),.bool false]) (by simp [results,Tryz.results78,go_sem,frAgg,Frm.zero,Val.zero]) rfl ⟨_,rfl,ownR_nil _ _,?_⟩
 exact (Below.refl _ _).alloc (Nat.le_refl _) _

theorem take_kind (x:UInt8) (b:List UInt8) (hk:x.toNat < 1∨4 < x.toNat) (w:World):Calls Tryz.prog 78 #[.string ⟨(x :: b).toArray⟩] w (TookA (tkAll (x :: b)) w):=by
 have HQ:Hid (tkAll (x :: b)=(none,0,0)):=by show _=_; unfold tkAll; simp only; rw [if_pos hk]
 have hx0:0 < (⟨(x :: b).toArray⟩ : ByteArray).size:=by rw [size_bytes]; simp
 have hi:=fun w => isKind_any (((⟨(x :: b).toArray⟩ : ByteArray)[0]'hx0).toNat:Int) w
 rw [show (decide ((1:Int)≤(((⟨(x :: b).toArray⟩ : ByteArray)[0]'hx0).toNat:Int)) && decide ((((⟨(x :: b).toArray⟩ : ByteArray)[0]'hx0).toNat:Int)≤4))=false by
  show (decide ((1:Int)≤(x.toNat:Int)) && decide ((x.toNat:Int)≤4))=false
  simp; omega] at hi
 have HI:=hZq hi
 have h256:((⟨(x :: b).toArray⟩ : ByteArray)[0]'hx0).toNat < 256:=UInt8.toNat_lt _
 clear hi hk
 go_enter Tryz.func78,Tryz.ntmps78
 go_wp2_with fail
 refine (HI.out _).mono ?_
 rintro e w1 ⟨rfl,rfl⟩
 go_wp2_with fail
 refine bodyPost_ret (v:=.tuple #[frAgg Frm.zero (.slice none 0 0),.bool false]) (by simp [results,Tryz.results78,go_sem,frAgg,Frm.zero,Val.zero]) rfl ⟨_,by rw [HQ.out]; rfl,by rw [HQ.out]; exact ownR_nil _ _,?_⟩
 exact (Below.refl _ _).alloc (Nat.le_refl _) _

theorem take_get (x:UInt8) (b:List UInt8) (hb:(x :: b).length≤4294967296) (hk:¬ (x.toNat < 1∨4 < x.toNat)) {n f er:Nat} (hg:vget (x :: b) 1=(n,f,er)) (he:er ≠ 0) (w:World):Calls Tryz.prog 78 #[.string ⟨(x :: b).toArray⟩] w (TookA (tkAll (x :: b)) w):=by
 have HQ:Hid (tkAll (x :: b)=(none,0,0)):=by show _=_; unfold tkAll; simp only; rw [if_neg hk,hg]; simp [he]
 have hx0:0 < (⟨(x :: b).toArray⟩ : ByteArray).size:=by rw [size_bytes]; simp
 have hi:=fun w => isKind_any (((⟨(x :: b).toArray⟩ : ByteArray)[0]'hx0).toNat:Int) w
 rw [show (decide ((1:Int)≤(((⟨(x :: b).toArray⟩ : ByteArray)[0]'hx0).toNat:Int)) && decide ((((⟨(x :: b).toArray⟩ : ByteArray)[0]'hx0).toNat:Int)≤4))=true by
  show (decide ((1:Int)≤(x.toNat:Int)) && decide ((x.toNat:Int)≤4))=true
  simp; omega] at hi
 have HI:=hZq hi
 have h256:((⟨(x :: b).toArray⟩ : ByteArray)[0]'hx0).toNat < 256:=UInt8.toNat_lt _
 have HG:=hZq fun w => get_eq (x :: b) hb 1 w (hZq hg)
 have t1:((er:Int) != 0)=true:=by rw [bne_iff_ne]; omega
 clear hi hk hg he
 go_enter Tryz.func78,Tryz.ntmps78
 go_wp2_with fail
 refine (HI.out _).mono ?_
 rintro e w1 ⟨rfl,rfl⟩
 go_wp2_with fail
 refine (HG.out _).mono ?_
 rintro e w1 ⟨rfl,rfl⟩
 go_wp2_with fail
 refine bodyPost_ret (v:=.tuple #[frAgg Frm.zero (.slice none 0 0),.bool false]) (by simp [results,Tryz.results78,go_sem,frAgg,Frm.zero,Val.zero]) rfl ⟨_,by rw [HQ.out]; rfl,by rw [HQ.out]; exact ownR_nil _ _,?_⟩
 exact (Below.refl _ _).alloc (Nat.le_refl _) _
end
end Go.Proofs.YtmpigdokghngiaaGreat
