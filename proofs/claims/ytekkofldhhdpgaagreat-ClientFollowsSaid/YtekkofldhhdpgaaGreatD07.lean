/-
 TEXTS OF THE PROOF, one behind the other: ValRtake, DigMay, DigRmay, ShelfW, DigPut, DigRput, DigSum.
-/
import Derived.Test.YtekkofldhhdpgaaGreatD06
import Derived.Test.YtekkofldhhdpgaaGreatD02
import Derived.Test.YtekkofldhhdpgaaGreatD03
import Derived.Lib.QuietBelow

set_option maxHeartbeats 12800000
set_option maxRecDepth 100000

section

namespace Go.Proofs.YtekkofldhhdpgaaGreat
open Go.RowKit

end Go.Proofs.YtekkofldhhdpgaaGreat

end

section

namespace Go.Proofs.YtekkofldhhdpgaaGreat
open Go.RowKit

def Box5 (w:World) (b:Nat) (r:Row):Prop :=
 w.cell? ⟨b,0,none⟩=some (.string ⟨r.c.toArray⟩)∧w.cell? ⟨b,1,none⟩=some (.int .i64 r.v.sh)∧w.cell? ⟨b,2,none⟩=some (.int .i64 r.v.pr) ∧
  w.cell? ⟨b,3,none⟩=some (.int .i64 r.v.si)∧w.cell? ⟨b,4,none⟩=some (.string ⟨r.v.st.toArray⟩)

theorem Box5.later {w w':World} {b:Nat} {r:Row} (h:Box5 w b r) (hb:Below w.heap.size w w'):Box5 w' b r:=by
 obtain⟨h0,h1,h2,h3,h4⟩:=h
 exact⟨cell_later h0 hb,cell_later h1 hb,cell_later h2 hb,cell_later h3 hb,cell_later h4 hb⟩

theorem Box5.lt {w:World} {b:Nat} {r:Row} (h:Box5 w b r):b < w.heap.size:=World.block_lt_of_cell? w _ h.1

theorem box5 {wr w1:World} {c st:List UInt8} {x y z:Int} {ty:TypeId} (hb:Below (wr.alloc (.cells #[.string ⟨c.toArray⟩,.int .i64 x,.int .i64 y,.int .i64 z,.string ⟨st.toArray⟩] ty)).heap.size (wr.alloc (.cells #[.string ⟨c.toArray⟩,.int .i64 x,.int .i64 y,.int .i64 z,.string ⟨st.toArray⟩] ty)) w1) :
  Box5 w1 wr.heap.size ⟨c,x,y,z,st⟩∧Below wr.heap.size wr w1 :=
 ⟨⟨cell_later (a:=⟨wr.heap.size,0,none⟩) (by simp) hb,cell_later (a:=⟨wr.heap.size,1,none⟩) (by simp) hb,cell_later (a:=⟨wr.heap.size,2,none⟩) (by simp) hb,
  cell_later (a:=⟨wr.heap.size,3,none⟩) (by simp) hb,cell_later (a:=⟨wr.heap.size,4,none⟩) (by simp) hb⟩,below2' ((Below.refl _ _).alloc (Nat.le_refl _) _) hb⟩

theorem regrown_belowD {w w':World} (h:∃ p:Regrown,w'=Sort.grow (redrawn w p.d) p.os):Below w.heap.size w w':=by
 obtain⟨p,rfl⟩:=h
 exact below_regrown _ _ _

theorem diMay_on {t:List Row} (h1:¬ 32 < t.length) (h2:(List.range t.length).all (rowAt t)=true):diMay t=true:=by
 unfold diMay
 rw [h2]
 simp
 omega

theorem diMay_off {t:List Row} {k:Nat} (hk:k < t.length) (h:rowAt t k=false):diMay t=false:=by
 unfold diMay
 rw [range_all_no hk h]
 simp

theorem rowAt_is {t:List Row} {k:Nat} {c st:List UInt8} {x y z:Int} (h:t.getD k Row.zero=⟨c,x,y,z,st⟩) (hi:idIs c=false):rowAt t k=false:=by
 unfold rowAt rowOk
 rw [h]
 simp [hi]

theorem rowAt_may {t:List Row} {k:Nat} {c st:List UInt8} {x y z:Int} (h:t.getD k Row.zero=⟨c,x,y,z,st⟩) (hm:vaMay ⟨x,y,z,st⟩=false):rowAt t k=false:=by
 unfold rowAt rowOk
 rw [h]
 simp [hm]

theorem rowAt_first {t:List Row} {c st:List UInt8} {x y z:Int} (h:t.getD 0 Row.zero=⟨c,x,y,z,st⟩) (hi:idIs c=true) (hm:vaMay ⟨x,y,z,st⟩=true):rowAt t 0=true:=by
 unfold rowAt rowOk
 rw [h]
 simp [hi,hm]

theorem rowAt_next {t:List Row} {j:Nat} {c st:List UInt8} {x y z:Int} (h:t.getD (j+1) Row.zero=⟨c,x,y,z,st⟩) (hi:idIs c=true) (hm:vaMay ⟨x,y,z,st⟩=true):rowAt t (j+1)=idLess (t.getD j Row.zero).c c:=by
 unfold rowAt rowOk
 rw [h]
 simp [hi,hm]

theorem dimay_any {w:World} {v:Value} {t:List Row} (hv:Tab w v t) (hs:Short t) :
  Calls Tryz.prog 62 #[v] w fun e w' => e=.returned (.bool (diMay t))∧Below w.heap.size w w':=by
 have HV:=hZq hv
 have HS:=hZq hs
 obtain⟨a,cap,rfl,hm⟩:=hv.open'
 clear hv hs
 by_cases h:32 < t.length
 ·have HR:=hZq (diMay_long h)
  go_enter Tryz.func62,Tryz.ntmps62
  go_wp2_with fail
  go_ret
  exact⟨by rw [HR.out]; rfl,Below.refl _ _⟩
 ·go_enter Tryz.func62,Tryz.ntmps62
  go_wp2_with fail
  go_loopw [10] (fun i wr => ∃ k:Nat,k≤t.length∧i=.int .i64 k∧Hid (Below w.heap.size w wr)∧Hid ((List.range k).all (rowAt t)=true)) (fun i _ => t.length - (intOf i).toNat)
  case atStart => exact⟨0,by omega,rfl,Below.refl _ _,by show _=_; simp⟩
  case round =>
   obtain⟨k,hk,rfl,HN,HA⟩:=hrel
   by_cases hlt:k < t.length
   ·obtain⟨b,off,rfl,h0,h1,h2,h3,h4⟩:=HV.out.row HN.out k hlt
    obtain⟨hl1,hl2⟩:=HS.out.get hlt
    obtain⟨⟨c,⟨x,y,z,st⟩⟩,hr⟩ : ∃ r,t.getD k Row.zero=r:=⟨_,rfl⟩
    rw [hr] at h0 h1 h2 h3 h4 hl1 hl2
    have HRr:=hZq hr
    simp only at h0 h1 h2 h3 h4 hl1 hl2
    clear hr
    cases hi:idIs c with
    | false =>
     have HR:Hid (diMay t=false):=diMay_off hlt (rowAt_is HRr.out hi)
     have HI:=hZq hi
     clear hi
     go_wp2_with fail
     refine (is_eq c hl1 HI _).mono ?_
     rintro e w1 ⟨rfl,hb1⟩
     have B1:=hZq (below2' HN.out (box5 hb1).2)
     clear hb1
     go_wp2_with fail
     go_ret
     exact⟨by rw [HR.out]; rfl,B1.out⟩
    | true =>
     have HI:=hZq hi
     clear hi
     go_wp2_with fail
     refine (is_eq c hl1 HI _).mono ?_
     rintro e w1 ⟨rfl,hb1⟩
     have B1:=hZq (below2' HN.out (box5 hb1).2)
     have K1:=hZq (box5 hb1).1
     obtain⟨k0,k1,k2,k3,k4⟩:=K1.out
     clear hb1 h0 h1 h2 h3 h4
     cases hm2:vaMay ⟨x,y,z,st⟩ with
     | false =>
      have HR:Hid (diMay t=false):=diMay_off hlt (rowAt_may HRr.out hm2)
      have HM:=hZq hm2
      clear hm2
      go_wp2_with fail
      refine (may_eq x y z st hl2 HM _).mono ?_
      rintro e w2 ⟨rfl,hb2⟩
      have B2:=hZq (below2' B1.out hb2)
      clear hb2 k0 k1 k2 k3 k4
      go_wp2_with fail
      go_ret
      exact⟨by rw [HR.out]; rfl,B2.out⟩
     | true =>
      have HM:=hZq hm2
      clear hm2
      go_wp2_with fail
      refine (may_eq x y z st hl2 HM _).mono ?_
      rintro e w2 ⟨rfl,hb2⟩
      have B2:=hZq (below2' B1.out hb2)
      have K2:=hZq (K1.out.later hb2)
      clear hb2 k0 k1 k2 k3 k4 B1 K1
      rcases Nat.eq_zero_or_pos k with rfl | hpos
      ·have HA2:Hid ((List.range 1).all (rowAt t)=true):=by show _=_; exact range_all_succ HA.out (rowAt_first HRr.out HI.out HM.out)
       go_wp2_with fail
       refine wp_region_quiet_below (by kernel_rfl) (by kernel_rfl) ?_
       repeat (go_big_quiet_step (fail))
       refine wpQuiet_nil ?_
       intro w5 hw5
       have hb5:=regrown_belowD hw5
       have HN5:=hZq (below2' B2.out hb5)
       clear hw5 hb5
       go_wp2_with fail
       go_roundw
       case rel => exact⟨1,by omega,by go_num,HN5,HA2⟩
       case measure => simp [intOf]; omega
      ·obtain⟨j,rfl⟩ : ∃ j,k=j+1:=⟨k - 1,by omega⟩
       obtain⟨b2,o2,e2,i0,_,_,_,_⟩:=HV.out.row B2.out j (by omega)
       injection e2 with e2
       injection e2 with e3 e4 _
       subst e3 e4
       have HX:=rowAt_next HRr.out HI.out HM.out
       obtain⟨yy,hy⟩ : ∃ yy,(t.getD j Row.zero).c=yy:=⟨_,rfl⟩
       rw [hy] at i0 HX
       clear hy
       have g1:=cell_regrown i0
       have g2:=cell_regrown K2.out.1
       cases hle:idLess yy c with
       | false =>
        have HR:Hid (diMay t=false):=diMay_off hlt (HX.trans hle)
        have HLe:=hZq (less_eq yy c (r:=false) (hZq hle))
        clear hle HX i0 hpos
        go_wp2_with fail
        refine wp_region_quiet_below (by kernel_rfl) (by kernel_rfl) ?_
        repeat (go_big_quiet_step (with_reducible exact rgB HLe.out _ _ _))
        refine wpQuiet_nil ?_
        intro w5 hw5
        have hb5:=regrown_belowD hw5
        have HN5:=hZq (below2' B2.out hb5)
        clear hw5 hb5 g1 g2
        go_wp2_with fail
        go_ret
        exact⟨by rw [HR.out]; rfl,HN5.out⟩
       | true =>
        have HA2:Hid ((List.range (j+1+1)).all (rowAt t)=true):=by show _=_; exact range_all_succ HA.out (HX.trans hle)
        have HLe:=hZq (less_eq yy c (r:=true) (hZq hle))
        clear hle HX i0 hpos
        go_wp2_with fail
        refine wp_region_quiet_below (by kernel_rfl) (by kernel_rfl) ?_
        repeat (go_big_quiet_step (with_reducible exact rgB HLe.out _ _ _))
        refine wpQuiet_nil ?_
        intro w5 hw5
        have hb5:=regrown_belowD hw5
        have HN5:=hZq (below2' B2.out hb5)
        clear hw5 hb5 g1 g2
        go_wp2_with fail
        go_roundw
        case rel => exact⟨j+1+1,by omega,by go_num,HN5,HA2⟩
        case measure => simp [intOf]; omega
   ·obtain rfl:k=t.length:=by omega
    have HR:Hid (diMay t=true):=by show _=_; exact diMay_on h HA.out
    go_wp2_with fail
    go_ret
    exact⟨by rw [HR.out]; rfl,HN.out⟩

theorem dimay_eq {w:World} {v:Value} {t:List Row} (hv:Tab w v t) (hs:Short t) {r:Bool} (h:Hid (diMay t=r)) :
  Calls Tryz.prog 62 #[v] w fun e w' => e=.returned (.bool r)∧Below w.heap.size w w':=by
 have:=dimay_any hv hs
 rwa [h.out] at this

end Go.Proofs.YtekkofldhhdpgaaGreat

end

section

namespace Go.Proofs.YtekkofldhhdpgaaGreat
open Go.RowKit

theorem rdimay_any {w:World} {v:Value} {t:List Row} (hv:Tab w v t) (hs:Short t) :
  Calls Tryz.prog 31 #[v] w fun e w' => e=.returned (.bool (diMay t))∧Below w.heap.size w w':=by
 have HV:=hZq hv
 have HS:=hZq hs
 obtain⟨a,cap,rfl,hm⟩:=hv.open'
 clear hv hs
 by_cases h:32 < t.length
 ·have HR:=hZq (diMay_long h)
  go_enter Tryz.func31,Tryz.ntmps31
  go_wp2_with fail
  go_ret
  exact⟨by rw [HR.out]; rfl,Below.refl _ _⟩
 ·go_enter Tryz.func31,Tryz.ntmps31
  go_wp2_with fail
  go_loopw [3] (fun i wr => ∃ k:Nat,k≤t.length∧i=.int .i64 k∧Hid (Below w.heap.size w wr)∧Hid ((List.range k).all (rowAt t)=true)) (fun i _ => t.length - (intOf i).toNat)
  case atStart => exact⟨0,by omega,rfl,Below.refl _ _,by show _=_; simp⟩
  case round =>
   obtain⟨k,hk,rfl,HN,HA⟩:=hrel
   by_cases hlt:k < t.length
   ·obtain⟨b,off,rfl,h0,h1,h2,h3,h4⟩:=HV.out.row HN.out k hlt
    obtain⟨hl1,hl2⟩:=HS.out.get hlt
    obtain⟨⟨c,⟨x,y,z,st⟩⟩,hr⟩ : ∃ r,t.getD k Row.zero=r:=⟨_,rfl⟩
    rw [hr] at h0 h1 h2 h3 h4 hl1 hl2
    have HRr:=hZq hr
    simp only at h0 h1 h2 h3 h4 hl1 hl2
    have g0:=cell_regrown h0
    have g1:=cell_regrown h1
    have g2:=cell_regrown h2
    have g3:=cell_regrown h3
    have g4:=cell_regrown h4
    clear hr h0 h1 h2 h3 h4
    cases hi:idIs c with
    | false =>
     have HR:Hid (diMay t=false):=diMay_off hlt (rowAt_is HRr.out hi)
     have HI:=hZq (ris_eq c hl1 (r:=false) (hZq hi))
     clear hi
     go_wp2_with fail
     refine wp_region_quiet_below (by kernel_rfl) (by kernel_rfl) ?_
     repeat (go_big_quiet_step (with_reducible exact rgS HI.out _ _ _))
     refine wpQuiet_nil ?_
     intro w5 hw5
     have hb5:=regrown_belowD hw5
     have HN5:=hZq (below2' HN.out hb5)
     clear hw5 hb5 g0 g1 g2 g3 g4
     go_wp2_with fail
     go_ret
     exact⟨by rw [HR.out]; rfl,HN5.out⟩
    | true =>
     have HI:=hZq (ris_eq c hl1 (r:=true) (hZq hi))
     cases hm2:vaMay ⟨x,y,z,st⟩ with
     | false =>
      have HR:Hid (diMay t=false):=diMay_off hlt (rowAt_may HRr.out hm2)
      have HM:=hZq (rmay_eq x y z st hl2 (r:=false) (hZq hm2))
      clear hi hm2
      go_wp2_with fail
      refine wp_region_quiet_below (by kernel_rfl) (by kernel_rfl) ?_
      repeat (go_big_quiet_step (first | with_reducible exact rgS HI.out _ _ _ | with_reducible exact rgB HM.out _ _ _))
      refine wpQuiet_nil ?_
      intro w5 hw5
      have hb5:=regrown_belowD hw5
      have HN5:=hZq (below2' HN.out hb5)
      clear hw5 hb5 g0 g1 g2 g3 g4
      go_wp2_with fail
      go_ret
      exact⟨by rw [HR.out]; rfl,HN5.out⟩
     | true =>
      have HM:=hZq (rmay_eq x y z st hl2 (r:=true) (hZq hm2))
      rcases Nat.eq_zero_or_pos k with rfl | hpos
      ·have HA2:Hid ((List.range 1).all (rowAt t)=true):=by show _=_; exact range_all_succ HA.out (rowAt_first HRr.out hi hm2)
       clear hi hm2
       simp only [Nat.zero_mul,Nat.add_zero] at g0 g1 g2 g3 g4
       go_wp2_with fail
       refine wp_region_quiet_below (by kernel_rfl) (by kernel_rfl) ?_
       repeat (go_big_quiet_step (first | with_reducible exact rgS HI.out _ _ _ | with_reducible exact rgB HM.out _ _ _))
       refine wpQuiet_nil ?_
       intro w5 hw5
       have hb5:=regrown_belowD hw5
       have HN5:=hZq (below2' HN.out hb5)
       clear hw5 hb5 g0 g1 g2 g3 g4
       go_wp2_with fail
       go_roundw
       case rel => exact⟨1,by omega,by go_num,HN5,HA2⟩
       case measure => simp [intOf]; omega
      ·obtain⟨j,rfl⟩ : ∃ j,k=j+1:=⟨k - 1,by omega⟩
       obtain⟨b2,o2,e2,i0,_,_,_,_⟩:=HV.out.row HN.out j (by omega)
       injection e2 with e2
       injection e2 with e3 e4 _
       subst e3 e4
       have HX:=rowAt_next HRr.out hi hm2
       obtain⟨yy,hy⟩ : ∃ yy,(t.getD j Row.zero).c=yy:=⟨_,rfl⟩
       rw [hy] at i0 HX
       have g5:=cell_regrown i0
       clear hy i0 hi hm2
       cases hle:idLess yy c with
       | false =>
        have HR:Hid (diMay t=false):=diMay_off hlt (HX.trans hle)
        have HLe:=hZq (rless_eq yy c (r:=false) (hZq hle))
        clear hle HX hpos
        go_wp2_with fail
        refine wp_region_quiet_below (by kernel_rfl) (by kernel_rfl) ?_
        repeat (go_big_quiet_step (first | with_reducible exact rgS HI.out _ _ _ | with_reducible exact rgB HM.out _ _ _ | with_reducible exact rgS HLe.out _ _ _))
        refine wpQuiet_nil ?_
        intro w5 hw5
        have hb5:=regrown_belowD hw5
        have HN5:=hZq (below2' HN.out hb5)
        clear hw5 hb5 g0 g1 g2 g3 g4 g5
        go_wp2_with fail
        go_ret
        exact⟨by rw [HR.out]; rfl,HN5.out⟩
       | true =>
        have HA2:Hid ((List.range (j+1+1)).all (rowAt t)=true):=by show _=_; exact range_all_succ HA.out (HX.trans hle)
        have HLe:=hZq (rless_eq yy c (r:=true) (hZq hle))
        clear hle HX hpos
        go_wp2_with fail
        refine wp_region_quiet_below (by kernel_rfl) (by kernel_rfl) ?_
        repeat (go_big_quiet_step (first | with_reducible exact rgS HI.out _ _ _ | with_reducible exact rgB HM.out _ _ _ | with_reducible exact rgS HLe.out _ _ _))
        refine wpQuiet_nil ?_
        intro w5 hw5
        have hb5:=regrown_belowD hw5
        have HN5:=hZq (below2' HN.out hb5)
        clear hw5 hb5 g0 g1 g2 g3 g4 g5
        go_wp2_with fail
        go_roundw
        case rel => exact⟨j+1+1,by omega,by go_num,HN5,HA2⟩
        case measure => simp [intOf]; omega
   ·obtain rfl:k=t.length:=by omega
    have HR:Hid (diMay t=true):=by show _=_; exact diMay_on h HA.out
    go_wp2_with fail
    go_ret
    exact⟨by rw [HR.out]; rfl,HN.out⟩

theorem rdimay_eq {w:World} {v:Value} {t:List Row} (hv:Tab w v t) (hs:Short t) {r:Bool} (h:Hid (diMay t=r)) :
  Calls Tryz.prog 31 #[v] w fun e w' => e=.returned (.bool r)∧Below w.heap.size w w':=by
 have:=rdimay_any hv hs
 rwa [h.out] at this

end Go.Proofs.YtekkofldhhdpgaaGreat

end

section

namespace Go.Proofs.YtekkofldhhdpgaaGreat
open Go.Shelf Go.RowKit

def Tryz.lays166_ren:Go.Shelf.Ren:=⟨fun | 166 => 185 | 240 => 195 | 276 => 201 | n => n,fun | 0 => 0 | 3 => 3 | 4 => 4 | 5 => 5 | 9 => 9 | 20 => 20 | 37 => 150 | 70 => 187 | 72 => 189 | 75 => 191 | 80 => 194 | 164 => 206 | n => n,fun | n => n⟩

theorem Tryz.lays166:Go.Proofs.Lays.n166 Tryz.prog Tryz.lays166_ren:={
 mixed:=by kernel_rfl
 f166:=Tryz.func185.trans (congrArg some (by kernel_rfl))
 f240:=Tryz.func195.trans (congrArg some (by kernel_rfl))
 f276:=Tryz.func201.trans (congrArg some (by kernel_rfl))
 t0:=Tryz.underlying0
 a0:=Tryz.isAgg0
 z0:=Tryz.sizeOf0
 v0:=Tryz.zeroValue0
 t3:=Tryz.underlying3
 a3:=Tryz.isAgg3
 z3:=Tryz.sizeOf3
 v3:=Tryz.zeroValue3
 t4:=Tryz.underlying4
 a4:=Tryz.isAgg4
 z4:=Tryz.sizeOf4
 v4:=Tryz.zeroValue4
 t9:=Tryz.underlying9
 a9:=Tryz.isAgg9
 z9:=Tryz.sizeOf9
 v9:=Tryz.zeroValue9
 t20:=Tryz.underlying20
 a20:=Tryz.isAgg20
 z20:=Tryz.sizeOf20
 v20:=Tryz.zeroValue20
 t37:=Tryz.underlying150
 a37:=Tryz.isAgg150
 z37:=Tryz.sizeOf150
 v37:=Tryz.zeroValue150
 t70:=Tryz.underlying187
 a70:=Tryz.isAgg187
 z70:=Tryz.sizeOf187
 v70:=Tryz.zeroValue187
 t72:=Tryz.underlying189
 a72:=Tryz.isAgg189
 z72:=Tryz.sizeOf189
 v72:=Tryz.zeroValue189
 t75:=Tryz.underlying191
 a75:=Tryz.isAgg191
 z75:=Tryz.sizeOf191
 v75:=Tryz.zeroValue191
 t164:=Tryz.underlying206
 a164:=Tryz.isAgg206
 z164:=Tryz.sizeOf206
 v164:=Tryz.zeroValue206 }

theorem Tryz.Builder_Extra_166:Builder.Extra Tryz.prog Tryz.lays166_ren:={
 sizeBuilder:=by kernel_rfl
 liesBuilder:=by kernel_rfl
 t5:=Tryz.underlying5
 a5:=Tryz.isAgg5
 z5:=Tryz.sizeOf5
 v5:=Tryz.zeroValue5
 infoByte:=by kernel_rfl
 cellsByte:=by kernel_rfl
 sizeByte:=by kernel_rfl
 neB5:=by decide }

theorem Tryz.Builder_WriteString_k (B b:Nat) (bs:List Value) (s:ByteArray) (w:World) (h:Lib.IsBuilderF 189 5 B b bs w) (hlen:bs.length+s.size≤140737488355328) (hBw:B≤w.heap.size) :
  Calls Tryz.prog 185 #[.pointer (some ⟨b,0,none⟩),.string s] w fun e w' => e=.returned (.tuple #[.int .i64 s.size,.nilIface])∧(Lib.BuilderAtF 189 5 B b (.pointer (some ⟨b,0,none⟩)) (bs ++ Lib.strCells s) w'∧Below B w w'∧Lib.OthersKept 5 (some b) w w'):=Any.Builder_WriteString_k Tryz.lays166 Tryz.Builder_Extra_166 B b bs s w h hlen hBw

end Go.Proofs.YtekkofldhhdpgaaGreat

end

section

namespace Go.Proofs.YtekkofldhhdpgaaGreat
open Go.RowKit Go.Lib
attribute [local go_sem] ByteArray.mk_append_mk

theorem diPut_yes {t:List Row} (h:diMay t=true):diPut t=(diBytes t,true):=by unfold diPut; rw [if_pos h]
theorem diPut_no {t:List Row} (h:diMay t=false):diPut t=([],false):=by unfold diPut; rw [if_neg (by rw [h]; decide)]

theorem rowOk_at {t:List Row} {k:Nat} {c st:List UInt8} {x y z:Int} (h:∀ r ∈ t,rowOk r=true) (hk:k < t.length) (hr:t.getD k Row.zero=⟨c,x,y,z,st⟩):idIs c=true∧vaMay ⟨x,y,z,st⟩=true:=by
 have hm:t.getD k Row.zero ∈ t:=by rw [← row_get hk]; exact List.getElem_mem hk
 have:=rowOk_parts (h _ hm)
 rw [hr] at this
 exact this

theorem idPut_is {c:List UInt8} (h:idIs c=true):idPut c=(vput c.length ++ c,true):=by unfold idPut; rw [if_pos h]
theorem vaPut_is {v:Val} (h:vaMay v=true):vaPut v=vaBytes v:=by unfold vaPut; rw [if_pos h]

theorem rowsBytes_next {t:List Row} {k:Nat} {c st:List UInt8} {x y z:Int} (hk:k < t.length) (hr:t.getD k Row.zero=⟨c,x,y,z,st⟩) :
  rowsBytes (t.take (k+1))=rowsBytes (t.take k) ++ ((vput c.length ++ c) ++ vaBytes ⟨x,y,z,st⟩):=by
 rw [rowsBytes_succ hk,hr]
 rfl

theorem acc_len {t:List Row} (h:∀ r ∈ t,rowOk r=true) (hl:t.length≤32) (k:Nat):(vput t.length ++ rowsBytes (t.take k)).length≤1994:=by
 have h1:=rowsBytes_len (t:=t.take k) (fun r hr => h r (List.mem_of_mem_take hr))
 have h2:=vput_len_le t.length
 have h3:(t.take k).length≤t.length:=by rw [List.length_take]; omega
 rw [List.length_append]
 omega

theorem diput_no {w:World} {v:Value} {t:List Row} (hv:Tab w v t) (hs:Short t) (hm:Hid (diMay t=false)) :
  Calls Tryz.prog 167 #[v] w fun e w' => e=.returned (.tuple #[.string ⟨([]:List UInt8).toArray⟩,.bool false])∧Below w.heap.size w w':=by
 have HM:=hZq (dimay_eq hv hs hm)
 obtain⟨a,cap,rfl,_⟩:=hv.open'
 clear hv hs hm
 go_enter Tryz.func167,Tryz.ntmps167
 go_wp2_with fail
 refine HM.out.mono ?_
 rintro e w1 ⟨rfl,hb1⟩
 have B1:=hZq hb1
 clear hb1
 go_wp2_with fail
 go_ret2
 exact⟨rfl,B1.out⟩

theorem diput_yes {w:World} {v:Value} {t:List Row} (hv:Tab w v t) (hs:Short t) (hm:Hid (diMay t=true)) :
  Calls Tryz.prog 167 #[v] w fun e w' => e=.returned (.tuple #[.string ⟨(diBytes t).toArray⟩,.bool true])∧Below w.heap.size w w':=by
 have HM:=hZq (dimay_eq hv hs hm)
 have HV:=hZq hv
 have hl32:=(diMay_iff.1 hm.out).1
 have HOk:=hZq (diMay_iff.1 hm.out).2.1
 have HS:=hZq hs
 obtain⟨a,cap,rfl,_⟩:=hv.open'
 have HPut:=hZq (put_any t.length (by omega))
 clear hv hs hm
 go_enter Tryz.func167,Tryz.ntmps167
 go_wp2_with fail
 refine HM.out.mono ?_
 rintro e w1 ⟨rfl,hb1⟩
 have B1:=hZq hb1
 have HW:=hZq (fun W (acc l:List UInt8) h1 h2 h3 => Tryz.Builder_WriteString_k w1.heap.size w1.heap.size (byteCells acc) ⟨l.toArray⟩ W h1 h2 h3)
 have HStr:=hZq (fun W (acc:List UInt8) hI hb => Tryz.Builder_String_any_k w1.heap.size w1.heap.size acc W hI hb)
 have HF:=hZq (IsBuilderF.of (fresh_isBuilder 189 5 w1))
 clear hb1
 go_wp2_with fail
 refine (HPut.out _).mono ?_
 rintro e w2 ⟨rfl,hb2⟩
 have F2:=hZq (builder_later HF.out hb2)
 have N2:=hZq (below2' ((Below.refl w1.heap.size w1).alloc (Nat.le_refl _) _) hb2)
 have hz2:=N2.out.size
 have hvl:=vput_len_le t.length
 clear hb2 HF
 go_wp2_with fail
 refine (HW.out _ [] (vput t.length) F2.out (by rw [byteCells_length,size_bytes]; simp; omega) hz2).mono ?_
 rintro e w3 ⟨rfl,h3,b3,_⟩
 have F3:Hid (IsBuilderF 189 5 w1.heap.size w1.heap.size (byteCells (vput t.length)) w3):=by
  show IsBuilderF _ _ _ _ _ _
  have:byteCells (vput t.length)=byteCells [] ++ strCells ⟨(vput t.length).toArray⟩:=by rw [strCells_eq]; rfl
  rw [this]
  exact Or.inr h3
 have N3:=hZq (N2.out.trans b3)
 clear h3 b3 F2 N2 hz2
 go_wp2_with fail
 go_loopw [21] (fun i wr => ∃ (k:Nat) (acc:List UInt8),k≤t.length∧i=.int .i64 k∧Hid (acc=vput t.length ++ rowsBytes (t.take k))∧Hid (IsBuilderF 189 5 w1.heap.size w1.heap.size (byteCells acc) wr)∧Hid (Below w1.heap.size w1 wr)) (fun i _ => t.length - (intOf i).toNat)
 case atStart => exact⟨0,vput t.length,by omega,rfl,by show _=_; simp [rowsBytes],F3,N3⟩
 case round =>
  clear F3 N3
  obtain⟨k,acc,hk,rfl,HA,F,HN⟩:=hrel
  by_cases hlt:k < t.length
  ·obtain⟨b,off,rfl,h0,h1,h2,h3,h4⟩:=HV.out.row (below2' B1.out HN.out) k hlt
   obtain⟨hl1,hl2⟩:=HS.out.get hlt
   obtain⟨⟨c,⟨x,y,z,st⟩⟩,hr⟩ : ∃ r,t.getD k Row.zero=r:=⟨_,rfl⟩
   rw [hr] at h0 h1 h2 h3 h4 hl1 hl2
   obtain⟨hi,hm⟩:=rowOk_at HOk.out hlt hr
   have HX:=hZq (rowsBytes_next hlt hr)
   have HP:=hZq (idput_eq c hl1 (hZq (idPut_is hi)))
   have HQ:=hZq (vaput_any x y z st hl2 (hZq (vaPut_is hm)) (hZq hm))
   have hal:=acc_len HOk.out hl32 k
   rw [← HA.out] at hal
   have hal2:=acc_len HOk.out hl32 (k+1)
   obtain⟨p,hp⟩ : ∃ p,vput c.length ++ c=p:=⟨_,rfl⟩
   obtain⟨q,hq⟩ : ∃ q,vaBytes ⟨x,y,z,st⟩=q:=⟨_,rfl⟩
   rw [hp] at HP HX
   rw [hq] at HQ HX
   rw [HX.out,← List.append_assoc,← HA.out] at hal2
   have hal3:acc.length+p.length+q.length≤1994:=by simp only [List.length_append] at hal2; omega
   have HA2:Hid (acc ++ p ++ q=vput t.length ++ rowsBytes (t.take (k+1))):=by show _=_; rw [HX.out,HA.out]; simp
   simp only at h0 h1 h2 h3 h4 hl1 hl2
   clear hr hi hm hp hq hal hal2 HX hl1 hl2
   go_wp2_with fail
   refine (HP.out _).mono ?_
   rintro e w4 ⟨rfl,hb4⟩
   have N4:=hZq (below2' HN.out (box5 hb4).2)
   have F4:=hZq (builder_later F.out (box5 hb4).2)
   obtain⟨k0,k1,k2,k3,k4⟩:=(box5 hb4).1
   clear hb4 h0 h1 h2 h3 h4
   go_wp2_with fail
   refine (HQ.out _).mono ?_
   rintro e w5 ⟨rfl,hb5⟩
   have N5:=hZq (below2' N4.out hb5)
   have F5:=hZq (builder_later F4.out hb5)
   have hz5:=N5.out.size
   clear hb5 k0 k1 k2 k3 k4 N4 F4
   go_wp2_with fail
   refine (HW.out _ acc p F5.out (by rw [byteCells_length,size_bytes]; omega) hz5).mono ?_
   rintro e w6 ⟨rfl,h6,b6,_⟩
   have F6:Hid (IsBuilderF 189 5 w1.heap.size w1.heap.size (byteCells (acc ++ p)) w6):=by
    show IsBuilderF _ _ _ _ _ _
    rw [byteCells_append]
    exact Or.inr h6
   have N6:=hZq (N5.out.trans b6)
   have hz6:=N6.out.size
   clear h6 b6 N5 F5 hz5
   go_wp2_with fail
   refine (HW.out _ (acc ++ p) q F6.out (by rw [byteCells_length,size_bytes,List.length_append]; omega) hz6).mono ?_
   rintro e w7 ⟨rfl,h7,b7,_⟩
   have F7:Hid (IsBuilderF 189 5 w1.heap.size w1.heap.size (byteCells (acc ++ p ++ q)) w7):=by
    show IsBuilderF _ _ _ _ _ _
    rw [byteCells_append]
    exact Or.inr h7
   have N7:=hZq (N6.out.trans b7)
   clear h7 b7 N6 F6 hz6
   go_wp2_with fail
   go_roundw
   case rel => exact⟨k+1,acc ++ p ++ q,by omega,by go_num,HA2,F7,N7⟩
   case measure => simp [intOf]; omega
  ·obtain rfl:k=t.length:=by omega
   have HR:Hid (acc=diBytes t):=by show _=_; rw [HA.out,List.take_length]; rfl
   have hz:=HN.out.size
   go_wp2_with fail
   refine (HStr.out _ acc F.out hz).mono ?_
   rintro e w8 ⟨rfl,_,b8,_⟩
   have N8:=hZq (below2' B1.out (HN.out.trans b8))
   clear b8
   go_wp2_with fail
   go_ret2
   exact⟨by rw [HR.out]; rfl,N8.out⟩

theorem diput_eq {w:World} {v:Value} {t:List Row} (hv:Tab w v t) (hs:Short t) {l:List UInt8} {r:Bool} (h:Hid (diPut t=(l,r))) :
  Calls Tryz.prog 167 #[v] w fun e w' => e=.returned (.tuple #[.string ⟨l.toArray⟩,.bool r])∧Below w.heap.size w w':=by
 have e:=h.out
 cases hm:diMay t with
 | false =>
  rw [diPut_no hm] at e
  simp only [Prod.mk.injEq] at e
  obtain⟨rfl,rfl⟩:=e
  exact diput_no hv hs (hZq hm)
 | true =>
  rw [diPut_yes hm] at e
  simp only [Prod.mk.injEq] at e
  obtain⟨rfl,rfl⟩:=e
  exact diput_yes hv hs (hZq hm)

end Go.Proofs.YtekkofldhhdpgaaGreat

end

section

namespace Go.Proofs.YtekkofldhhdpgaaGreat
open Go.RowKit
attribute [local go_sem] ByteArray.mk_append_mk

end Go.Proofs.YtekkofldhhdpgaaGreat

end

section

namespace Go.Proofs.YtekkofldhhdpgaaGreat
open Go.RowKit

theorem fnv_lit (l:List UInt8):fnv l < 18446744073709551616:=fnv_lt l

theorem fnv_step (a:Nat) (b:UInt8) (ha:a < 18446744073709551616):IntKind.u64.wrap (bits .xor .u64 (a:Int) (b.toNat:Int) * 1099511628211)=((fnv1 a b:Nat):Int):=by
 have hb:=b.toNat_lt
 rw [u64_xor_nat _ _ (by omega) (by omega),IntKind.wrap_u64]
 unfold fnv1 fnvP fnvM
 omega

theorem fnv_start:(14695981039346656037:Int)=((fnv (List.take 0 ([]:List UInt8)):Nat):Int):=rfl

theorem fnv_next {l:List UInt8} {k:Nat} {b:UInt8} (hb:l[k]?=some b):fnv (l.take (k+1))=fnv1 (fnv (l.take k)) b:=by
 obtain⟨h1,h2⟩:=List.getElem?_eq_some_iff.1 hb
 rw [List.take_succ_eq_append_getElem h1,h2,fnv_snoc]

set_option maxRecDepth 1000000 in
theorem disum_any {w:World} {v:Value} {t:List Row} (hv:Tab w v t) (hs:Short t) :
  Calls Tryz.prog 135 #[v] w fun e w' => e=.returned (.int .u64 (diSum t))∧Below w.heap.size w w':=by
 obtain⟨l,r,hl⟩ : ∃ l r,diPut t=(l,r):=⟨_,_,rfl⟩
 have hll:=diPut_len t
 rw [hl] at hll
 simp only at hll
 have HP:=hZq (diput_eq hv hs (hZq hl))
 have HR:Hid (diSum t=fnv l):=by show _=_; unfold diSum; rw [hl]
 obtain⟨a,cap,rfl,_⟩:=hv.open'
 clear hv hs hl
 go_enter Tryz.func135,Tryz.ntmps135
 go_wp2_with fail
 refine HP.out.mono ?_
 rintro e w1 ⟨rfl,hb1⟩
 have B1:=hZq hb1
 clear hb1
 go_wp2_with fail
 go_loop [5,14] (fun s i => ∃ k:Nat,k≤l.length∧i=.int .i64 k∧s=.int .u64 (fnv (l.take k))) (fun _ i => l.length - (intOf i).toNat)
 case atStart => exact⟨0,by omega,rfl,congrArg (Value.int .u64) fnv_start⟩
 case round =>
  obtain⟨k,hk,rfl,rfl⟩:=hrel
  by_cases hlt:k < l.length
  ·have hlt':k < (⟨l.toArray⟩ : ByteArray).size:=by rw [size_bytes]; exact hlt
   obtain⟨b,hb⟩ : ∃ b:UInt8,(⟨l.toArray⟩ : ByteArray)[k]'hlt'=b:=⟨_,rfl⟩
   have HB:Hid (l[k]?=some b):=by rw [← hb]; exact bytes_at l k hlt'
   have h256:=b.toNat_lt
   have HE:=hZq (fnv_next HB.out)
   have HL:=hZq (fnv_lit (l.take k))
   obtain⟨x,hx⟩ : ∃ x,fnv (l.take k)=x:=⟨_,rfl⟩
   rw [hx] at HE HL
   rw [hx]
   have HE2:=hZq (fnv_step x b HL.out)
   clear hx
   go_wp2_with fail
   go_round
   case rel => exact⟨k+1,by omega,by go_num,congrArg (Value.int .u64) (by rw [HE.out]; exact HE2.out)⟩
   case measure => simp [intOf]; omega
  ·obtain rfl:k=l.length:=by omega
   go_wp2_with fail
   go_ret
   exact⟨ret_int (by rw [HR.out]),B1.out⟩

end Go.Proofs.YtekkofldhhdpgaaGreat

end
