/-
 TEXTS OF THE PROOF, one behind the other: DigMay, DigRmay, ShelfW, DigPut, DigRput, DigSum, DigTakeR, DigOwn, DigTake, DigRtake, DigGet, IdRow, IdDoc, IdRput, IdRmerge.
-/
import Derived.Test.YtfocooajnignbaaW01
import Derived.Test.YtfocooajnignbaaW02
import Derived.Lib.QuietBelow
import Derived.Laws.AppendOwnNone
import Derived.Laws.OwnMore
import Derived.Test.YtfocooajnignbaaProg
import Derived.Lib.Hide

set_option maxHeartbeats 12800000
set_option maxRecDepth 100000

namespace Go.Proofs.Ytfocooajnignbaa
section
open Go.RowKit

def Box5 (w:World) (b:Nat) (r:Row):Prop :=
 w.cell? ⟨b,0,none⟩=some (.string ⟨r.c.toArray⟩)∧w.cell? ⟨b,1,none⟩=some (.int .i64 r.v.sh)∧w.cell? ⟨b,2,none⟩=some (.int .i64 r.v.pr) ∧
  w.cell? ⟨b,3,none⟩=some (.int .i64 r.v.si)∧w.cell? ⟨b,4,none⟩=some (.string ⟨r.v.st.toArray⟩)

theorem Box5.later {w w':World} {b:Nat} {r:Row} (h:Box5 w b r) (hb:Below w.heap.size w w'):Box5 w' b r:=by
 obtain⟨h0,h1,h2,h3,h4⟩:=h
 exact⟨cell_later h0 hb,cell_later h1 hb,cell_later h2 hb,cell_later h3 hb,cell_later h4 hb⟩

theorem Box5.lt {w:World} {b:Nat} {r:Row} (h:Box5 w b r):b < w.heap.size:=World.block_lt_of_cell? w _ h.1

theorem box5 {wr w1:World} {c st:List UInt8} {x y z:Int} {ty:TypeId} (hb:Below (wr.alloc (.cells #[.string ⟨c.toArray⟩,.int .i64 x,.int .i64 y,.int .i64 z,.string ⟨st.toArray⟩] ty)).heap.size (wr.alloc (.cells #[.string ⟨c.toArray⟩,.int .i64 x,.int .i64 y,.int .i64 z,.string ⟨st.toArray⟩] ty)) w1) :
  Box5 w1 wr.heap.size ⟨c,x,y,z,st⟩∧Below wr.heap.size wr w1 :=
 ⟨⟨cell_later (a:=⟨wr.heap.size,0,none⟩) (by simp) hb,cell_later (a:=⟨wr.heap.size,1,none⟩) (by simp) hb,cell_later (a:=⟨wr.heap.size,2,none⟩) (by simp) hb,
  cell_later (a:=⟨wr.heap.size,3,none⟩) (by simp) hb,cell_later (a:=⟨wr.heap.size,4,none⟩) (by simp) hb⟩,below2' ((Below.refl _ _).alloc (Nat.le_refl _) _) hb⟩

theorem regrown_belowD {w w':World} (h:∃ p:Regrown,w'=Sort.grow (redrawn w p.d) p.os):Below w.heap.size w w':=by
 obtain⟨p,rfl⟩:=h
 exact below_regrown _ _ _

theorem diMay_on {t:List Row} (h1:¬ 32 < t.length) (h2:(List.range t.length).all (rowAt t)=true):diMay t=true:=by
 unfold diMay
 rw [h2]
 simp
 omega

theorem diMay_off {t:List Row} {k:Nat} (hk:k < t.length) (h:rowAt t k=false):diMay t=false:=by
 unfold diMay
 rw [range_all_no hk h]
 simp

theorem rowAt_is {t:List Row} {k:Nat} {c st:List UInt8} {x y z:Int} (h:t.getD k Row.zero=⟨c,x,y,z,st⟩) (hi:idIs c=false):rowAt t k=false:=by
 unfold rowAt rowOk
 rw [h]
 simp [hi]

theorem rowAt_may {t:List Row} {k:Nat} {c st:List UInt8} {x y z:Int} (h:t.getD k Row.zero=⟨c,x,y,z,st⟩) (hm:vaMay ⟨x,y,z,st⟩=false):rowAt t k=false:=by
 unfold rowAt rowOk
 rw [h]
 simp [hm]

theorem rowAt_first {t:List Row} {c st:List UInt8} {x y z:Int} (h:t.getD 0 Row.zero=⟨c,x,y,z,st⟩) (hi:idIs c=true) (hm:vaMay ⟨x,y,z,st⟩=true):rowAt t 0=true:=by
 unfold rowAt rowOk
 rw [h]
 simp [hi,hm]

theorem rowAt_next {t:List Row} {j:Nat} {c st:List UInt8} {x y z:Int} (h:t.getD (j+1) Row.zero=⟨c,x,y,z,st⟩) (hi:idIs c=true) (hm:vaMay ⟨x,y,z,st⟩=true):rowAt t (j+1)=idLess (t.getD j Row.zero).c c:=by
 unfold rowAt rowOk
 rw [h]
 simp [hi,hm]

theorem dimay_any {w:World} {v:Value} {t:List Row} (hv:Tab w v t) (hs:Short t) :
  Calls Try.prog 17 #[v] w fun e w' => e=.returned (.bool (diMay t))∧Below w.heap.size w w':=by
 have HV:=hZq hv
 have HS:=hZq hs
 obtain⟨a,cap,rfl,hm⟩:=hv.open'
 clear hv hs
 by_cases h:32 < t.length
 ·have HR:=hZq (diMay_long h)
  go_enter Try.func17,Try.ntmps17
  go_wp2_with fail
  go_ret
  exact⟨by rw [HR.out]; rfl,Below.refl _ _⟩
 ·go_enter Try.func17,Try.ntmps17
  go_wp2_with fail
  go_loopw [10] (fun i wr => ∃ k:Nat,k≤t.length∧i=.int .i64 k∧Hid (Below w.heap.size w wr)∧Hid ((List.range k).all (rowAt t)=true)) (fun i _ => t.length - (intOf i).toNat)
  case atStart => exact⟨0,by omega,rfl,Below.refl _ _,by show _=_; simp⟩
  case round =>
   obtain⟨k,hk,rfl,HN,HA⟩:=hrel
   by_cases hlt:k < t.length
   ·obtain⟨b,off,rfl,h0,h1,h2,h3,h4⟩:=HV.out.row HN.out k hlt
    obtain⟨hl1,hl2⟩:=HS.out.get hlt
    obtain⟨⟨c,⟨x,y,z,st⟩⟩,hr⟩ : ∃ r,t.getD k Row.zero=r:=⟨_,rfl⟩
    rw [hr] at h0 h1 h2 h3 h4 hl1 hl2
    have HRr:=hZq hr
    simp only at h0 h1 h2 h3 h4 hl1 hl2
    clear hr
    cases hi:idIs c with
    | false =>
     have HR:Hid (diMay t=false):=diMay_off hlt (rowAt_is HRr.out hi)
     have HI:=hZq hi
     clear hi
     go_wp2_with fail
     refine (is_eq c hl1 HI _).mono ?_
     rintro e w1 ⟨rfl,hb1⟩
     have B1:=hZq (below2' HN.out (box5 hb1).2)
     clear hb1
     go_wp2_with fail
     go_ret
     exact⟨by rw [HR.out]; rfl,B1.out⟩
    | true =>
     have HI:=hZq hi
     clear hi
     go_wp2_with fail
     refine (is_eq c hl1 HI _).mono ?_
     rintro e w1 ⟨rfl,hb1⟩
     have B1:=hZq (below2' HN.out (box5 hb1).2)
     have K1:=hZq (box5 hb1).1
     obtain⟨k0,k1,k2,k3,k4⟩:=K1.out
     clear hb1 h0 h1 h2 h3 h4
     cases hm2:vaMay ⟨x,y,z,st⟩ with
     | false =>
      have HR:Hid (diMay t=false):=diMay_off hlt (rowAt_may HRr.out hm2)
      have HM:=hZq hm2
      clear hm2
      go_wp2_with fail
      refine (may_eq x y z st hl2 HM _).mono ?_
      rintro e w2 ⟨rfl,hb2⟩
      have B2:=hZq (below2' B1.out hb2)
      clear hb2 k0 k1 k2 k3 k4
      go_wp2_with fail
      go_ret
      exact⟨by rw [HR.out]; rfl,B2.out⟩
     | true =>
      have HM:=hZq hm2
      clear hm2
      go_wp2_with fail
      refine (may_eq x y z st hl2 HM _).mono ?_
      rintro e w2 ⟨rfl,hb2⟩
      have B2:=hZq (below2' B1.out hb2)
      have K2:=hZq (K1.out.later hb2)
      clear hb2 k0 k1 k2 k3 k4 B1 K1
      rcases Nat.eq_zero_or_pos k with rfl | hpos
      ·have HA2:Hid ((List.range 1).all (rowAt t)=true):=by show _=_; exact range_all_succ HA.out (rowAt_first HRr.out HI.out HM.out)
       go_wp2_with fail
       refine wp_region_quiet_below (by kernel_rfl) (by kernel_rfl) ?_
       repeat (go_big_quiet_step (fail))
       refine wpQuiet_nil ?_
       intro w5 hw5
       have hb5:=regrown_belowD hw5
       have HN5:=hZq (below2' B2.out hb5)
       clear hw5 hb5
       go_wp2_with fail
       go_roundw
       case rel => exact⟨1,by omega,by go_num,HN5,HA2⟩
       case measure => simp [intOf]; omega
      ·obtain⟨j,rfl⟩ : ∃ j,k=j+1:=⟨k - 1,by omega⟩
       obtain⟨b2,o2,e2,i0,_,_,_,_⟩:=HV.out.row B2.out j (by omega)
       injection e2 with e2
       injection e2 with e3 e4 _
       subst e3 e4
       have HX:=rowAt_next HRr.out HI.out HM.out
       obtain⟨yy,hy⟩ : ∃ yy,(t.getD j Row.zero).c=yy:=⟨_,rfl⟩
       rw [hy] at i0 HX
       clear hy
       have g1:=cell_regrown i0
       have g2:=cell_regrown K2.out.1
       cases hle:idLess yy c with
       | false =>
        have HR:Hid (diMay t=false):=diMay_off hlt (HX.trans hle)
        have HLe:=hZq (less_eq yy c (r:=false) (hZq hle))
        clear hle HX i0 hpos
        go_wp2_with fail
        refine wp_region_quiet_below (by kernel_rfl) (by kernel_rfl) ?_
        repeat (go_big_quiet_step (with_reducible exact rgB HLe.out _ _ _))
        refine wpQuiet_nil ?_
        intro w5 hw5
        have hb5:=regrown_belowD hw5
        have HN5:=hZq (below2' B2.out hb5)
        clear hw5 hb5 g1 g2
        go_wp2_with fail
        go_ret
        exact⟨by rw [HR.out]; rfl,HN5.out⟩
       | true =>
        have HA2:Hid ((List.range (j+1+1)).all (rowAt t)=true):=by show _=_; exact range_all_succ HA.out (HX.trans hle)
        have HLe:=hZq (less_eq yy c (r:=true) (hZq hle))
        clear hle HX i0 hpos
        go_wp2_with fail
        refine wp_region_quiet_below (by kernel_rfl) (by kernel_rfl) ?_
        repeat (go_big_quiet_step (with_reducible exact rgB HLe.out _ _ _))
        refine wpQuiet_nil ?_
        intro w5 hw5
        have hb5:=regrown_belowD hw5
        have HN5:=hZq (below2' B2.out hb5)
        clear hw5 hb5 g1 g2
        go_wp2_with fail
        go_roundw
        case rel => exact⟨j+1+1,by omega,by go_num,HN5,HA2⟩
        case measure => simp [intOf]; omega
   ·obtain rfl:k=t.length:=by omega
    have HR:Hid (diMay t=true):=by show _=_; exact diMay_on h HA.out
    go_wp2_with fail
    go_ret
    exact⟨by rw [HR.out]; rfl,HN.out⟩

theorem dimay_eq {w:World} {v:Value} {t:List Row} (hv:Tab w v t) (hs:Short t) {r:Bool} (h:Hid (diMay t=r)) :
  Calls Try.prog 17 #[v] w fun e w' => e=.returned (.bool r)∧Below w.heap.size w w':=by
 have:=dimay_any hv hs
 rwa [h.out] at this
end
section
open Go.RowKit
end
section
open Go.Shelf Go.RowKit

def Try.lays166_ren:Go.Shelf.Ren:=⟨fun | 166 => 61 | 240 => 70 | 276 => 75 | n => n,fun | 0 => 0 | 3 => 3 | 4 => 4 | 5 => 5 | 9 => 9 | 20 => 20 | 37 => 105 | 70 => 104 | 72 => 107 | 75 => 109 | 80 => 115 | 164 => 126 | n => n,fun | n => n⟩

theorem Try.lays166:Go.Proofs.Lays.n166 Try.prog Try.lays166_ren:={
 mixed:=by kernel_rfl
 f166:=Try.func61.trans (congrArg some (by kernel_rfl))
 f240:=Try.func70.trans (congrArg some (by kernel_rfl))
 f276:=Try.func75.trans (congrArg some (by kernel_rfl))
 t0:=Try.underlying0
 a0:=Try.isAgg0
 z0:=Try.sizeOf0
 v0:=Try.zeroValue0
 t3:=Try.underlying3
 a3:=Try.isAgg3
 z3:=Try.sizeOf3
 v3:=Try.zeroValue3
 t4:=Try.underlying4
 a4:=Try.isAgg4
 z4:=Try.sizeOf4
 v4:=Try.zeroValue4
 t9:=Try.underlying9
 a9:=Try.isAgg9
 z9:=Try.sizeOf9
 v9:=Try.zeroValue9
 t20:=Try.underlying20
 a20:=Try.isAgg20
 z20:=Try.sizeOf20
 v20:=Try.zeroValue20
 t37:=Try.underlying105
 a37:=Try.isAgg105
 z37:=Try.sizeOf105
 v37:=Try.zeroValue105
 t70:=Try.underlying104
 a70:=Try.isAgg104
 z70:=Try.sizeOf104
 v70:=Try.zeroValue104
 t72:=Try.underlying107
 a72:=Try.isAgg107
 z72:=Try.sizeOf107
 v72:=Try.zeroValue107
 t75:=Try.underlying109
 a75:=Try.isAgg109
 z75:=Try.sizeOf109
 v75:=Try.zeroValue109
 t164:=Try.underlying126
 a164:=Try.isAgg126
 z164:=Try.sizeOf126
 v164:=Try.zeroValue126 }

theorem Try.Builder_Extra_166:Builder.Extra Try.prog Try.lays166_ren:={
 sizeBuilder:=by kernel_rfl
 liesBuilder:=by kernel_rfl
 t5:=Try.underlying5
 a5:=Try.isAgg5
 z5:=Try.sizeOf5
 v5:=Try.zeroValue5
 infoByte:=by kernel_rfl
 cellsByte:=by kernel_rfl
 sizeByte:=by kernel_rfl
 neB5:=by decide }

theorem Try.Builder_WriteString_k (B b:Nat) (bs:List Value) (s:ByteArray) (w:World) (h:Lib.IsBuilderF 107 5 B b bs w) (hlen:bs.length+s.size≤140737488355328) (hBw:B≤w.heap.size) :
  Calls Try.prog 61 #[.pointer (some ⟨b,0,none⟩),.string s] w fun e w' => e=.returned (.tuple #[.int .i64 s.size,.nilIface])∧(Lib.BuilderAtF 107 5 B b (.pointer (some ⟨b,0,none⟩)) (bs ++ Lib.strCells s) w'∧Below B w w'∧Lib.OthersKept 5 (some b) w w'):=Any.Builder_WriteString_k Try.lays166 Try.Builder_Extra_166 B b bs s w h hlen hBw
end
section
open Go.RowKit Go.Lib
attribute [local go_sem] ByteArray.mk_append_mk

theorem diPut_yes {t:List Row} (h:diMay t=true):diPut t=(diBytes t,true):=by unfold diPut; rw [if_pos h]
theorem diPut_no {t:List Row} (h:diMay t=false):diPut t=([],false):=by unfold diPut; rw [if_neg (by rw [h]; decide)]

theorem rowOk_at {t:List Row} {k:Nat} {c st:List UInt8} {x y z:Int} (h:∀ r ∈ t,rowOk r=true) (hk:k < t.length) (hr:t.getD k Row.zero=⟨c,x,y,z,st⟩):idIs c=true∧vaMay ⟨x,y,z,st⟩=true:=by
 have hm:t.getD k Row.zero ∈ t:=by rw [← row_get hk]; exact List.getElem_mem hk
 have:=rowOk_parts (h _ hm)
 rw [hr] at this
 exact this

theorem idPut_is {c:List UInt8} (h:idIs c=true):idPut c=(vput c.length ++ c,true):=by unfold idPut; rw [if_pos h]
theorem vaPut_is {v:Val} (h:vaMay v=true):vaPut v=vaBytes v:=by unfold vaPut; rw [if_pos h]

theorem rowsBytes_next {t:List Row} {k:Nat} {c st:List UInt8} {x y z:Int} (hk:k < t.length) (hr:t.getD k Row.zero=⟨c,x,y,z,st⟩) :
  rowsBytes (t.take (k+1))=rowsBytes (t.take k) ++ ((vput c.length ++ c) ++ vaBytes ⟨x,y,z,st⟩):=by
 rw [rowsBytes_succ hk,hr]
 rfl

theorem acc_len {t:List Row} (h:∀ r ∈ t,rowOk r=true) (hl:t.length≤32) (k:Nat):(vput t.length ++ rowsBytes (t.take k)).length≤1994:=by
 have h1:=rowsBytes_len (t:=t.take k) (fun r hr => h r (List.mem_of_mem_take hr))
 have h2:=vput_len_le t.length
 have h3:(t.take k).length≤t.length:=by rw [List.length_take]; omega
 rw [List.length_append]
 omega

theorem diput_no {w:World} {v:Value} {t:List Row} (hv:Tab w v t) (hs:Short t) (hm:Hid (diMay t=false)) :
  Calls Try.prog 57 #[v] w fun e w' => e=.returned (.tuple #[.string ⟨([]:List UInt8).toArray⟩,.bool false])∧Below w.heap.size w w':=by
 have HM:=hZq (dimay_eq hv hs hm)
 obtain⟨a,cap,rfl,_⟩:=hv.open'
 clear hv hs hm
 go_enter Try.func57,Try.ntmps57
 go_wp2_with fail
 refine HM.out.mono ?_
 rintro e w1 ⟨rfl,hb1⟩
 have B1:=hZq hb1
 clear hb1
 go_wp2_with fail
 go_ret2
 exact⟨rfl,B1.out⟩

theorem diput_yes {w:World} {v:Value} {t:List Row} (hv:Tab w v t) (hs:Short t) (hm:Hid (diMay t=true)) :
  Calls Try.prog 57 #[v] w fun e w' => e=.returned (.tuple #[.string ⟨(diBytes t).toArray⟩,.bool true])∧Below w.heap.size w w':=by
 have HM:=hZq (dimay_eq hv hs hm)
 have HV:=hZq hv
 have hl32:=(diMay_iff.1 hm.out).1
 have HOk:=hZq (diMay_iff.1 hm.out).2.1
 have HS:=hZq hs
 obtain⟨a,cap,rfl,_⟩:=hv.open'
 have HPut:=hZq (put_any t.length (by omega))
 clear hv hs hm
 go_enter Try.func57,Try.ntmps57
 go_wp2_with fail
 refine HM.out.mono ?_
 rintro e w1 ⟨rfl,hb1⟩
 have B1:=hZq hb1
 have HW:=hZq (fun W (acc l:List UInt8) h1 h2 h3 => Try.Builder_WriteString_k w1.heap.size w1.heap.size (byteCells acc) ⟨l.toArray⟩ W h1 h2 h3)
 have HStr:=hZq (fun W (acc:List UInt8) hI hb => Try.Builder_String_any_k w1.heap.size w1.heap.size acc W hI hb)
 have HF:=hZq (IsBuilderF.of (fresh_isBuilder 107 5 w1))
 clear hb1
 go_wp2_with fail
 refine (HPut.out _).mono ?_
 rintro e w2 ⟨rfl,hb2⟩
 have F2:=hZq (builder_later HF.out hb2)
 have N2:=hZq (below2' ((Below.refl w1.heap.size w1).alloc (Nat.le_refl _) _) hb2)
 have hz2:=N2.out.size
 have hvl:=vput_len_le t.length
 clear hb2 HF
 go_wp2_with fail
 refine (HW.out _ [] (vput t.length) F2.out (by rw [byteCells_length,size_bytes]; simp; omega) hz2).mono ?_
 rintro e w3 ⟨rfl,h3,b3,_⟩
 have F3:Hid (IsBuilderF 107 5 w1.heap.size w1.heap.size (byteCells (vput t.length)) w3):=by
  show IsBuilderF _ _ _ _ _ _
  have:byteCells (vput t.length)=byteCells [] ++ strCells ⟨(vput t.length).toArray⟩:=by rw [strCells_eq]; rfl
  rw [this]
  exact Or.inr h3
 have N3:=hZq (N2.out.trans b3)
 clear h3 b3 F2 N2 hz2
 go_wp2_with fail
 go_loopw [21] (fun i wr => ∃ (k:Nat) (acc:List UInt8),k≤t.length∧i=.int .i64 k∧Hid (acc=vput t.length ++ rowsBytes (t.take k))∧Hid (IsBuilderF 107 5 w1.heap.size w1.heap.size (byteCells acc) wr)∧Hid (Below w1.heap.size w1 wr)) (fun i _ => t.length - (intOf i).toNat)
 case atStart => exact⟨0,vput t.length,by omega,rfl,by show _=_; simp [rowsBytes],F3,N3⟩
 case round =>
  clear F3 N3
  obtain⟨k,acc,hk,rfl,HA,F,HN⟩:=hrel
  by_cases hlt:k < t.length
  ·obtain⟨b,off,rfl,h0,h1,h2,h3,h4⟩:=HV.out.row (below2' B1.out HN.out) k hlt
   obtain⟨hl1,hl2⟩:=HS.out.get hlt
   obtain⟨⟨c,⟨x,y,z,st⟩⟩,hr⟩ : ∃ r,t.getD k Row.zero=r:=⟨_,rfl⟩
   rw [hr] at h0 h1 h2 h3 h4 hl1 hl2
   obtain⟨hi,hm⟩:=rowOk_at HOk.out hlt hr
   have HX:=hZq (rowsBytes_next hlt hr)
   have HP:=hZq (idput_eq c hl1 (hZq (idPut_is hi)))
   have HQ:=hZq (vaput_any x y z st hl2 (hZq (vaPut_is hm)) (hZq hm))
   have hal:=acc_len HOk.out hl32 k
   rw [← HA.out] at hal
   have hal2:=acc_len HOk.out hl32 (k+1)
   obtain⟨p,hp⟩ : ∃ p,vput c.length ++ c=p:=⟨_,rfl⟩
   obtain⟨q,hq⟩ : ∃ q,vaBytes ⟨x,y,z,st⟩=q:=⟨_,rfl⟩
   rw [hp] at HP HX
   rw [hq] at HQ HX
   rw [HX.out,← List.append_assoc,← HA.out] at hal2
   have hal3:acc.length+p.length+q.length≤1994:=by simp only [List.length_append] at hal2; omega
   have HA2:Hid (acc ++ p ++ q=vput t.length ++ rowsBytes (t.take (k+1))):=by show _=_; rw [HX.out,HA.out]; simp
   simp only at h0 h1 h2 h3 h4 hl1 hl2
   clear hr hi hm hp hq hal hal2 HX hl1 hl2
   go_wp2_with fail
   refine (HP.out _).mono ?_
   rintro e w4 ⟨rfl,hb4⟩
   have N4:=hZq (below2' HN.out (box5 hb4).2)
   have F4:=hZq (builder_later F.out (box5 hb4).2)
   obtain⟨k0,k1,k2,k3,k4⟩:=(box5 hb4).1
   clear hb4 h0 h1 h2 h3 h4
   go_wp2_with fail
   refine (HQ.out _).mono ?_
   rintro e w5 ⟨rfl,hb5⟩
   have N5:=hZq (below2' N4.out hb5)
   have F5:=hZq (builder_later F4.out hb5)
   have hz5:=N5.out.size
   clear hb5 k0 k1 k2 k3 k4 N4 F4
   go_wp2_with fail
   refine (HW.out _ acc p F5.out (by rw [byteCells_length,size_bytes]; omega) hz5).mono ?_
   rintro e w6 ⟨rfl,h6,b6,_⟩
   have F6:Hid (IsBuilderF 107 5 w1.heap.size w1.heap.size (byteCells (acc ++ p)) w6):=by
    show IsBuilderF _ _ _ _ _ _
    rw [byteCells_append]
    exact Or.inr h6
   have N6:=hZq (N5.out.trans b6)
   have hz6:=N6.out.size
   clear h6 b6 N5 F5 hz5
   go_wp2_with fail
   refine (HW.out _ (acc ++ p) q F6.out (by rw [byteCells_length,size_bytes,List.length_append]; omega) hz6).mono ?_
   rintro e w7 ⟨rfl,h7,b7,_⟩
   have F7:Hid (IsBuilderF 107 5 w1.heap.size w1.heap.size (byteCells (acc ++ p ++ q)) w7):=by
    show IsBuilderF _ _ _ _ _ _
    rw [byteCells_append]
    exact Or.inr h7
   have N7:=hZq (N6.out.trans b7)
   clear h7 b7 N6 F6 hz6
   go_wp2_with fail
   go_roundw
   case rel => exact⟨k+1,acc ++ p ++ q,by omega,by go_num,HA2,F7,N7⟩
   case measure => simp [intOf]; omega
  ·obtain rfl:k=t.length:=by omega
   have HR:Hid (acc=diBytes t):=by show _=_; rw [HA.out,List.take_length]; rfl
   have hz:=HN.out.size
   go_wp2_with fail
   refine (HStr.out _ acc F.out hz).mono ?_
   rintro e w8 ⟨rfl,_,b8,_⟩
   have N8:=hZq (below2' B1.out (HN.out.trans b8))
   clear b8
   go_wp2_with fail
   go_ret2
   exact⟨by rw [HR.out]; rfl,N8.out⟩

theorem diput_eq {w:World} {v:Value} {t:List Row} (hv:Tab w v t) (hs:Short t) {l:List UInt8} {r:Bool} (h:Hid (diPut t=(l,r))) :
  Calls Try.prog 57 #[v] w fun e w' => e=.returned (.tuple #[.string ⟨l.toArray⟩,.bool r])∧Below w.heap.size w w':=by
 have e:=h.out
 cases hm:diMay t with
 | false =>
  rw [diPut_no hm] at e
  simp only [Prod.mk.injEq] at e
  obtain⟨rfl,rfl⟩:=e
  exact diput_no hv hs (hZq hm)
 | true =>
  rw [diPut_yes hm] at e
  simp only [Prod.mk.injEq] at e
  obtain⟨rfl,rfl⟩:=e
  exact diput_yes hv hs (hZq hm)
end
section
open Go.RowKit
attribute [local go_sem] ByteArray.mk_append_mk
end
section
open Go.RowKit

theorem fnv_lit (l:List UInt8):fnv l < 18446744073709551616:=fnv_lt l

theorem fnv_step (a:Nat) (b:UInt8) (ha:a < 18446744073709551616):IntKind.u64.wrap (bits .xor .u64 (a:Int) (b.toNat:Int) * 1099511628211)=((fnv1 a b:Nat):Int):=by
 have hb:=b.toNat_lt
 rw [u64_xor_nat _ _ (by omega) (by omega),IntKind.wrap_u64]
 unfold fnv1 fnvP fnvM
 omega

theorem fnv_start:(14695981039346656037:Int)=((fnv (List.take 0 ([]:List UInt8)):Nat):Int):=rfl

theorem fnv_next {l:List UInt8} {k:Nat} {b:UInt8} (hb:l[k]?=some b):fnv (l.take (k+1))=fnv1 (fnv (l.take k)) b:=by
 obtain⟨h1,h2⟩:=List.getElem?_eq_some_iff.1 hb
 rw [List.take_succ_eq_append_getElem h1,h2,fnv_snoc]

set_option maxRecDepth 1000000 in
theorem disum_any {w:World} {v:Value} {t:List Row} (hv:Tab w v t) (hs:Short t) :
  Calls Try.prog 51 #[v] w fun e w' => e=.returned (.int .u64 (diSum t))∧Below w.heap.size w w':=by
 obtain⟨l,r,hl⟩ : ∃ l r,diPut t=(l,r):=⟨_,_,rfl⟩
 have hll:=diPut_len t
 rw [hl] at hll
 simp only at hll
 have HP:=hZq (diput_eq hv hs (hZq hl))
 have HR:Hid (diSum t=fnv l):=by show _=_; unfold diSum; rw [hl]
 obtain⟨a,cap,rfl,_⟩:=hv.open'
 clear hv hs hl
 go_enter Try.func51,Try.ntmps51
 go_wp2_with fail
 refine HP.out.mono ?_
 rintro e w1 ⟨rfl,hb1⟩
 have B1:=hZq hb1
 clear hb1
 go_wp2_with fail
 go_loop [5,14] (fun s i => ∃ k:Nat,k≤l.length∧i=.int .i64 k∧s=.int .u64 (fnv (l.take k))) (fun _ i => l.length - (intOf i).toNat)
 case atStart => exact⟨0,by omega,rfl,congrArg (Value.int .u64) fnv_start⟩
 case round =>
  obtain⟨k,hk,rfl,rfl⟩:=hrel
  by_cases hlt:k < l.length
  ·have hlt':k < (⟨l.toArray⟩ : ByteArray).size:=by rw [size_bytes]; exact hlt
   obtain⟨b,hb⟩ : ∃ b:UInt8,(⟨l.toArray⟩ : ByteArray)[k]'hlt'=b:=⟨_,rfl⟩
   have HB:Hid (l[k]?=some b):=by rw [← hb]; exact bytes_at l k hlt'
   have h256:=b.toNat_lt
   have HE:=hZq (fnv_next HB.out)
   have HL:=hZq (fnv_lit (l.take k))
   obtain⟨x,hx⟩ : ∃ x,fnv (l.take k)=x:=⟨_,rfl⟩
   rw [hx] at HE HL
   rw [hx]
   have HE2:=hZq (fnv_step x b HL.out)
   clear hx
   go_wp2_with fail
   go_round
   case rel => exact⟨k+1,by omega,by go_num,congrArg (Value.int .u64) (by rw [HE.out]; exact HE2.out)⟩
   case measure => simp [intOf]; omega
  ·obtain rfl:k=l.length:=by omega
   go_wp2_with fail
   go_ret
   exact⟨ret_int (by rw [HR.out]),B1.out⟩
end
section
open Go.RowKit

def rowAgg (r:Row):Value:=.agg #[.string ⟨r.c.toArray⟩,.int .i64 r.v.sh,.int .i64 r.v.pr,.int .i64 r.v.si,.string ⟨r.v.st.toArray⟩]

def tripleR (r:Row × Nat × Nat):Value:=.tuple #[rowAgg r.1,.int .i64 r.2.1,.int .i64 r.2.2]

def set5D (w:World) (B:Nat) (a b c d e:Value):World :=
 ((((w.setCell ⟨B,0,none⟩ a).setCell ⟨B,1,none⟩ b).setCell ⟨B,2,none⟩ c).setCell ⟨B,3,none⟩ d).setCell ⟨B,4,none⟩ e

def Free5 (w:World) (b:Nat):Prop :=
 w.frozen? ⟨b,0,none⟩=false∧w.frozen? ⟨b,1,none⟩=false∧w.frozen? ⟨b,2,none⟩=false∧w.frozen? ⟨b,3,none⟩=false∧w.frozen? ⟨b,4,none⟩=false

theorem Free5.later {w w':World} {b:Nat} (h:Free5 w b) (hb:Below w.heap.size w w') (hlt:b < w.heap.size):Free5 w' b:=by
 obtain⟨h0,h1,h2,h3,h4⟩:=h
 have k:∀ o,w'.frozen? ⟨b,o,none⟩=w.frozen? ⟨b,o,none⟩:=fun o => hb.frozen (p:=⟨b,o,none⟩) hlt
 exact⟨(k _).trans h0,(k _).trans h1,(k _).trans h2,(k _).trans h3,(k _).trans h4⟩
end
section
open Go.RowKit

def cellsOf (t:List Row):List Value:=(t.map rowVals).flatten

theorem cellsOf_nil:cellsOf []=[]:=rfl
theorem cellsOf_cons (r:Row) (t:List Row):cellsOf (r :: t)=rowVals r ++ cellsOf t:=rfl
theorem cellsOf_append (a b:List Row):cellsOf (a ++ b)=cellsOf a ++ cellsOf b:=by simp [cellsOf]
theorem cellsOf_one (r:Row):cellsOf [r]=rowVals r:=by simp [cellsOf]

theorem rowVals_len (r:Row):(rowVals r).length=5:=rfl

theorem cellsOf_len:∀ t:List Row,(cellsOf t).length=t.length * 5
 | [] => rfl
 | r :: t => by rw [cellsOf_cons,List.length_append,rowVals_len,cellsOf_len t,List.length_cons]; omega

theorem cellsOf_at:∀ (t:List Row) (i j:Nat),i < t.length→j < 5→(cellsOf t)[i * 5+j]?=(rowVals (t.getD i Row.zero))[j]?
 | [],i,j,h,_ => by simp at h
 | r :: t,0,j,_,hj => by
  rw [cellsOf_cons,Nat.zero_mul,Nat.zero_add,List.getElem?_append_left (by rw [rowVals_len]; exact hj)]
  rfl
 | r :: t,i+1,j,h,hj => by
  rw [cellsOf_cons,List.getElem?_append_right (by rw [rowVals_len]; omega),rowVals_len,show (i+1) * 5+j - 5=i * 5+j by omega,cellsOf_at t i j (by simpa using h) hj]
  rfl

theorem cellsOf_single (t:List Row):∀ u ∈ cellsOf t,u.oneCell'=true:=by
 intro u hu
 obtain⟨l,hl,hu⟩:=List.mem_flatten.1 hu
 obtain⟨r,_,rfl⟩:=List.mem_map.1 hl
 simp only [rowVals,List.mem_cons,List.not_mem_nil,or_false] at hu
 rcases hu with rfl | rfl | rfl | rfl | rfl <;> rfl

theorem cells5_of {w:World} {b o:Nat} {r:Row} (h:∀ j u,(rowVals r)[j]?=some u→w.cell? ⟨b,o+j,none⟩=some u):Cells5 w b o r :=
 ⟨h 0 _ rfl,h 1 _ rfl,h 2 _ rfl,h 3 _ rfl,h 4 _ rfl⟩

theorem cells5_get {w:World} {b o:Nat} {r:Row} (h:Cells5 w b o r):∀ j u,(rowVals r)[j]?=some u→w.cell? ⟨b,o+j,none⟩=some u:=by
 obtain⟨h0,h1,h2,h3,h4⟩:=h
 intro j u hu
 match j,hu with
 | 0,hu => rw [← hu]; exact h0
 | 1,hu => rw [← hu]; exact h1
 | 2,hu => rw [← hu]; exact h2
 | 3,hu => rw [← hu]; exact h3
 | 4,hu => rw [← hu]; exact h4
 | n+5,hu => simp [rowVals] at hu

def OwnR (w:World) (base:Nat) (v:Value) (t:List Row):Prop:=w.ownsRow base 55 5 v t.length (cellsOf t)

theorem OwnR.alloc {w:World} {base:Nat} {v:Value} {t:List Row} (h:OwnR w base v t) (o:Obj):OwnR (w.alloc o) base v t:=World.ownsRow.alloc h o

theorem ownR_nil (w:World) (base:Nat):OwnR w base (.slice none 0 0) []:=World.ownsRow_nil w base _ _

theorem ownR_made (w:World):OwnR (w.alloc (.cells #[] 55)) w.heap.size (.slice (some ⟨w.heap.size,0,none⟩) 0 0) []:=World.ownsRow_made w #[] 0 (Nat.le_refl _) (by decide) rfl

theorem OwnR.later {w w':World} {base:Nat} {v:Value} {t:List Row} (h:OwnR w base v t) (hb:Below w.heap.size w w'):OwnR w' base v t:=by
 refine ⟨h.1,?_⟩
 rcases h.2 with h' | ⟨g,cap,cur,h1,h2,h3,h4⟩
 ·exact .inl h'
 ·exact .inr ⟨g,cap,cur,h1,h2,by rw [hb.block g (Array.getElem?_eq_some_iff.1 h3).1]; exact h3,h4⟩

theorem OwnR.tab {w:World} {base:Nat} {v:Value} {t:List Row} (h:OwnR w base v t):Tab w v t:=by
 rcases h with ⟨_,⟨rfl,h0⟩ | ⟨g,cap,cur,rfl,hb,hg,hn,hc,hsz,htk⟩⟩
 ·obtain rfl:t=[]:=List.length_eq_zero_iff.1 h0
  exact tab_nil w
 ·refine ⟨some ⟨g,0,none⟩,cap,rfl,hn,hc,(fun e => by cases e),.inr ⟨g,0,rfl,(Array.getElem?_eq_some_iff.1 hg).1,fun i hi => ?_⟩⟩
  refine cells5_of fun j u hu => ?_
  have hj:j < 5:=by have:=(List.getElem?_eq_some_iff.1 hu).1; rwa [rowVals_len] at this
  rw [Nat.zero_add,cell_of_row w g (i * 5+j) cur _ (0,0) hg]
  have h1:cur.toList[i * 5+j]?=(cellsOf t)[i * 5+j]?:=by
   rw [← htk,List.getElem?_take,if_pos (by omega)]
  rw [← hu,← cellsOf_at t i j hi hj,← h1]
  simp

theorem Try.infoSeen:(Try.prog.info? 55).map (fun i => (i.zero,i.size,i.bytes))=some (some (.agg #[.string ⟨#[]⟩,.int .i64 0,.int .i64 0,.int .i64 0,.string ⟨#[]⟩]),5,56):=by kernel_rfl

theorem wpList_append_rows {w:World} {ops:Array Oper} {rest:List Oper} {o:Oper} {a:Act} {Q:Exit→Act→World→Prop}
  (hgd:o.guard=none) (s x:Operand) (ho:o.op=.call { callee:=.builtin .append,args:=#[s,x],argTypes:=#[47,47] })
  (base:Nat) (v:Value) (t:List Row) (hs:a.eval s=v) (hown:OwnR w base v t)
  (ao:Option Addr) (m c:Nat) (ms:List Row) (hx:a.eval x=.slice ao m c) (hm:m=ms.length) (hnone:ao=none→c=0∧ms=[])
  (hsome:∀ ad,ao=some ad→∀ j u,(cellsOf ms)[j]?=some u→w.cell? (ad.add j)=some u)
  (hlen:t.length+ms.length < 4294967296) (hbase:base≤w.heap.size)
  (h:∀ v' w',OwnR w' base v' (t ++ ms)→Below base w w'→wpList Try.prog ops Q rest (a.put o.dst v') w') :
  wpList Try.prog ops Q (o :: rest) a w:=by
 obtain⟨i,hi,hz,hsize,hby⟩:=info_parts Try.infoSeen
 cases ao with
 | none =>
  obtain⟨rfl,rfl⟩:=hnone rfl
  simp only [List.length_nil] at hm
  subst hm
  exact wpList_append_own_none hgd s x 47 ho base 55 i 5 Try.underlying47 hi v t.length (cellsOf t) hs hown hx (h v w (by simpa using hown) (Below.refl _ _))
 | some ad =>
  subst hm
  refine wpList_append_own _ hgd s x 47 ho base 55 i _ 5 56 Try.underlying47 hi hz hsize hby rfl (by decide) v t.length (cellsOf t) hs hown ad ms.length c (cellsOf ms) hx (cellsOf_len ms) (hsome ad rfl) (cellsOf_single ms)
   (by unfold maxLen; omega) (by omega) hbase ?_
  intro v' w' hown' hgrow _
  refine h v' w' ?_ ((Below.refl base w).grown hgrow hbase (fun k hk => (World.ownsRow.lt hown k hk).1))
  unfold OwnR
  rw [cellsOf_append,List.length_append]
  exact hown'
end
section
open Go.RowKit

def Took (r:List Row × Nat × Nat) (w:World) (e:Ending) (w':World):Prop :=
 ∃ v,e=.returned (.tuple #[v,.int .i64 r.2.1,.int .i64 r.2.2])∧Tab w' v r.1∧Below w.heap.size w w'
end
section
open Go.RowKit
end
section
open Go.RowKit

def pairG (r:Val × Bool):Value:=.tuple #[valV r.1,.bool r.2]
end
section
open Go.RowKit

theorem cell_after {w w':World} {a:Addr} {v:Value} (h:w.cell? a=some v) (hb:Below w.heap.size w w'):w'.cell? a=some v :=
 (hb.cell (World.block_lt_of_cell? w a h)).trans h

def encS (l:List UInt8):Value:=.string ⟨l.toArray⟩

def Texts (w:World) (v:Value) (ls:List (List UInt8)):Prop :=
 ∃ a cap,v=.slice a ls.length cap∧ls.length≤cap∧cap≤maxLen∧(a=none→cap=0) ∧
  (ls=[]∨∃ b off,a=some ⟨b,off,none⟩∧b < w.heap.size∧∀ i,i < ls.length→w.cell? ⟨b,off+i,none⟩=some (encS (ls.getD i [])))

theorem Texts.later {w w':World} {v:Value} {ls:List (List UInt8)} (h:Texts w v ls) (hb:Below w.heap.size w w'):Texts w' v ls:=by
 obtain⟨a,cap,h1,h2,h3,h4,h5⟩:=h
 refine ⟨a,cap,h1,h2,h3,h4,?_⟩
 rcases h5 with h5 | ⟨b,off,e,hlt,hc⟩
 ·exact .inl h5
 ·exact .inr ⟨b,off,e,Nat.lt_of_lt_of_le hlt hb.size,fun i hi => (hb.cell (p:=⟨b,off+i,none⟩) hlt).trans (hc i hi)⟩

theorem texts_nil (w:World):Texts w (.slice none 0 0) []:=⟨none,0,rfl,by simp,by simp,fun _ => rfl,.inl rfl⟩

theorem encS_one (ls:List (List UInt8)):∀ u ∈ ls.map encS,u.oneCell'=true:=by
 intro u hu
 obtain⟨l,_,rfl⟩:=List.mem_map.1 hu
 rfl

theorem texts_of_own {w:World} {base e:Nat} {v:Value} {ls:List (List UInt8)} (h:w.ownsRow base e 1 v ls.length (ls.map encS)):Texts w v ls:=by
 rcases h with ⟨_,⟨rfl,h0⟩ | ⟨g,cap,cur,rfl,hb,hg,hn,hc,hsz,htk⟩⟩
 ·obtain rfl:ls=[]:=List.length_eq_zero_iff.1 h0
  exact texts_nil w
 ·refine ⟨some ⟨g,0,none⟩,cap,rfl,hn,hc,(fun e => by cases e),?_⟩
  refine .inr ⟨g,0,rfl,(Array.getElem?_eq_some_iff.1 hg).1,fun i hi => ?_⟩
  rw [Nat.zero_add,cell_of_row w g i cur e (0,0) hg]
  have h1:cur.toList[i]?=(ls.map encS)[i]?:=by
   rw [← htk,List.getElem?_take,if_pos (by omega)]
  have h2:(ls.map encS)[i]?=some (encS (ls.getD i [])):=by
   simp [List.getD,List.getElem?_eq_getElem hi]
  rw [← h2,← h1]
  simp

def OwnT (w:World) (base e:Nat) (v:Value) (ls:List (List UInt8)):Prop:=w.ownsRow base e 1 v ls.length (ls.map encS)

theorem OwnT.alloc {w:World} {base e:Nat} {v:Value} {ls:List (List UInt8)} (h:OwnT w base e v ls) (o:Obj):OwnT (w.alloc o) base e v ls:=World.ownsRow.alloc h o
theorem OwnT.texts {w:World} {base e:Nat} {v:Value} {ls:List (List UInt8)} (h:OwnT w base e v ls):Texts w v ls:=texts_of_own h
theorem wpList_append_texts {P:Program} {w:World} {ops:Array Oper} {rest:List Oper} {o:Oper} {a:Act} {Q:Exit→Act→World→Prop}
  (hgd:o.guard=none) (s x:Operand) (t:TypeId) (ho:o.op=.call { callee:=.builtin .append,args:=#[s,x],argTypes:=#[t,t] })
  (base:Nat) (e:TypeId) (i:TypeInfo) (z:Value) (bytes:Nat) (ht:P.underlying t=some (.slice e)) (hi:P.info? e=some i) (hz:i.zero=some z)
  (hsize:i.size=1) (hby:i.bytes=bytes) (hzs:z.cells.size=1)
  (v:Value) (ls:List (List UInt8)) (hs:a.eval s=v) (hown:OwnT w base e v ls)
  (ao:Option Addr) (m c:Nat) (ms:List (List UInt8)) (hx:a.eval x=.slice ao m c) (hm:m=ms.length) (hnone:ao=none→c=0∧ms=[])
  (hsome:∀ ad,ao=some ad→∀ j u,(ms.map encS)[j]?=some u→w.cell? (ad.add j)=some u)
  (hlen:ls.length+ms.length < 4294967296) (hb:bytes≤4096) (hbase:base≤w.heap.size)
  (h:∀ v' w',OwnT w' base e v' (ls ++ ms)→Below base w w'→wpList P ops Q rest (a.put o.dst v') w') :
  wpList P ops Q (o :: rest) a w:=by
 cases ao with
 | none =>
  obtain⟨rfl,rfl⟩:=hnone rfl
  simp only [List.length_nil] at hm
  subst hm
  exact wpList_append_own_none hgd s x t ho base e i 1 ht hi v ls.length (ls.map encS) hs hown hx (h v w (by simpa using hown) (Below.refl _ _))
 | some ad =>
  subst hm
  refine wpList_append_own _ hgd s x t ho base e i z 1 bytes ht hi hz hsize hby hzs (by decide) v ls.length (ls.map encS) hs hown ad ms.length c (ms.map encS) hx (by simp) (hsome ad rfl) (encS_one ms)
   (by unfold maxLen; omega) (Nat.le_trans (Nat.mul_le_mul (show ls.length+ms.length≤4294967296 by omega) hb) (by decide)) hbase ?_
  intro v' w' hown' hgrow _
  refine h v' w' ?_ ((Below.refl base w).grown hgrow hbase (fun k hk => (World.ownsRow.lt hown k hk).1))
  unfold OwnT
  rw [List.map_append,List.length_append]
  exact hown'
end
section
open Go.RowKit

theorem Try.infoStr:(Try.prog.info? 9).map (fun i => (i.zero,i.size,i.bytes))=some (some (.string ⟨#[]⟩),1,16):=by kernel_rfl

def fewB (ls:List (List UInt8)):Bool:=decide (ls.length≤30) && ls.all fun t => decide (t.length≤30)

theorem getD_some {ls:List (List UInt8)} {k:Nat} (h:k < ls.length):ls[k]?=some (ls.getD k []):=by simp [List.getD,List.getElem?_eq_getElem h]
end
section
open Go.RowKit

def Heaped (w:World) (v:Value) (ls:List (List UInt8)):Prop:=Texts w v ls∧(ls=[]→v=.slice none 0 0)
end
section
open Go.RowKit

theorem Heaped.later {w w':World} {v:Value} {ls:List (List UInt8)} (h:Heaped w v ls) (hb:Below w.heap.size w w'):Heaped w' v ls:=⟨h.1.later hb,h.2⟩

theorem Texts.cell {w wr:World} {a:Option Addr} {n cap:Nat} {ls:List (List UInt8)} (h:Texts w (.slice a n cap) ls) (hb:Below w.heap.size w wr) (k:Nat) (hk:k < ls.length) :
  ∃ b off,a=some ⟨b,off,none⟩∧wr.cell? ⟨b,off+k,none⟩=some (.string ⟨(ls.getD k []).toArray⟩):=by
 obtain⟨a',cap',e,_,_,_,h⟩:=h.later hb
 simp only [Value.slice.injEq] at e
 rcases h with h | ⟨b,off,e',_,hc⟩
 ·rw [h] at hk; simp at hk
 ·exact⟨b,off,e.1.trans e',hc k hk⟩
end
end Go.Proofs.Ytfocooajnignbaa
