/-
 TEXTS OF THE PROOF, one behind the other: QueMay.
-/
import Derived.Test.YtekkofldhhdpgaaGreatD25
import Derived.Test.YtekkofldhhdpgaaGreatD08
import Derived.Test.YtekkofldhhdpgaaGreatD07

set_option maxHeartbeats 12800000
set_option maxRecDepth 100000

namespace Go.Proofs.YtekkofldhhdpgaaGreat
open Go.RowKit

theorem chg_take {l:List Chg} {k:Nat} (hk:k < l.length):(l.map (·.c)).take (k+1)=(l.map (·.c)).take k ++ [(l.getD k Chg.zero).c]:=by
 rw [List.take_add_one,List.getElem?_map,List.getElem?_eq_getElem hk,List.getD_eq_getElem?_getD,List.getElem?_eq_getElem hk]
 rfl

def ctcAt (l:List Chg) (k:Nat):List (List UInt8):=(l.map (·.c)).take k ++ List.replicate (l.length - k) []
theorem ctcAt_len {l:List Chg} {k:Nat} (h:k≤l.length):(ctcAt l k).length=l.length:=by unfold ctcAt; rw [List.length_append,List.length_take,List.length_map,List.length_replicate]; omega
theorem ctcAt_set {l:List Chg} {k:Nat} (hk:k < l.length):(ctcAt l k).set k (l.getD k Chg.zero).c=ctcAt l (k+1):=by
 unfold ctcAt
 have h1:((l.map (·.c)).take k).length=k:=by rw [List.length_take,List.length_map]; omega
 rw [List.set_append_right _ _ (by omega),h1,Nat.sub_self,show l.length - k=(l.length - (k+1))+1 by omega,List.replicate_succ,List.set_cons_zero,chg_take hk]
 simp
theorem ctcAt_end (l:List Chg):ctcAt l l.length=l.map (·.c):=by
 unfold ctcAt
 rw [Nat.sub_self,List.take_of_length_le (by rw [List.length_map]; omega)]
 simp

theorem qumay_long {l:List Chg} {la:Bool} {room:Int} (h:room < (l.length:Int)):quMay ⟨l,la⟩ room=false:=by
 rw [Bool.eq_false_iff]
 intro e
 have:=(quMay_iff.1 e).1
 simp only at this
 omega
theorem qumay_la {l:List Chg} {room:Int} (h:0 < l.length):quMay ⟨l,true⟩ room=false:=by
 rw [Bool.eq_false_iff]
 intro e
 have:=(quMay_iff.1 e).2.1 rfl
 simp only at this
 rw [this] at h
 simp at h
theorem qumay_one {l:List Chg} {la:Bool} {room:Int} {k:Nat} (hk:k < l.length) (h:quOne (l.getD k Chg.zero)=false):quMay ⟨l,la⟩ room=false:=by
 rw [Bool.eq_false_iff]
 intro e
 have:=(quMay_iff.1 e).2.2.1 _ (List.getElem_mem hk)
 rw [List.getD_eq_getElem?_getD,List.getElem?_eq_getElem hk] at h
 simp only [Option.getD_some] at h
 rw [h] at this
 cases this
theorem qumay_end {l:List Chg} {la:Bool} {room:Int} (h1:(l.length:Int)≤room) (h2:la=true→l=[]) (h3:∀ i,i < l.length→quOne (l.getD i Chg.zero)=true):quMay ⟨l,la⟩ room=decide (quNo2 l):=by
 rw [Bool.eq_iff_iff,quMay_iff,decide_eq_true_eq]
 refine ⟨fun h => h.2.2.2,fun h => ⟨h1,h2,fun c hc => ?_,h⟩⟩
 obtain⟨i,hi,rfl⟩:=List.getElem_of_mem hc
 have:=h3 i hi
 rwa [List.getD_eq_getElem?_getD,List.getElem?_eq_getElem hi] at this
theorem queach_any {w:World} {v:Value} {l:List Chg} (hv:Chgs w v l) (hl:l.length≤100) :
  Calls Tryz.prog 179 #[v] w fun e w' => e=.returned (.bool (decide (quNo2 l)))∧Below w.heap.size w w':=by
 have HV:=hZq hv
 obtain⟨a,cap,rfl,_⟩:=hv.open'
 obtain⟨r,hr⟩ : ∃ r,decide (quNo2 l)=r:=⟨_,rfl⟩
 rw [hr]
 have HRR:=hZq hr
 clear hv hr
 go_enter Tryz.func179,Tryz.ntmps179
 go_wp2_with (at_make; go_must (refine wpList_make_texts rfl _ _ rfl _ _ l.length rfl rfl (by omega) (by omega) (by omega) ?_))
 intro w1 h1 hb1 hz1
 have R1:Hid (RowT w1 w.heap.size (ctcAt l 0)):=by show RowT _ _ _; simpa [ctcAt] using h1
 have B1:=hZq hb1
 clear h1 hb1
 go_wp2_with fail
 go_loopw [11] (fun i wr => ∃ k:Nat,k≤l.length∧i=.int .i64 k∧Hid (RowT wr w.heap.size (ctcAt l k))∧Hid (Below w.heap.size w wr)∧w.heap.size < wr.heap.size) (fun i _ => l.length - (intOf i).toNat)
 case atStart => exact⟨0,by omega,rfl,R1,B1,hz1⟩
 case round =>
  clear R1 B1 hz1
  obtain⟨k,hk,rfl,HR,HN,hz⟩:=hrel
  by_cases hlt:k < l.length
  ·obtain⟨b,off,rfl,h0,h1,h2,h3,h4,h5⟩:=HV.out.row HN.out k hlt
   have HS:=HR.out.set k (l.getD k Chg.zero).c (by rw [ctcAt_len (by omega)]; exact hlt)
   rw [ctcAt_set hlt] at HS
   have hc0:=(HR.out k (by rw [ctcAt_len (by omega)]; exact hlt)).1
   have hf0:=(HR.out k (by rw [ctcAt_len (by omega)]; exact hlt)).2
   obtain⟨⟨c,o,⟨x,y,z,st⟩⟩,hr⟩ : ∃ r,l.getD k Chg.zero=r:=⟨_,rfl⟩
   rw [hr] at h0 h1 h2 h3 h4 h5 HS
   simp only at h0 h1 h2 h3 h4 h5 HS
   unfold encS at HS hc0
   have HS2:=hZq HS
   have HN2:Hid (Below w.heap.size w (wr.setCell ⟨w.heap.size,k,none⟩ (.string ⟨c.toArray⟩))):=HN.out.setCell (Nat.le_refl _) _
   have hz2:w.heap.size < (wr.setCell ⟨w.heap.size,k,none⟩ (.string ⟨c.toArray⟩)).heap.size:=by simpa using hz
   have HS3:=hZq (HS2.out.later hz2 ((Below.refl _ _).alloc (Nat.le_refl _) (.cells #[.string ⟨c.toArray⟩,.bool o,.int .i64 x,.int .i64 y,.int .i64 z,.string ⟨st.toArray⟩] 58)))
   have HN3:=hZq (bl_alloc HN2.out (.cells #[.string ⟨c.toArray⟩,.bool o,.int .i64 x,.int .i64 y,.int .i64 z,.string ⟨st.toArray⟩] 58))
   clear hr HS
   go_wp2_with fail
   go_roundw
   case rel => exact⟨k+1,by omega,by go_num,HS3,HN3,by simp; omega⟩
   case measure => simp [intOf]; omega
  ·obtain rfl:k=l.length:=by omega
   have HT:Hid (Texts wr (.slice (some ⟨w.heap.size,0,none⟩) l.length l.length) (l.map (·.c))):=by
    show Texts _ _ _
    have:=HR.out
    rw [ctcAt_end] at this
    have h2:=this.texts hz (by rw [List.length_map]; omega)
    rwa [List.length_map] at h2
   have HF:Hid (decide (((mrg (l.map (·.c) ++ [])).length:Int)=(l.length:Int))=r):=by
    show _=_
    rw [← HRR.out,List.append_nil,decide_eq_decide]
    have:=mrg_full (l.map (·.c))
    rw [List.length_map] at this
    unfold quNo2
    rw [← this]
    omega
   go_wp2_with fail
   refine (merge_any HT.out (texts_nil _) (by rw [List.length_map]; exact hl) (by simp)).mono ?_
   rintro e w2 ⟨u,rfl,ht,b2⟩
   obtain⟨au,cu,rfl⟩ : ∃ a c,u=.slice a (mrg (l.map (·.c) ++ [])).length c:=by
    obtain⟨a',c',e,_⟩:=ht
    exact⟨a',c',e⟩
   have HN2:=hZq (HN.out.trans (b2.mono HN.out.size))
   obtain⟨m,hm⟩ : ∃ m,(mrg (l.map (·.c) ++ [])).length=m:=⟨_,rfl⟩
   rw [hm] at HF
   try rw [hm]
   clear b2 ht hm
   have ht1:=HF.out
   have t2:(((m:Nat):Int) == (l.length:Int))=r:=by rw [← ht1]; rfl
   clear HF ht1
   go_wp2_with fail
   go_ret
   first | exact⟨rfl,HN2.out⟩ | exact⟨by rw [← t2]; rfl,HN2.out⟩

theorem qumay_1 {w:World} {v:Value} {l:List Chg} (hv:Chgs w v l) (la:Bool) {room:Int} (h:room < (l.length:Int)) :
  Calls Tryz.prog 157 #[.agg #[v,.bool la],.int .i64 room] w fun e w' => e=.returned (.bool false)∧Below w.heap.size w w':=by
 obtain⟨ao,cap,rfl,hmx⟩:=hv.open'
 have b0:=bl_newZ w (.cells #[.slice ao l.length cap,.bool la] 49)
 have HV:=hZq (hv.later b0)
 have HB:=hZq b0
 have HQ:=hZq ((MapKept.heap_alloc w (.cells #[.slice ao l.length cap,.bool la] 49)).1)
 clear hv b0
 have t1:decide (room < (l.length:Int))=true:=decide_eq_true h
 go_enter Tryz.func157,Tryz.ntmps157
 go_wp2_with fail
 go_ret
 exact⟨rfl,HB.out⟩

theorem qumay_2 {w:World} {v:Value} {l:List Chg} (hv:Chgs w v l) {room:Int} (h:¬ room < (l.length:Int)) (h0:0 < l.length) :
  Calls Tryz.prog 157 #[.agg #[v,.bool true],.int .i64 room] w fun e w' => e=.returned (.bool false)∧Below w.heap.size w w':=by
 obtain⟨ao,cap,rfl,hmx⟩:=hv.open'
 have b0:=bl_newZ w (.cells #[.slice ao l.length cap,.bool true] 49)
 have HV:=hZq (hv.later b0)
 have HB:=hZq b0
 have HQ:=hZq ((MapKept.heap_alloc w (.cells #[.slice ao l.length cap,.bool true] 49)).1)
 clear hv b0
 have t1:decide (room < (l.length:Int))=false:=decide_eq_false h
 have t2:decide ((0:Int) < (l.length:Int))=true:=decide_eq_true (by omega)
 have t3:decide (0 < l.length)=true:=decide_eq_true h0
 clear h
 go_enter Tryz.func157,Tryz.ntmps157
 go_wp2_with fail
 go_ret
 exact⟨rfl,HB.out⟩

theorem qumay_3 {w:World} {v:Value} {l:List Chg} (hv:Chgs w v l) (hs:ShortC l) (hl:l.length≤100) {room:Int} (h:¬ room < (l.length:Int)) :
  Calls Tryz.prog 157 #[.agg #[v,.bool false],.int .i64 room] w fun e w' => e=.returned (.bool (quMay ⟨l,false⟩ room))∧Below w.heap.size w w':=by
 obtain⟨ao,cap,rfl,hmx⟩:=hv.open'
 have b0:=bl_newZ w (.cells #[.slice ao l.length cap,.bool false] 49)
 have HV:=hZq (hv.later b0)
 have HB:=hZq b0
 have HQ:=hZq ((MapKept.heap_alloc w (.cells #[.slice ao l.length cap,.bool false] 49)).1)
 clear hv b0
 have t1:decide (room < (l.length:Int))=false:=decide_eq_false h
 have HR:Hid ((l.length:Int)≤room):=hZq (by omega)
 have HS:=hZq hs
 clear h hs
 go_enter Tryz.func157,Tryz.ntmps157
 go_wp2_with fail
 clear t1
 go_loopw [25] (fun i wr => ∃ k:Nat,k≤l.length∧i=.int .i64 k∧Hid (Below (w.alloc (.cells #[.slice ao l.length cap,.bool false] 49)).heap.size (w.alloc (.cells #[.slice ao l.length cap,.bool false] 49)) wr)∧Hid (∀ i,i < k→quOne (l.getD i Chg.zero)=true)) (fun i _ => l.length - (intOf i).toNat)
 case atStart => exact⟨0,by omega,rfl,Below.refl _ _,fun i hi => by omega⟩
 case round =>
  obtain⟨k,hk,rfl,HN,HA⟩:=hrel
  by_cases hlt:k < l.length
  ·obtain⟨b,off,rfl,h0,h1,h2,h3,h4,h5⟩:=HV.out.row HN.out k hlt
   have hx:=(HN.out.block w.heap.size (by simp)).trans HQ.out
   have q0:=cell_of_row wr w.heap.size 0 _ _ (0,0) hx
   have q1:=cell_of_row wr w.heap.size 1 _ _ (0,0) hx
   try simp only at q0 q1
   obtain⟨hl1,hl2⟩:=HS.out.get hlt
   obtain⟨⟨c,o,⟨x,y,z,st⟩⟩,hr⟩ : ∃ r,l.getD k Chg.zero=r:=⟨_,rfl⟩
   rw [hr] at h0 h1 h2 h3 h4 h5 hl1 hl2
   simp only at h0 h1 h2 h3 h4 h5 hl1 hl2
   have HRr:=hZq hr
   clear hr
   cases hone:quOne ⟨c,o,⟨x,y,z,st⟩⟩ with
   | false =>
    have HF:Hid (quMay ⟨l,false⟩ room=false):=qumay_one hlt (by rw [HRr.out]; exact hone)
    have H1:=hZq hone
    clear hone
    go_wp2_with fail
    refine (quone_any c st o x y z hl1 hl2 H1 _).mono ?_
    rintro e w2 ⟨rfl,b2⟩
    have HN2:=hZq ((below2Z HN.out (bl_newZ wr (.cells #[.string ⟨c.toArray⟩,.bool o,.int .i64 x,.int .i64 y,.int .i64 z,.string ⟨st.toArray⟩] 58))).trans (b2.mono (Nat.le_trans HN.out.size (by simp))))
    clear b2
    go_wp2_with fail
    go_ret
    exact⟨by rw [HF.out]; rfl,below2Z HB.out HN2.out⟩
   | true =>
    have H1:=hZq hone
    have HA2:Hid (∀ i,i < k+1→quOne (l.getD i Chg.zero)=true):=hZq fun i hi => by
     rcases Nat.lt_or_eq_of_le (Nat.le_of_lt_succ hi) with h | h
     ·exact HA.out i h
     ·subst h; rw [HRr.out]; exact hone
    clear hone
    go_wp2_with fail
    refine (quone_any c st o x y z hl1 hl2 H1 _).mono ?_
    rintro e w2 ⟨rfl,b2⟩
    have HN2:=hZq ((below2Z HN.out (bl_newZ wr (.cells #[.string ⟨c.toArray⟩,.bool o,.int .i64 x,.int .i64 y,.int .i64 z,.string ⟨st.toArray⟩] 58))).trans (b2.mono (Nat.le_trans HN.out.size (by simp))))
    clear b2
    go_wp2_with fail
    go_roundw
    case rel => exact⟨k+1,by omega,by go_num,HN2,HA2⟩
    case measure => simp [intOf]; omega
  ·obtain rfl:k=l.length:=by omega
   have hx:=(HN.out.block w.heap.size (by simp)).trans HQ.out
   have q0:=cell_of_row wr w.heap.size 0 _ _ (0,0) hx
   have q1:=cell_of_row wr w.heap.size 1 _ _ (0,0) hx
   try simp only at q0 q1
   have HF:Hid (quMay ⟨l,false⟩ room=decide (quNo2 l)):=qumay_end HR.out (fun e => by cases e) HA.out
   go_wp2_with fail
   refine (queach_any (HV.out.later HN.out) hl).mono ?_
   rintro e w2 ⟨rfl,b2⟩
   have HN2:=hZq (HN.out.trans (b2.mono HN.out.size))
   clear b2
   go_wp2_with fail
   go_ret
   exact⟨by rw [HF.out]; rfl,below2Z HB.out HN2.out⟩

theorem qumay_4 {w:World} {v:Value} {l:List Chg} (hv:Chgs w v l) (hs:ShortC l) (hl:l.length≤100) {room:Int} (h:¬ room < (l.length:Int)) (h0:l=[]) :
  Calls Tryz.prog 157 #[.agg #[v,.bool true],.int .i64 room] w fun e w' => e=.returned (.bool (quMay ⟨l,true⟩ room))∧Below w.heap.size w w':=by
 obtain⟨ao,cap,rfl,hmx⟩:=hv.open'
 have b0:=bl_newZ w (.cells #[.slice ao l.length cap,.bool true] 49)
 have HV:=hZq (hv.later b0)
 have HB:=hZq b0
 have HQ:=hZq ((MapKept.heap_alloc w (.cells #[.slice ao l.length cap,.bool true] 49)).1)
 clear hv b0
 have t1:decide (room < (l.length:Int))=false:=decide_eq_false h
 have t2:decide ((0:Int) < (l.length:Int))=false:=decide_eq_false (by rw [h0]; simp)
 have t3:decide (0 < l.length)=false:=decide_eq_false (by rw [h0]; simp)
 have HE:=hZq h0
 clear h0
 have HR:Hid ((l.length:Int)≤room):=hZq (by omega)
 have HS:=hZq hs
 clear h hs
 go_enter Tryz.func157,Tryz.ntmps157
 go_wp2_with fail
 clear t1 t2 t3
 go_loopw [25] (fun i wr => ∃ k:Nat,k≤l.length∧i=.int .i64 k∧Hid (Below (w.alloc (.cells #[.slice ao l.length cap,.bool true] 49)).heap.size (w.alloc (.cells #[.slice ao l.length cap,.bool true] 49)) wr)∧Hid (∀ i,i < k→quOne (l.getD i Chg.zero)=true)) (fun i _ => l.length - (intOf i).toNat)
 case atStart => exact⟨0,by omega,rfl,Below.refl _ _,fun i hi => by omega⟩
 case round =>
  obtain⟨k,hk,rfl,HN,HA⟩:=hrel
  by_cases hlt:k < l.length
  ·obtain⟨b,off,rfl,h0,h1,h2,h3,h4,h5⟩:=HV.out.row HN.out k hlt
   have hx:=(HN.out.block w.heap.size (by simp)).trans HQ.out
   have q0:=cell_of_row wr w.heap.size 0 _ _ (0,0) hx
   have q1:=cell_of_row wr w.heap.size 1 _ _ (0,0) hx
   try simp only at q0 q1
   obtain⟨hl1,hl2⟩:=HS.out.get hlt
   obtain⟨⟨c,o,⟨x,y,z,st⟩⟩,hr⟩ : ∃ r,l.getD k Chg.zero=r:=⟨_,rfl⟩
   rw [hr] at h0 h1 h2 h3 h4 h5 hl1 hl2
   simp only at h0 h1 h2 h3 h4 h5 hl1 hl2
   have HRr:=hZq hr
   clear hr
   cases hone:quOne ⟨c,o,⟨x,y,z,st⟩⟩ with
   | false =>
    have HF:Hid (quMay ⟨l,true⟩ room=false):=qumay_one hlt (by rw [HRr.out]; exact hone)
    have H1:=hZq hone
    clear hone
    go_wp2_with fail
    refine (quone_any c st o x y z hl1 hl2 H1 _).mono ?_
    rintro e w2 ⟨rfl,b2⟩
    have HN2:=hZq ((below2Z HN.out (bl_newZ wr (.cells #[.string ⟨c.toArray⟩,.bool o,.int .i64 x,.int .i64 y,.int .i64 z,.string ⟨st.toArray⟩] 58))).trans (b2.mono (Nat.le_trans HN.out.size (by simp))))
    clear b2
    go_wp2_with fail
    go_ret
    exact⟨by rw [HF.out]; rfl,below2Z HB.out HN2.out⟩
   | true =>
    have H1:=hZq hone
    have HA2:Hid (∀ i,i < k+1→quOne (l.getD i Chg.zero)=true):=hZq fun i hi => by
     rcases Nat.lt_or_eq_of_le (Nat.le_of_lt_succ hi) with h | h
     ·exact HA.out i h
     ·subst h; rw [HRr.out]; exact hone
    clear hone
    go_wp2_with fail
    refine (quone_any c st o x y z hl1 hl2 H1 _).mono ?_
    rintro e w2 ⟨rfl,b2⟩
    have HN2:=hZq ((below2Z HN.out (bl_newZ wr (.cells #[.string ⟨c.toArray⟩,.bool o,.int .i64 x,.int .i64 y,.int .i64 z,.string ⟨st.toArray⟩] 58))).trans (b2.mono (Nat.le_trans HN.out.size (by simp))))
    clear b2
    go_wp2_with fail
    go_roundw
    case rel => exact⟨k+1,by omega,by go_num,HN2,HA2⟩
    case measure => simp [intOf]; omega
  ·obtain rfl:k=l.length:=by omega
   have hx:=(HN.out.block w.heap.size (by simp)).trans HQ.out
   have q0:=cell_of_row wr w.heap.size 0 _ _ (0,0) hx
   have q1:=cell_of_row wr w.heap.size 1 _ _ (0,0) hx
   try simp only at q0 q1
   have HF:Hid (quMay ⟨l,true⟩ room=decide (quNo2 l)):=qumay_end HR.out (fun _ => HE.out) HA.out
   go_wp2_with fail
   refine (queach_any (HV.out.later HN.out) hl).mono ?_
   rintro e w2 ⟨rfl,b2⟩
   have HN2:=hZq (HN.out.trans (b2.mono HN.out.size))
   clear b2
   go_wp2_with fail
   go_ret
   exact⟨by rw [HF.out]; rfl,below2Z HB.out HN2.out⟩

theorem qumay_any {w:World} {v:Value} {l:List Chg} (hv:Chgs w v l) (hs:ShortC l) (hl:l.length≤100) (la:Bool) {room:Int} {r:Bool} (h:Hid (quMay ⟨l,la⟩ room=r)) :
  Calls Tryz.prog 157 #[.agg #[v,.bool la],.int .i64 room] w fun e w' => e=.returned (.bool r)∧Below w.heap.size w w':=by
 rw [← h.out]
 by_cases h1:room < (l.length:Int)
 ·rw [qumay_long h1]
  exact qumay_1 hv la h1
 ·cases la with
  | false => exact qumay_3 hv hs hl h1
  | true =>
   by_cases h0:0 < l.length
   ·rw [qumay_la h0]
    exact qumay_2 hv h1 h0
   ·exact qumay_4 hv hs hl h1 (List.length_eq_zero_iff.1 (by omega))

theorem quempty_any {w:World} {v:Value} {l:List Chg} (hv:Chgs w v l) (la:Bool) {r:Bool} (h:Hid (quEmpty ⟨l,la⟩=r)) :
  Calls Tryz.prog 75 #[.agg #[v,.bool la]] w fun e w' => e=.returned (.bool r)∧Below w.heap.size w w':=by
 obtain⟨ao,cap,rfl,hmx⟩:=hv.open'
 have h:=h.out
 unfold quEmpty at h
 simp only at h
 have HB:=hZq (bl_newZ w (.cells #[.slice ao l.length cap,.bool la] 49))
 by_cases h0:l.length=0
 ·have t1:((l.length:Int) == 0)=true:=by rw [h0]; rfl
  rw [decide_eq_true h0,Bool.true_and] at h
  subst h
  clear h0 hv
  go_enter Tryz.func75,Tryz.ntmps75
  go_wp2_with fail
  go_ret
  exact⟨rfl,HB.out⟩
 ·have t1:((l.length:Int) == 0)=false:=by rw [beq_eq_false_iff_ne]; omega
  rw [decide_eq_false h0,Bool.false_and] at h
  subst h
  clear h0 hv
  go_enter Tryz.func75,Tryz.ntmps75
  go_wp2_with fail
  go_ret
  exact⟨rfl,HB.out⟩

end Go.Proofs.YtekkofldhhdpgaaGreat
