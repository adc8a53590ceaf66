/-
 TEXTS OF THE PROOF, one behind the other: DigRset.
-/
import Derived.Test.YtekkofldhhdpgaaGreatC08
import Derived.Test.YtekkofldhhdpgaaGreatC06
import Derived.Test.YtekkofldhhdpgaaGreatC09

set_option maxHeartbeats 12800000
set_option maxRecDepth 100000

namespace Go.Proofs.YtekkofldhhdpgaaGreat
open Go.RowKit

theorem rest_in {t:List Row} {k:Nat} (h:k < t.length) {x:List UInt8} (hc:¬ (t.getD k Row.zero).c=x):diRest (t.take (k+1)) x=diRest (t.take k) x ++ [t.getD k Row.zero]:=by
 have h1:((t.getD k Row.zero).c == x)=false:=by simpa using hc
 rw [List.take_succ_eq_append_getElem h,row_get h]
 unfold diRest
 rw [List.filter_append,List.filter_cons_of_pos (by simp only [h1]; rfl),List.filter_nil]

theorem rest_out {t:List Row} {k:Nat} (h:k < t.length) {x:List UInt8} (hc:(t.getD k Row.zero).c=x):diRest (t.take (k+1)) x=diRest (t.take k) x:=by
 have h1:((t.getD k Row.zero).c == x)=true:=by simpa using hc
 rw [List.take_succ_eq_append_getElem h,row_get h]
 unfold diRest
 rw [List.filter_append,List.filter_cons_of_neg (by simp only [h1]; decide),List.filter_nil,List.append_nil]

theorem plc_yes {t:List Row} {x:List UInt8} {k:Nat} (h:idLess (t.getD k Row.zero).c x=true):plc t x (k+1)=k+1:=by rw [plc,if_pos h]
theorem plc_no {t:List Row} {x:List UInt8} {k:Nat} (h:idLess (t.getD k Row.zero).c x=false):plc t x (k+1)=plc t x k:=by rw [plc,if_neg (by rw [h]; decide)]

set_option maxRecDepth 1000000 in
theorem rset_any {w:World} {v:Value} {t:List Row} (hv:Tab w v t) (hl:t.length≤1000) (c:Chg) :
  Calls Tryz.prog 30 #[v,chgAgg c] w fun e w' => ∃ u,e=.returned u∧OwnR w' w.heap.size u (diSet t c)∧Below w.heap.size w w':=by
 obtain⟨x,on,sh,pr,si,st⟩:=c
 have HV:=hZq (hv.later ((Below.refl _ _).alloc (Nat.le_refl _) (.cells #[.string ⟨x.toArray⟩,.bool on,.int .i64 sh,.int .i64 pr,.int .i64 si,.string ⟨st.toArray⟩] 58)))
 obtain⟨a,cap,rfl,hm⟩:=hv.open'
 unfold chgAgg
 obtain⟨k0,k1,k2,k3,k4,k5⟩:=six_cells w (.string ⟨x.toArray⟩) (.bool on) (.int .i64 sh) (.int .i64 pr) (.int .i64 si) (.string ⟨st.toArray⟩) 58
 have K0:=hZq k0
 have K1:=hZq k1
 have K2:=hZq k2
 have K3:=hZq k3
 have K4:=hZq k4
 have K5:=hZq k5
 have hz0:Hid ((w.alloc (.cells #[.string ⟨x.toArray⟩,.bool on,.int .i64 sh,.int .i64 pr,.int .i64 si,.string ⟨st.toArray⟩] 58)).heap.size=w.heap.size+1):=hZq (by simp)
 have BW:Hid (Below w.heap.size w (w.alloc (.cells #[.string ⟨x.toArray⟩,.bool on,.int .i64 sh,.int .i64 pr,.int .i64 si,.string ⟨st.toArray⟩] 58))):=(Below.refl _ _).alloc (Nat.le_refl _) _
 obtain⟨W0,hW0⟩ : ∃ W0,W0=w.alloc (.cells #[.string ⟨x.toArray⟩,.bool on,.int .i64 sh,.int .i64 pr,.int .i64 si,.string ⟨st.toArray⟩] 58):=⟨_,rfl⟩
 rw [← hW0] at HV K0 K1 K2 K3 K4 K5 hz0 BW
 clear hv k0 k1 k2 k3 k4 k5
 go_enter Tryz.func30,Tryz.ntmps30
 go_wp2_with fail
 rw [← hW0]
 clear hW0
 go_loopw [5,6] (fun s i wr => ∃ k:Nat,k≤t.length∧i=.int .i64 k∧Hid (OwnR wr W0.heap.size s (diRest (t.take k) x))∧Hid (Below W0.heap.size W0 wr)) (fun _ i _ => t.length - (intOf i).toNat)
 case atStart => exact⟨0,by omega,rfl,ownR_nil _ _,Below.refl _ _⟩
 case round =>
  obtain⟨k,hk,rfl,HO,HN⟩:=hrel
  by_cases hlt:k < t.length
  ·obtain⟨b,off,rfl,h0,h1,h2,h3,h4⟩:=HV.out.row HN.out k hlt
   have kx:=cell_later K0.out HN.out
   obtain⟨⟨c,⟨x1,y1,z1,s1⟩⟩,hr⟩ : ∃ r,t.getD k Row.zero=r:=⟨_,rfl⟩
   have hri:=rest_in hlt (x:=x)
   have hro:=rest_out hlt (x:=x)
   rw [hr] at h0 h1 h2 h3 h4 hri hro
   simp only at h0 h1 h2 h3 h4 hri hro
   have hrl:(diRest (t.take k) x).length≤1000:=by have:=diRest_len (t.take k) x; rw [List.length_take] at this; omega
   by_cases hc:c=x
   ·have HX:=hZq (hro hc)
    subst hc
    clear hri hro hr
    go_wp2_with fail
    go_region
    go_wp2_with fail
    go_roundw
    case rel => exact⟨k+1,by omega,by go_num,by rw [HX.out]; exact HO.out.drew,HN.out.drew⟩
    case measure => simp [intOf]; omega
   ·have HX:=hZq (hri hc)
    have t1:(c == x)=false:=by simpa using hc
    have t2:(c != x)=true:=by simpa using hc
    clear hri hro hr hc
    have O2:=hZq (HO.out.drew.alloc (.cells #[.string ⟨c.toArray⟩,.int .i64 x1,.int .i64 y1,.int .i64 z1,.string ⟨s1.toArray⟩] 93))
    have N2:=hZq (bl_alloc HN.out.drew (.cells #[.string ⟨c.toArray⟩,.int .i64 x1,.int .i64 y1,.int .i64 z1,.string ⟨s1.toArray⟩] 93))
    have hz3:=N2.out.size
    clear HO
    go_wp2_with fail
    go_region
    go_wp2_with (at_builtin; go_must (refine wpList_append_rows rfl _ _ rfl W0.heap.size _ (diRest (t.take k) x) rfl (by exact O2.out) _ 1 1 [⟨c,x1,y1,z1,s1⟩] rfl rfl (fun e => nomatch e) ?c1 (by simp only [List.length_cons,List.length_nil]; omega) hz3 ?_))
    case c1 => exact new_row (by simp)
    intro v' w' hown' hb'
    rw [← HX.out] at hown'
    have O3:=hZq hown'
    have N3:=hZq (N2.out.trans hb')
    clear hown' hb' O2 h0 h1 h2 h3 h4
    go_wp2_with fail
    go_roundw
    case rel => exact⟨k+1,by omega,by go_num,O3,N3⟩
    case measure => simp [intOf]; omega
  ·obtain rfl:k=t.length:=by omega
   have ho:=HO.out
   rw [List.take_length] at ho
   have O1:=hZq ho
   have kx:=cell_later K0.out HN.out
   have ko:=cell_later K1.out HN.out
   clear ho HO hlt hk
   obtain⟨R,hR⟩ : ∃ R,diRest t x=R:=⟨_,rfl⟩
   have hRl:=diRest_len t x
   rw [hR] at O1 hRl
   have Bw:=hZq (BW.out.trans (HN.out.mono (by rw [hz0.out]; omega)))
   cases on with
   | false =>
    have HE:Hid (diSet t ⟨x,false,⟨sh,pr,si,st⟩⟩=R):=by show _=_; rw [← hR]; exact diSet_off rfl
    go_wp2_with fail
    go_ret
    exact⟨_,rfl,by rw [HE.out]; exact ownR_low O1.out (by rw [hz0.out]; omega),Bw.out⟩
   | true =>
    have HE:Hid (diSet t ⟨x,true,⟨sh,pr,si,st⟩⟩=put1 R (plc R x R.length) ⟨x,⟨sh,pr,si,st⟩⟩):=by show _=_; rw [← hR]; exact diSet_on rfl
    have k2:=hZq (cell_later K2.out HN.out)
    have k3:=hZq (cell_later K3.out HN.out)
    have k4:=hZq (cell_later K4.out HN.out)
    have k5:=hZq (cell_later K5.out HN.out)
    have kx':=hZq kx
    clear hR HV BW K0 K1 K2 K3 K4 K5 HN
    obtain⟨w1,hw1⟩ : ∃ w1,w1=wr:=⟨_,rfl⟩
    subst hw1
    obtain⟨ao,cap2,rfl,hRm⟩:=O1.out.tab.open'
    clear hm kx'
    go_wp2_with fail
    go_loopw [7,8] (fun at' i w2 => ∃ k:Nat,k≤R.length∧i=.int .i64 k∧at'=.int .i64 (plc R x k)∧Hid (Below w1.heap.size w1 w2)) (fun _ i _ => R.length - (intOf i).toNat)
    case atStart => exact⟨0,by omega,rfl,rfl,Below.refl _ _⟩
    case round =>
     obtain⟨k,hk,rfl,rfl,HN⟩:=hrel
     by_cases hlt:k < R.length
     ·obtain⟨b,off,rfl,h0,h1,h2,h3,h4⟩:=O1.out.tab.row HN.out k hlt
      have kx2:=cell_later kx HN.out
      obtain⟨yy,hy⟩ : ∃ yy,(R.getD k Row.zero).c=yy:=⟨_,rfl⟩
      rw [hy] at h0
      have g0:=cell_regrown h0
      have g1:=cell_regrown kx2
      cases hle:idLess yy x with
      | false =>
       have HP:Hid (plc R x (k+1)=plc R x k):=by show _=_; exact plc_no (by rw [hy]; exact hle)
       have HLe:=hZq (rless_eq yy x (r:=false) (hZq hle))
       clear hle hy h0 h1 h2 h3 h4
       go_wp2_with fail
       refine wp_region_quiet_below (by kernel_rfl) (by kernel_rfl) ?_
       repeat (go_big_quiet_step (with_reducible exact rgS HLe.out _ _ _))
       refine wpQuiet_nil ?_
       intro w5 hw5
       have N5:=hZq (below2' HN.out (regrown_belowD hw5))
       clear hw5 g0 g1
       go_wp2_with fail
       go_roundw
       case rel => exact⟨k+1,by omega,by go_num,by rw [HP.out],N5⟩
       case measure => simp [intOf]; omega
      | true =>
       have HP:Hid (plc R x (k+1)=k+1):=by show _=_; exact plc_yes (by rw [hy]; exact hle)
       have HLe:=hZq (rless_eq yy x (r:=true) (hZq hle))
       clear hle hy h0 h1 h2 h3 h4
       go_wp2_with fail
       refine wp_region_quiet_below (by kernel_rfl) (by kernel_rfl) ?_
       repeat (go_big_quiet_step (with_reducible exact rgS HLe.out _ _ _))
       refine wpQuiet_nil ?_
       intro w5 hw5
       have N5:=hZq (below2' HN.out (regrown_belowD hw5))
       clear hw5 g0 g1
       go_wp2_with fail
       go_roundw
       case rel => exact⟨k+1,by omega,by go_num,by rw [HP.out]; go_num,N5⟩
       case measure => simp [intOf]; omega
     ·obtain rfl:k=R.length:=by omega
      have hP:=plc_le R x R.length
      obtain⟨P,hPe⟩ : ∃ P,plc R x R.length=P:=⟨_,rfl⟩
      rw [hPe] at HE hP ⊢
      have O2:=hZq (O1.out.later HN.out)
      have kx2:=hZq (cell_later kx HN.out)
      have n2:=hZq (cell_later k2.out HN.out)
      have n3:=hZq (cell_later k3.out HN.out)
      have n4:=hZq (cell_later k4.out HN.out)
      have n5:=hZq (cell_later k5.out HN.out)
      have B2:=hZq (below2' Bw.out HN.out)
      have hPn:(P:Int)≤(R.length:Int):=by omega
      have hF:Hid (R.take P ++ [(⟨x,⟨sh,pr,si,st⟩⟩ : Row)] ++ R.drop P=put1 R P ⟨x,⟨sh,pr,si,st⟩⟩):=by show _=_; unfold put1; rw [List.append_assoc]
      clear hPe HN Bw O1 kx k2 k3 k4 k5 ko hlt hk
      rcases O2.out.2 with ⟨hn,h0⟩ | ⟨g,cap',cur,hn,_,_,hnc,hcm,_⟩
      ·simp only [Value.slice.injEq] at hn
       obtain⟨rfl,_,rfl⟩:=hn
       obtain rfl:R=[]:=List.length_eq_zero_iff.1 h0
       obtain rfl:P=0:=by simpa using hP
       clear h0
       go_wp2_with (at_builtin; go_must (refine wpList_append_rows rfl _ _ rfl wr.heap.size _ [] rfl (by exact ownR_made wr) none 0 0 [] rfl rfl (fun e => ⟨rfl,rfl⟩) (fun ad had => nomatch had) (by simp) (by simp) ?_))
       intro v3 w3 h3 hb3
       have C3:Hid (Below wr.heap.size wr w3):=((Below.refl _ _).alloc (Nat.le_refl _) _).trans hb3
       have kx3:=cell_later kx2.out C3.out
       have n23:=cell_later n2.out C3.out
       have n33:=cell_later n3.out C3.out
       have n43:=cell_later n4.out C3.out
       have n53:=cell_later n5.out C3.out
       have hz3:=hZq C3.out.size
       have O4:=hZq (h3.alloc (.cells #[.string ⟨x.toArray⟩,.int .i64 sh,.int .i64 pr,.int .i64 si,.string ⟨st.toArray⟩] 93))
       clear h3 hb3
       go_wp2_with (at_builtin; go_must (refine wpList_append_rows rfl _ _ rfl wr.heap.size _ ([] ++ []) rfl (by exact O4.out) _ 1 1 [⟨x,⟨sh,pr,si,st⟩⟩] rfl rfl (fun e => nomatch e) ?c2 (by simp) (by have:=hz3.out; simp; omega) ?_))
       case c2 => exact new_row (by simp)
       intro v4 w4 h4 hb4
       have C4:Hid (Below wr.heap.size wr w4):=(bl_alloc C3.out _).trans hb4
       have O5:=hZq h4
       have hz4:=hZq C4.out.size
       clear h4 hb4 O4 kx3 n23 n33 n43 n53
       go_wp2_with (at_builtin; go_must (refine wpList_append_rows rfl _ _ rfl wr.heap.size _ ([] ++ [] ++ [⟨x,⟨sh,pr,si,st⟩⟩]) rfl (by exact O5.out) none 0 0 [] rfl rfl (fun e => ⟨rfl,rfl⟩) (fun ad had => nomatch had) (by simp) hz4.out ?_))
       intro v5 w5 h5 hb5
       have O6:Hid (OwnR w5 wr.heap.size v5 (put1 [] 0 ⟨x,⟨sh,pr,si,st⟩⟩)):=hZq (by simpa [put1] using h5)
       have B6:=hZq (below2' B2.out ((C4.out.trans hb5)))
       clear h5 hb5
       go_wp2_with fail
       go_ret
       exact⟨_,rfl,by rw [HE.out]; exact ownR_low O6.out B2.out.size,B6.out⟩
      ·unfold maxLen at hcm
       simp only [Value.slice.injEq,true_and] at hn
       obtain⟨rfl,rfl⟩:=hn
       have S1:=hZq ((O2.out.alloc (.cells #[] 93)).src 0 P (by omega))
       have hl1:(R.take P).length=P:=by rw [List.length_take]; omega
       have hPc:P≤cap2:=by omega
       go_wp2_with (at_builtin; go_must (refine wpList_append_rows rfl _ _ rfl wr.heap.size _ [] rfl (by exact ownR_made wr) (some ⟨g,0,none⟩) P cap2 (R.take P) rfl hl1.symm (fun e => nomatch e) ?c1 (by simp only [List.length_nil,hl1]; omega) (by simp) ?_))
       case c1 => intro ad had; obtain rfl:=Option.some.inj had; have:=S1.out; rw [Nat.zero_mul,List.drop_zero] at this; exact this
       intro v3 w3 h3 hb3
       have O3:=hZq h3
       have C3:Hid (Below wr.heap.size wr w3):=((Below.refl _ _).alloc (Nat.le_refl _) _).trans hb3
       have kx3:=cell_later kx2.out C3.out
       have n23:=cell_later n2.out C3.out
       have n33:=cell_later n3.out C3.out
       have n43:=cell_later n4.out C3.out
       have n53:=cell_later n5.out C3.out
       have hz3:=hZq C3.out.size
       have O4:=hZq (h3.alloc (.cells #[.string ⟨x.toArray⟩,.int .i64 sh,.int .i64 pr,.int .i64 si,.string ⟨st.toArray⟩] 93))
       clear h3 hb3 S1 O3
       go_wp2_with (at_builtin; go_must (refine wpList_append_rows rfl _ _ rfl wr.heap.size _ ([] ++ R.take P) rfl (by exact O4.out) _ 1 1 [⟨x,⟨sh,pr,si,st⟩⟩] rfl rfl (fun e => nomatch e) ?c2 (by simp only [List.nil_append,List.length_cons,List.length_nil,hl1]; omega) (by have:=hz3.out; simp; omega) ?_))
       case c2 => exact new_row (by simp)
       intro v4 w4 h4 hb4
       have C4:Hid (Below wr.heap.size wr w4):=(bl_alloc C3.out _).trans hb4
       have O5:=hZq h4
       clear h4 hb4 O4 kx3 n23 n33 n43 n53
       have hz4:=hZq C4.out.size
       have S4:=hZq ((O2.out.later C4.out).src P (R.length - P) (by omega))
       have hl2:((R.drop P).take (R.length - P)).length=R.length - P:=by rw [List.length_take,List.length_drop]; omega
       have e2:(R.drop P).take (R.length - P)=R.drop P:=List.take_of_length_le (by rw [List.length_drop]; omega)
       rw [e2] at S4 hl2
       have hF2:Hid ([] ++ R.take P ++ [(⟨x,⟨sh,pr,si,st⟩⟩ : Row)] ++ R.drop P=put1 R P ⟨x,⟨sh,pr,si,st⟩⟩):=by show _=_; rw [List.nil_append]; exact hF.out
       have hlen4:([] ++ R.take P ++ [(⟨x,⟨sh,pr,si,st⟩⟩ : Row)]).length=P+1:=by simp only [List.nil_append,List.length_append,List.length_cons,List.length_nil,hl1]
       clear e2
       by_cases hcP:cap2=P
       ·have h00:R.length - P=0:=by omega
        have hd0:R.drop P=[]:=List.drop_of_length_le (by omega)
        rw [hd0] at hF2
        obtain rfl:P=R.length:=by omega
        subst hcP
        go_wp2_with (at_builtin; go_must (refine wpList_append_rows rfl _ _ rfl wr.heap.size _ ([] ++ R.take R.length ++ [⟨x,⟨sh,pr,si,st⟩⟩]) rfl (by exact O5.out) (some ⟨g,0,none⟩) 0 0 [] rfl rfl (fun e => nomatch e) ?c3 (by rw [hlen4]; simp only [List.length_nil]; omega) hz4.out ?_))
        case c3 => intro ad had j u hu; simp [cellsOf] at hu
        intro v5 w5 h5 hb5
        have O6:Hid (OwnR w5 wr.heap.size v5 (put1 R R.length ⟨x,⟨sh,pr,si,st⟩⟩)):=hZq (by rw [← hF2.out]; simpa using h5)
        have B6:=hZq (below2' B2.out ((C4.out.trans hb5)))
        clear h5 hb5
        go_wp2_with fail
        go_ret
        exact⟨_,rfl,by rw [HE.out]; exact ownR_low O6.out B2.out.size,B6.out⟩
       ·go_wp2_with (at_builtin; go_must (refine wpList_append_rows rfl _ _ rfl wr.heap.size _ ([] ++ R.take P ++ [⟨x,⟨sh,pr,si,st⟩⟩]) rfl (by exact O5.out) (some ⟨g,P * 5,none⟩) (R.length - P) (cap2 - P) (R.drop P) rfl hl2.symm (fun e => nomatch e) ?c3 (by rw [hlen4,List.length_drop]; omega) hz4.out ?_))
        case c3 => intro ad had; obtain rfl:=Option.some.inj had; exact S4.out
        intro v5 w5 h5 hb5
        have O6:Hid (OwnR w5 wr.heap.size v5 (put1 R P ⟨x,⟨sh,pr,si,st⟩⟩)):=hZq (by rw [← hF2.out]; simpa using h5)
        have B6:=hZq (below2' B2.out ((C4.out.trans hb5)))
        clear h5 hb5
        go_wp2_with fail
        go_ret
        exact⟨_,rfl,by rw [HE.out]; exact ownR_low O6.out B2.out.size,B6.out⟩

end Go.Proofs.YtekkofldhhdpgaaGreat
