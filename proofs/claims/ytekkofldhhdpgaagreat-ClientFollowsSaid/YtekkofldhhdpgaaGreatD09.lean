/-
 TEXTS OF THE PROOF, one behind the other: DigDel, DigWithout, DigIns, DigInsR, DigSet.
-/
import Derived.Test.YtekkofldhhdpgaaGreatD08
import Derived.WalkSpells
import Derived.Laws.Externs

set_option maxHeartbeats 12800000
set_option maxRecDepth 100000

section

namespace Go.Proofs.YtekkofldhhdpgaaGreat
open Go.RowKit

theorem del_any {w:World} {B:Nat} {key:List UInt8} (hk:w.cell? ⟨B,0,none⟩=some (.string ⟨key.toArray⟩)) (c st:List UInt8) (x y z:Int) :
  Calls Tryz.prog 182 #[.agg #[.string ⟨c.toArray⟩,.int .i64 x,.int .i64 y,.int .i64 z,.string ⟨st.toArray⟩],.pointer (some ⟨B,0,none⟩)] w fun e w' => e=.returned (.bool (c == key))∧Below w.heap.size w w':=by
 have hB:=World.block_lt_of_cell? w _ hk
 simp only at hB
 go_enter Tryz.func182,Tryz.ntmps182
 go_wp2_with fail
 go_ret
 exact⟨rfl,(Below.refl _ _).alloc (Nat.le_refl _) _⟩

theorem del_eq {w:World} {B:Nat} {key:List UInt8} (hk:w.cell? ⟨B,0,none⟩=some (.string ⟨key.toArray⟩)) {c st:List UInt8} {x y z:Int} {r:Bool} (h:Hid ((c == key)=r)) :
  Calls Tryz.prog 182 #[.agg #[.string ⟨c.toArray⟩,.int .i64 x,.int .i64 y,.int .i64 z,.string ⟨st.toArray⟩],.pointer (some ⟨B,0,none⟩)] w fun e w' => e=.returned (.bool r)∧Below w.heap.size w w':=by
 have:=del_any hk c st x y z
 rwa [h.out] at this

def Found (t:List Row) (key:List UInt8) (n:Int):Prop :=
 (∃ k:Nat,k < t.length∧n=k∧(t.getD k Row.zero).c=key∧∀ j,j < k→¬ (t.getD j Row.zero).c=key)∨(n=-1∧∀ j,j < t.length→¬ (t.getD j Row.zero).c=key)

theorem indexf_any {w:World} {v:Value} {t:List Row} (hv:Tab w v t) {B:Nat} {key:List UInt8} (hk:w.cell? ⟨B,0,none⟩=some (.string ⟨key.toArray⟩)) :
  Calls Tryz.prog 193 #[v,.func (.func 182) #[] #[.pointer (some ⟨B,0,none⟩)]] w fun e w' => ∃ n,e=.returned (.int .i64 n)∧Found t key n∧Below w.heap.size w w':=by
 have HV:=hZq hv
 have HK:=hZq hk
 obtain⟨a,cap,rfl,hm⟩:=hv.open'
 clear hv hk
 go_enter Tryz.func193,Tryz.ntmps193
 go_wp2_with fail
 go_loopw [8] (fun i wr => ∃ k:Nat,k≤t.length∧i=.int .i64 k∧Hid (Below w.heap.size w wr)∧Hid (∀ j,j < k→¬ (t.getD j Row.zero).c=key)) (fun i _ => t.length - (intOf i).toNat)
 case atStart => exact⟨0,by omega,rfl,Below.refl _ _,fun j hj => absurd hj (by omega)⟩
 case round =>
  obtain⟨k,hk,rfl,HN,HA⟩:=hrel
  by_cases hlt:k < t.length
  ·obtain⟨b,off,rfl,h0,h1,h2,h3,h4⟩:=HV.out.row HN.out k hlt
   obtain⟨⟨c,⟨x,y,z,st⟩⟩,hr⟩ : ∃ r,t.getD k Row.zero=r:=⟨_,rfl⟩
   rw [hr] at h0 h1 h2 h3 h4
   have HR:=hZq hr
   simp only at h0 h1 h2 h3 h4
   have HKr:=hZq (cell_later HK.out HN.out)
   clear hr
   cases hc:(c == key) with
   | true =>
    have HD:=hZq (del_eq (c:=c) (st:=st) (x:=x) (y:=y) (z:=z) HKr.out (hZq hc))
    have HF:Hid (Found t key k):=.inl ⟨k,hlt,rfl,by rw [HR.out]; simpa using hc,HA.out⟩
    clear hc
    go_wp2_with fail
    refine HD.out.mono ?_
    rintro e w1 ⟨rfl,hb1⟩
    have N1:=hZq (below2' HN.out hb1)
    clear hb1 h0 h1 h2 h3 h4
    go_wp2_with fail
    go_ret
    exact⟨_,rfl,HF.out,N1.out⟩
   | false =>
    have HD:=hZq (del_eq (c:=c) (st:=st) (x:=x) (y:=y) (z:=z) HKr.out (hZq hc))
    have HA2:Hid (∀ j,j < k+1→¬ (t.getD j Row.zero).c=key):=by
     show ∀ j,j < k+1→_
     intro j hj
     by_cases hjk:j=k
     ·rw [hjk,HR.out]; simpa using hc
     ·exact HA.out j (by omega)
    clear hc
    go_wp2_with fail
    refine HD.out.mono ?_
    rintro e w1 ⟨rfl,hb1⟩
    have N1:=hZq (below2' HN.out hb1)
    clear hb1 h0 h1 h2 h3 h4
    go_wp2_with fail
    go_roundw
    case rel => exact⟨k+1,by omega,by go_num,N1,HA2⟩
    case measure => simp [intOf]; omega
  ·obtain rfl:k=t.length:=by omega
   have HF:Hid (Found t key (-1)):=.inr ⟨rfl,HA.out⟩
   go_wp2_with fail
   go_ret
   exact⟨_,rfl,HF.out,HN.out⟩

theorem rest_none {t:List Row} {key:List UInt8} (h:∀ j,j < t.length→¬ (t.getD j Row.zero).c=key):diRest t key=t:=by
 unfold diRest
 rw [List.filter_eq_self]
 intro r hr
 obtain⟨k,hk,rfl⟩:=List.getElem_of_mem hr
 have:=h k hk
 rw [row_get hk]
 simpa using this

theorem rest_next {t:List Row} {key:List UInt8} {j:Nat} (hj:j < t.length) {r:Row} (hr:t.getD j Row.zero=r) :
  (r.c=key→diRest (t.take (j+1)) key=diRest (t.take j) key)∧(¬ r.c=key→diRest (t.take (j+1)) key=diRest (t.take j) key ++ [r]):=by
 unfold diRest
 rw [List.take_succ_eq_append_getElem hj,row_get hj,hr,List.filter_append]
 constructor
 ·intro h
  simp [h]
 ·intro h
  simp [h]

theorem set_take_next {u:List Row} {i:Nat} (hi:i < u.length) (r:Row):(u.set i r).take (i+1)=u.take i ++ [r]:=by
 rw [List.take_set,List.set_eq_take_append_cons_drop]
 rw [if_pos (by rw [List.length_take]; omega)]
 rw [List.take_take,List.drop_of_length_le (by rw [List.length_take]; omega),show min i (i+1)=i by omega]

theorem ownR_cut {w:World} {base g n cap:Nat} {u:List Row} (h:OwnR w base (.slice (some ⟨g,0,none⟩) n cap) u) {i:Nat} (hi:i≤u.length):OwnR w base (.slice (some ⟨g,0,none⟩) i cap) (u.take i):=by
 rcases h with ⟨h1,⟨h',_⟩ | ⟨g',cap',cur,h',hb,hg,hnc,hcm,hcs,htk⟩⟩
 ·simp at h'
 ·simp only [Value.slice.injEq,Option.some.injEq,Addr.mk.injEq,and_true] at h'
  obtain⟨rfl,h2,rfl⟩:=h'
  have hl:(u.take i).length=i:=by rw [List.length_take]; omega
  refine ⟨by rw [cellsOf_len],.inr ⟨g,cap,cur,by rw [hl],hb,hg,by omega,hcm,hcs,?_⟩⟩
  rw [hl,← cellsOf_take,← htk,List.take_take,show min (i * 5) (u.length * 5)=i * 5 by omega]

theorem OwnR.row {w:World} {base g n cap:Nat} {u:List Row} (h:OwnR w base (.slice (some ⟨g,0,none⟩) n cap) u) {k:Nat} (hk:k < u.length):Cells5 w g (k * 5) (u.getD k Row.zero):=by
 refine cells5_of fun j x hx => ?_
 have hj:j < 5:=by have:=(List.getElem?_eq_some_iff.1 hx).1; rwa [rowVals_len] at this
 rw [h.cellAt _ (by omega),cellsOf_at u k j hk hj,hx]

theorem below_store5 {B g:Nat} {w0 w:World} (h:Below B w0 w) (hB:B≤g) (o0 o1 o2 o3 o4:Nat) (a b c d e:Value) :
  Below B w0 (((((w.setCell ⟨g,o0,none⟩ a).setCell ⟨g,o1,none⟩ b).setCell ⟨g,o2,none⟩ c).setCell ⟨g,o3,none⟩ d).setCell ⟨g,o4,none⟩ e) :=
 ((((h.setCell hB a).setCell hB b).setCell hB c).setCell hB d).setCell hB e

def DelAt (t u:List Row) (key:List UInt8) (i j:Nat):Prop:=u.length=t.length∧i < j∧j≤t.length∧u.take i=diRest (t.take j) key∧u.drop j=t.drop j

theorem delAt_start {t:List Row} {key:List UInt8} {k:Nat} (hk:k < t.length) (hc:(t.getD k Row.zero).c=key) (hn:∀ j,j < k→¬ (t.getD j Row.zero).c=key):DelAt t t key k (k+1):=by
 refine ⟨rfl,by omega,hk,?_,rfl⟩
 rw [(rest_next hk rfl).1 hc]
 refine (rest_none fun j hj => ?_).symm
 rw [List.length_take] at hj
 have:(t.take k).getD j Row.zero=t.getD j Row.zero:=by simp [List.getD,show j < k by omega]
 rw [this]
 exact hn j (by omega)

theorem delAt_row {t u:List Row} {key:List UInt8} {i j:Nat} (h:DelAt t u key i j) (hj:j < t.length):u.getD j Row.zero=t.getD j Row.zero:=by
 obtain⟨h1,_,_,_,h5⟩:=h
 have a:=List.drop_eq_getElem_cons (show j < u.length by omega)
 have b:=List.drop_eq_getElem_cons hj
 rw [h5,b] at a
 rw [← row_get hj,← row_get (show j < u.length by omega)]
 exact (List.cons.inj a).1.symm

theorem delAt_skip {t u:List Row} {key:List UInt8} {i j:Nat} (h:DelAt t u key i j) (hj:j < t.length) {r:Row} (hr:t.getD j Row.zero=r) (hc:r.c=key):DelAt t u key i (j+1):=by
 obtain⟨h1,h2,h3,h4,h5⟩:=h
 refine ⟨h1,by omega,hj,by rw [(rest_next hj hr).1 hc,h4],?_⟩
 have e:∀ l:List Row,l.drop (j+1)=(l.drop j).drop 1:=fun l => by rw [List.drop_drop]
 rw [e u,e t,h5]

theorem delAt_keep {t u:List Row} {key:List UInt8} {i j:Nat} (h:DelAt t u key i j) (hj:j < t.length) {r:Row} (hr:t.getD j Row.zero=r) (hc:¬ r.c=key):DelAt t (u.set i r) key (i+1) (j+1):=by
 obtain⟨h1,h2,h3,h4,h5⟩:=h
 refine ⟨by simpa using h1,by omega,hj,by rw [set_take_next (by omega),h4,(rest_next hj hr).2 hc],?_⟩
 have e:∀ l:List Row,l.drop (j+1)=(l.drop j).drop 1:=fun l => by rw [List.drop_drop]
 rw [List.drop_set,if_pos (by omega),e u,e t,h5]

theorem deletef_some {w:World} {base g n cap:Nat} {t:List Row} (ho:OwnR w base (.slice (some ⟨g,0,none⟩) n cap) t) {B:Nat} {key:List UInt8} (hk:w.cell? ⟨B,0,none⟩=some (.string ⟨key.toArray⟩)) (hB:B < base) (hbase:base≤w.heap.size) :
  Calls Tryz.prog 181 #[.slice (some ⟨g,0,none⟩) n cap,.func (.func 182) #[] #[.pointer (some ⟨B,0,none⟩)]] w fun e w' => ∃ v,e=.returned v∧OwnR w' base v (diRest t key)∧Below base w w':=by
 have HO:=hZq ho
 have HK:=hZq hk
 obtain⟨hn,hbg,hgw,hnc,hcm,_⟩:=ho.head
 subst hn
 unfold maxLen at hcm
 have HI:=hZq (indexf_any ho.tab hk)
 clear ho hk
 go_enter Tryz.func181,Tryz.ntmps181
 go_wp2_with fail
 refine HI.out.mono ?_
 rintro e w1 ⟨m,rfl,hf,hb1⟩
 have B1:=hZq hb1
 have O1:=hZq (HO.out.later hb1)
 clear hb1 HI HO
 rcases hf with ⟨k,hklt,rfl,hkc,hkn⟩ | ⟨rfl,hno⟩
 ·have HD:=hZq (delAt_start hklt hkc hkn)
  have t0:((k:Int) == -1)=false:=by simp
  clear hkc hkn
  go_wp2_with fail
  go_loopw [5,6] (fun a b wr => ∃ (i j:Nat) (u:List Row),a=.int .i64 i∧b=.int .i64 j∧Hid (DelAt t u key i j)∧Hid (OwnR wr base (.slice (some ⟨g,0,none⟩) t.length cap) u)∧Hid (Below base w wr)) (fun _ b _ => t.length - (intOf b).toNat)
  case atStart => exact⟨k,k+1,t,rfl,by go_num,HD,O1,B1.out.mono hbase⟩
  case round =>
   clear HD O1 B1 hklt
   obtain⟨i,j,u,rfl,rfl,HD,HO,HN⟩:=hrel
   have hij:=HD.out.2.1
   have hjn:=HD.out.2.2.1
   have hul:=HD.out.1
   by_cases hlt:j < t.length
   ·obtain⟨h0,h1,h2,h3,h4⟩:=HO.out.row (show j < u.length by omega)
    have hgr:=HO.out.head.2.2.1
    have hrow:=delAt_row HD.out hlt
    obtain⟨⟨c,⟨x,y,z,st⟩⟩,hr⟩ : ∃ r,t.getD j Row.zero=r:=⟨_,rfl⟩
    rw [hrow,hr] at h0 h1 h2 h3 h4
    simp only at h0 h1 h2 h3 h4
    have HR:=hZq hr
    have HKr:=hZq ((HN.out.cell (p:=⟨B,0,none⟩) hB).trans HK.out)
    have hbr:base≤wr.heap.size:=by omega
    clear hr hrow
    cases hc:(c == key) with
    | true =>
     have HD2:=hZq (delAt_skip HD.out hlt HR.out (by simpa using hc))
     have hcell:(wr.alloc (.cells #[.string ⟨c.toArray⟩,.int .i64 x,.int .i64 y,.int .i64 z,.string ⟨st.toArray⟩] 93)).cell? ⟨B,0,none⟩=some (.string ⟨key.toArray⟩):=cell_later HKr.out ((Below.refl _ _).alloc (Nat.le_refl _) _)
     have HDel:=hZq (del_eq (c:=c) (st:=st) (x:=x) (y:=y) (z:=z) hcell (hZq hc))
     clear hc hcell
     go_wp2_with fail
     refine HDel.out.mono ?_
     rintro e w2 ⟨rfl,hb2⟩
     have bx:=(box5 hb2).2
     have N2:=hZq (HN.out.trans (bx.mono hbr))
     have O2:=hZq (HO.out.later bx)
     clear hb2 bx h0 h1 h2 h3 h4
     go_wp2_with fail
     go_roundw
     case rel => exact⟨i,j+1,u,rfl,by go_num,HD2,O2,N2⟩
     case measure => simp [intOf]; omega
    | false =>
     have HD2:=hZq (delAt_keep HD.out hlt HR.out (by simpa using hc))
     have hcell:(wr.alloc (.cells #[.string ⟨c.toArray⟩,.int .i64 x,.int .i64 y,.int .i64 z,.string ⟨st.toArray⟩] 93)).cell? ⟨B,0,none⟩=some (.string ⟨key.toArray⟩):=cell_later HKr.out ((Below.refl _ _).alloc (Nat.le_refl _) _)
     have HDel:=hZq (del_eq (c:=c) (st:=st) (x:=x) (y:=y) (z:=z) hcell (hZq hc))
     clear hc hcell
     go_wp2_with fail
     refine HDel.out.mono ?_
     rintro e w2 ⟨rfl,hb2⟩
     obtain⟨⟨k0,k1,k2,k3,k4⟩,bx⟩:=box5 hb2
     have N2:=hZq (HN.out.trans (bx.mono hbr))
     have O2:=hZq (HO.out.later bx)
     have hsz:=bx.size
     obtain⟨s0,s1,s2,s3,s4⟩:=O2.out.row (show i < u.length by omega)
     have f0:=O2.out.frozenAt (i * 5)
     have f1:=O2.out.frozenAt (i * 5+1)
     have f2:=O2.out.frozenAt (i * 5+2)
     have f3:=O2.out.frozenAt (i * 5+3)
     have f4:=O2.out.frozenAt (i * 5+4)
     have O3:=hZq (ownR_store O2.out i (by omega) ⟨c,x,y,z,st⟩)
     have N3:=hZq (below_store5 N2.out hbg (i * 5) (i * 5+1) (i * 5+2) (i * 5+3) (i * 5+4) (.string ⟨c.toArray⟩) (.int .i64 x) (.int .i64 y) (.int .i64 z) (.string ⟨st.toArray⟩))
     clear hb2 bx h0 h1 h2 h3 h4 O2 N2
     go_wp2_with fail
     go_roundw
     case rel => exact⟨i+1,j+1,u.set i ⟨c,x,y,z,st⟩,by go_num,by go_num,HD2,O3,N3⟩
     case measure => simp [intOf]; omega
   ·obtain rfl:j=t.length:=by omega
    have hR:u.take i=diRest t key:=by have:=HD.out.2.2.2.1; rwa [List.take_length] at this
    have HR:=hZq hR
    have hne:¬ cap=i:=by omega
    clear hR
    go_wp2_with (with_reducible refine wpList_clear_rows rfl (.tmp 38) rfl base g t.length cap u HO.out i (some ⟨g,i * 5,none⟩) (t.length - i) (cap - i) rfl (fun _ => rfl) (by omega) ?_)
    intro w3 h3 hb3
    have O3:=hZq (ownR_cut h3 (i:=i) (by rw [List.length_append,List.length_take,List.length_replicate]; omega))
    have N3:=hZq (HN.out.trans (hb3.mono hbg))
    clear h3 hb3
    go_wp2_with fail
    go_ret
    refine ⟨_,rfl,?_,N3.out⟩
    have:=O3.out
    rw [List.take_append_of_le_length (by rw [List.length_take]; omega),List.take_take,Nat.min_self,HR.out] at this
    exact this
 ·have HR:=hZq (rest_none hno)
  clear hno
  go_wp2_with fail
  go_ret
  exact⟨_,rfl,by rw [HR.out]; exact O1.out,B1.out.mono hbase⟩

end Go.Proofs.YtekkofldhhdpgaaGreat

end

section

namespace Go.Proofs.YtekkofldhhdpgaaGreat
open Go.RowKit

theorem Tab.src {w:World} {ad:Addr} {n cap:Nat} {t:List Row} (h:Tab w (.slice (some ad) n cap) t):SrcR w ad t:=by
 obtain⟨a',cap',e,_,_,_,h⟩:=h
 simp only [Value.slice.injEq] at e
 intro j u hu
 have hj:=(List.getElem?_eq_some_iff.1 hu).1
 rw [cellsOf_len] at hj
 rcases h with h | ⟨b,off,e',_,hc⟩
 ·rw [h] at hj; simp at hj
 ·have e2:=e.1.trans e'
  injection e2 with e2
  subst e2
  have hd:j=j / 5 * 5+j % 5:=by omega
  rw [hd,cellsOf_at t (j / 5) (j % 5) (by omega) (by omega)] at hu
  have:=cells5_get (hc (j / 5) (by omega)) (j % 5) u hu
  rw [Addr.add_lit,hd,← Nat.add_assoc]
  exact this

theorem eql_nil_some (w:World) (x:Addr) (n c:Nat):(binOp .eql 22 (.slice (some x) n c) (.slice none 0 0)).run Tryz.prog w=.ok (.bool false) w:=by
 rw [Lib.run_eql_slice_nil w _ _ _ _ _ _ _ Tryz.underlying22]
 rfl

theorem eql_nil_nil (w:World) (n c:Nat):(binOp .eql 22 (.slice none n c) (.slice none 0 0)).run Tryz.prog w=.ok (.bool true) w:=by
 rw [Lib.run_eql_slice_nil w _ _ _ _ _ _ _ Tryz.underlying22]
 rfl

theorem clone_any {w:World} {v:Value} {t:List Row} (hv:Tab w v t) (hl:t.length≤4294967) :
  Calls Tryz.prog 136 #[v] w fun e w' => ∃ u,e=.returned u∧OwnR w' w.heap.size u t∧Below w.heap.size w w':=by
 have HV:=hZq hv
 obtain⟨a,cap,rfl,h1,h2,h3,h4⟩:=hv
 cases a with
 | none =>
  obtain rfl:cap=0:=h3 rfl
  obtain rfl:t=[]:=List.length_eq_zero_iff.1 (by omega)
  have heq:=fun w => eql_nil_nil w 0 0
  clear h4
  go_enter Tryz.func136,Tryz.ntmps136
  go_wp2_with fail
  go_ret
  exact⟨_,rfl,ownR_nil _ _,Below.refl _ _⟩
 | some x =>
  have HS:=hZq (HV.out.later ((Below.refl _ _).alloc (Nat.le_refl _) (.cells #[] 93))).src
  have heq:=fun w => eql_nil_some w x t.length cap
  clear h4 h3
  go_enter Tryz.func136,Tryz.ntmps136
  go_wp2_with (at_builtin; go_must (refine wpList_append_rows rfl _ _ rfl w.heap.size _ [] rfl (by exact ownR_made w) (some x) t.length cap t rfl rfl (fun e => nomatch e) ?c1 (by simp only [List.length_nil]; omega) (by simp) ?_))
  case c1 => intro ad had; obtain rfl:=Option.some.inj had; exact HS.out
  intro v' w' ho' hb'
  have O:=hZq ho'
  have hbB:Hid (Below w.heap.size w w'):=((Below.refl w.heap.size w).alloc (Nat.le_refl _) _).trans hb'
  clear ho' hb'
  go_wp2_with fail
  go_ret
  exact⟨_,rfl,by have:=O.out; simpa using this,hbB.out⟩

theorem deletef_any {w:World} {base:Nat} {v:Value} {t:List Row} (ho:OwnR w base v t) {B:Nat} {key:List UInt8} (hk:w.cell? ⟨B,0,none⟩=some (.string ⟨key.toArray⟩)) (hB:B < base) (hbase:base≤w.heap.size) :
  Calls Tryz.prog 181 #[v,.func (.func 182) #[] #[.pointer (some ⟨B,0,none⟩)]] w fun e w' => ∃ u,e=.returned u∧OwnR w' base u (diRest t key)∧Below base w w':=by
 rcases ho.2 with ⟨rfl,h0⟩ | ⟨g,cap,cur,rfl,_⟩
 ·obtain rfl:t=[]:=List.length_eq_zero_iff.1 h0
  have HI:=hZq (indexf_any ho.tab hk)
  clear ho hk h0
  go_enter Tryz.func181,Tryz.ntmps181
  go_wp2_with fail
  refine HI.out.mono ?_
  rintro e w1 ⟨m,rfl,hf,hb1⟩
  have B1:=hZq hb1
  clear hb1 HI
  rcases hf with ⟨k,hk,_⟩ | ⟨rfl,_⟩
  ·simp at hk
  ·go_wp2_with fail
   go_ret
   exact⟨_,rfl,ownR_nil _ _,B1.out.mono hbase⟩
 ·exact deletef_some ho hk hB hbase

theorem without_any {w:World} {v:Value} {t:List Row} (hv:Tab w v t) (hl:t.length≤4294967) (key:List UInt8) :
  Calls Tryz.prog 164 #[v,.string ⟨key.toArray⟩] w fun e w' => ∃ u,e=.returned u∧OwnR w' (w.heap.size+1) u (diRest t key)∧Below w.heap.size w w'∧w.heap.size < w'.heap.size:=by
 have HC:=hZq (clone_any (hv.later ((Below.refl _ _).alloc (Nat.le_refl _) (.cells #[.string ⟨key.toArray⟩] 9))) hl)
 obtain⟨a,cap,rfl,_⟩:=hv.open'
 clear hv
 go_enter Tryz.func164,Tryz.ntmps164
 go_wp2_with fail
 refine HC.out.mono ?_
 rintro e w1 ⟨u,rfl,ho1,hb1⟩
 have hk:w1.cell? ⟨w.heap.size,0,none⟩=some (.string ⟨key.toArray⟩):=cell_later (by simp) hb1
 have hsz:=hb1.size
 simp at hsz
 have ho2:OwnR w1 (w.heap.size+1) u t:=by simpa using ho1
 have HD:=hZq (deletef_any ho2 hk (Nat.lt_succ_self _) hsz)
 have B1:Hid (Below w.heap.size w w1):=below2' ((Below.refl _ _).alloc (Nat.le_refl _) _) hb1
 clear ho1 ho2 hb1 hk HC
 go_wp2_with fail
 refine HD.out.mono ?_
 rintro e w2 ⟨u2,rfl,ho3,hb3⟩
 have O3:=hZq ho3
 have B3:=hZq (B1.out.trans (hb3.mono (Nat.le_succ _)))
 have hz3:=hb3.size
 clear ho3 hb3
 go_wp2_with fail
 go_ret
 exact⟨_,rfl,O3.out,B3.out,by omega⟩

end Go.Proofs.YtekkofldhhdpgaaGreat

end

section

namespace Go.Proofs.YtekkofldhhdpgaaGreat
open Go.RowKit

def Lone (w:World) (B:Nat) (r:Row):Prop:=w.heap[B]?=some (.cells #[.string ⟨r.c.toArray⟩,.int .i64 r.v.sh,.int .i64 r.v.pr,.int .i64 r.v.si,.string ⟨r.v.st.toArray⟩] 93 (0,0))

theorem Lone.later {w w':World} {B:Nat} {r:Row} (h:Lone w B r) (hb:Below w.heap.size w w'):Lone w' B r :=
 (hb.block B (Array.getElem?_eq_some_iff.1 h).1).trans h

theorem Lone.lt {w:World} {B:Nat} {r:Row} (h:Lone w B r):B < w.heap.size:=(Array.getElem?_eq_some_iff.1 h).1

theorem Lone.src {w:World} {B:Nat} {r:Row} (h:Lone w B r):SrcR w ⟨B,0,none⟩ [r]:=by
 intro j u hu
 rw [cellsOf_one] at hu
 rw [Addr.add_lit,Nat.zero_add,cell_of_row w B j _ _ (0,0) h,← hu]
 simp [rowVals]

theorem Lone.free {w:World} {B:Nat} {r:Row} (h:Lone w B r) (j:Nat):w.frozen? ⟨B,j,none⟩=false:=frozen_of_row w B j _ _ h

theorem Lone.shape {w:World} {B:Nat} {r:Row} (h:Lone w B r):w.shape? B=some (93,5):=by
 have h':=h
 unfold Lone at h'
 simp only [World.shape?,h']
 rfl

theorem own_shape {w:World} {g:Nat} {cur:Array Value} {T:TypeId} (h:w.heap[g]?=some (.cells cur T (0,0))):w.shape? g=some (T,cur.size):=by
 simp only [World.shape?,h]

theorem lone_new (w:World) (r:Row):Lone (w.alloc (.cells #[.string ⟨r.c.toArray⟩,.int .i64 r.v.sh,.int .i64 r.v.pr,.int .i64 r.v.si,.string ⟨r.v.st.toArray⟩] 93)) w.heap.size r:=heap_alloc_new w _

def put1 (t:List Row) (i:Nat) (r:Row):List Row:=t.take i ++ ([r] ++ t.drop i)

theorem insert_end {w:World} {base:Nat} {v:Value} {t:List Row} (ho:OwnR w base v t) (hbase:base≤w.heap.size) (hl:t.length≤1000) {B:Nat} {r:Row} (hr:Lone w B r) :
  Calls Tryz.prog 165 #[v,.int .i64 t.length,.slice (some ⟨B,0,none⟩) 1 1] w fun e w' => ∃ u,e=.returned u∧OwnR w' base u (put1 t t.length r)∧Below base w w':=by
 have HO:=hZq ho
 have HS:=hZq hr.src
 have HE:Hid (put1 t t.length r=t ++ [r]):=by show _=_; simp [put1]
 have t0:((t.length:Int) == (t.length:Int))=true:=by simp
 rcases ho.2 with ⟨rfl,h0⟩ | ⟨g,cap,cur,rfl,_,_,hnc,hcm,_⟩
 ·obtain rfl:t=[]:=List.length_eq_zero_iff.1 h0
  clear ho hr h0
  go_enter Tryz.func165,Tryz.ntmps165
  go_wp2_with (at_builtin; go_must (refine wpList_append_rows rfl _ _ rfl base _ [] rfl (by exact HO.out) (some ⟨B,0,none⟩) 1 1 [r] rfl rfl (fun e => nomatch e) ?c1 (by simp) hbase ?_))
  case c1 => intro ad had; obtain rfl:=Option.some.inj had; exact HS.out
  intro v' w' ho' hb'
  have O:=hZq ho'
  have HB:=hZq hb'
  clear ho' hb'
  go_wp2_with fail
  go_ret
  exact⟨_,rfl,O.out,HB.out⟩
 ·unfold maxLen at hcm
  clear ho hr
  by_cases hc:cap=t.length
  ·subst hc
   go_enter Tryz.func165,Tryz.ntmps165
   go_wp2_with (at_builtin; go_must (refine wpList_append_rows rfl _ _ rfl base _ t rfl (by exact HO.out) (some ⟨B,0,none⟩) 1 1 [r] rfl rfl (fun e => nomatch e) ?c1 (by simp only [List.length_cons,List.length_nil]; omega) hbase ?_))
   case c1 => intro ad had; obtain rfl:=Option.some.inj had; exact HS.out
   intro v' w' ho' hb'
   have O:=hZq ho'
   have HB:=hZq hb'
   clear ho' hb'
   go_wp2_with fail
   go_ret
   exact⟨_,rfl,by rw [HE.out]; exact O.out,HB.out⟩
  ·go_enter Tryz.func165,Tryz.ntmps165
   go_wp2_with (at_builtin; go_must (refine wpList_append_rows rfl _ _ rfl base _ t rfl (by exact HO.out) (some ⟨B,0,none⟩) 1 1 [r] rfl rfl (fun e => nomatch e) ?c1 (by simp only [List.length_cons,List.length_nil]; omega) hbase ?_))
   case c1 => intro ad had; obtain rfl:=Option.some.inj had; exact HS.out
   intro v' w' ho' hb'
   have O:=hZq ho'
   have HB:=hZq hb'
   clear ho' hb'
   go_wp2_with fail
   go_ret
   exact⟨_,rfl,by rw [HE.out]; exact O.out,HB.out⟩

theorem ownR_low {w:World} {base base':Nat} {v:Value} {t:List Row} (h:OwnR w base v t) (hb:base'≤base):OwnR w base' v t:=by
 refine ⟨h.1,?_⟩
 rcases h.2 with h' | ⟨g,cap,cur,h1,h2,h3⟩
 ·exact .inl h'
 ·exact .inr ⟨g,cap,cur,h1,by omega,h3⟩

theorem lay_grow {t:List Row} {i:Nat} (hi:i < t.length) (r:Row) :
  lay (lay (t.take i ++ List.replicate (t.length+1 - i) Row.zero) i [r]) (i+1) (t.drop i)=put1 t i r:=by
 have h1:(t.take i).length=i:=by rw [List.length_take]; omega
 have e2:(t.take i ++ List.replicate (t.length+1 - i) Row.zero).drop (i+1)=List.replicate (t.length - i) Row.zero:=by
  rw [List.drop_append,List.drop_of_length_le (by omega),h1,show i+1 - i=1 by omega,List.drop_replicate,List.nil_append]
  congr 1
  omega
 have e3:lay (t.take i ++ List.replicate (t.length+1 - i) Row.zero) i [r]=(t.take i ++ [r]) ++ List.replicate (t.length - i) Row.zero:=by
  unfold lay
  rw [List.take_left' h1,List.length_singleton,e2]
  simp
 have h4:(t.take i ++ [r]).length=i+1:=by rw [List.length_append,h1]; rfl
 have h5:((t.take i ++ [r]) ++ List.replicate (t.length - i) Row.zero).length≤i+1+(t.drop i).length:=by
  rw [List.length_append,h4,List.length_replicate,List.length_drop]
  omega
 rw [e3]
 unfold lay put1
 rw [List.take_left' h4,List.drop_of_length_le h5]
 simp

theorem insert_grow {w:World} {base g cap:Nat} {t:List Row} (ho:OwnR w base (.slice (some ⟨g,0,none⟩) t.length cap) t) (hbase:base≤w.heap.size) (hl:t.length≤1000) {i:Nat} (hi:i < t.length) (hc:cap=t.length) {B:Nat} {r:Row} (hr:Lone w B r) :
  Calls Tryz.prog 165 #[.slice (some ⟨g,0,none⟩) t.length cap,.int .i64 i,.slice (some ⟨B,0,none⟩) 1 1] w fun e w' => ∃ u,e=.returned u∧OwnR w' base u (put1 t i r)∧Below base w w':=by
 subst hc
 have HO:=hZq ho
 have HR:=hZq hr
 have HE:=hZq (lay_grow hi r)
 have t0:((i:Int) == (t.length:Int))=false:=by simp; omega
 have t1:¬ t.length=i:=by omega
 have hw1:IntKind.i64.wrap ((i:Int)+1)=(i:Int)+1:=IntWalk.i64_in _ (by omega)
 have htn:((i:Int)+1).toNat=i+1:=by omega
 have hb0:(0:Int)≤(i:Int)+1:=by omega
 have hin:i≤t.length:=by omega
 have hgw:=ho.head.2.2.1
 have hBw:=hr.lt
 clear ho hr
 go_enter Tryz.func165,Tryz.ntmps165
 go_wp2_with (with_reducible refine wpList_append_zero_rows rfl (.tmp 34) (.tmp 39) rfl base g t.length t.length t HO.out i (t.length+1 - i) (t.length+1) ((t.length:Int)+1 - (i:Int)) rfl rfl (by omega) (by omega) (by omega) (by omega) (by omega) (by omega) ?_)
 intro w1 G h1 hG hGm hb1
 have O1:=hZq h1
 have B1:=hZq hb1
 have S1:=hZq (HR.out.later hb1).src
 have P1:=hZq (HO.out.later hb1)
 have hsz:=hb1.size
 have hlen:(t.take i ++ List.replicate (t.length+1 - i) Row.zero).length=t.length+1:=by rw [List.length_append,List.length_take,List.length_replicate]; omega
 have t2:¬ G=i:=by omega
 have t3:¬ G=i+1:=by omega
 clear h1 hb1
 go_wp2_with (with_reducible refine wpList_copy_rows rfl (.tmp 43) (.tmp 44) rfl w.heap.size w.heap.size (t.length+1) G _ O1.out i (t.length+1 - i) (G - i) ⟨B,0,none⟩ 1 1 rfl rfl [r] (by simp only [List.length_singleton,Nat.min_def]; split <;> omega) S1.out (by rw [hlen]; simp only [List.length_singleton]; omega) ?_)
 intro w2 h2 hb2 hk2
 have O2:=hZq h2
 have B2:=hZq (B1.out.trans (hb2.mono (Nat.le_refl _)))
 have P2:Hid (SrcR w2.drew ⟨g,i * 5,none⟩ (t.drop i)):=by
  show SrcR _ _ _
  intro j x hx
  have:=P1.out.src i (t.length - i) (by omega) j x (by rw [List.take_of_length_le (by rw [List.length_drop]; omega)]; exact hx)
  exact (hk2 _ (by rw [Addr.add_lit]; show g ≠ w.heap.size; omega)).trans this
 have hlen2:(lay (t.take i ++ List.replicate (t.length+1 - i) Row.zero) i [r]).length=t.length+1:=by rw [lay_len (by rw [hlen]; simp only [List.length_singleton]; omega),hlen]
 clear h2 hb2 hk2 O1 B1 S1
 go_wp2_with fail
 go_region_law (refine step_copy_rows rfl (.tmp 50) (.tmp 53) rfl w.heap.size w.heap.size (t.length+1) G _ (World.ownsRow.drew O2.out) (i+1) (t.length - i) (G - (i+1)) ⟨g,i * 5,none⟩ (t.length - i) (t.length - i) (by simp [Act.eval,Act.put]) (by simp [Act.eval,Act.put]) (t.drop i) (by simp only [List.length_drop,Nat.min_def]; split <;> omega) P2.out (by rw [hlen2,List.length_drop]; omega) ?_; intro w3 h3 hb3 hk3)
 all_goals
  have O3:=hZq h3
  have B3:=hZq ((B2.out.mono hbase).drew.trans (hb3.mono hbase))
  clear h3 hb3 hk3
  go_wp2_with fail
  go_ret
  refine ⟨_,rfl,?_,B3.out⟩
  have h:=O3.out
  rw [HE.out] at h
  exact ownR_low h hbase

end Go.Proofs.YtekkofldhhdpgaaGreat

end

section

namespace Go.Proofs.YtekkofldhhdpgaaGreat
open Go.RowKit

theorem Tryz.sizeSeen (w:World):(Go.sizeOf 93).run Tryz.prog w=.ok 5 w:=by
 obtain⟨i,hi,hz,hsize,hby⟩:=info_parts Tryz.infoSeen
 simp [sizeOf,typeInfo,hi,hsize]

def OwnC5 (w:World) (base g n cap:Nat) (xs:List Value):Prop:=w.ownsRow base 93 5 (.slice (some ⟨g,0,none⟩) n cap) n xs

theorem OwnC5.head {w:World} {base g n cap:Nat} {xs:List Value} (h:OwnC5 w base g n cap xs):base≤g∧xs.length=n * 5∧∃ cur:Array Value,w.heap[g]?=some (.cells cur 93 (0,0))∧cur.size=cap * 5:=by
 rcases h with ⟨h0,⟨h',_⟩ | ⟨g',cap',cur,h',hb,hg,hnc,hcm,hcs,_⟩⟩
 ·simp at h'
 ·simp only [Value.slice.injEq,Option.some.injEq,Addr.mk.injEq,and_true,true_and] at h'
  obtain⟨rfl,rfl⟩:=h'
  exact⟨hb,h0,cur,hg,hcs⟩

theorem OwnC5.someAt {w:World} {base g n cap:Nat} {xs:List Value} (h:OwnC5 w base g n cap xs) (j:Nat) (hj:j < n * 5):(w.cell? ⟨g,j,none⟩).isSome=true:=by
 rw [World.ownsRow.cellAt h j hj,List.getElem?_eq_getElem (by rw [h.head.2.1]; exact hj)]
 rfl

theorem run_copy_raw {w:World} (base g n cap:Nat) (xs:List Value) (h:OwnC5 w base g n cap xs) (o dl dc:Nat) (ad:Addr) (sl sc:Nat) (ms:List Row) (hn:ms.length=Nat.min sl dl) (hsrc:SrcR w ad ms) (ho:o+ms.length≤n) (ty:TypeId) :
  (Builtin.copy_ #[22,22] ty #[.slice (some ⟨g,o * 5,none⟩) dl dc,.slice (some ad) sl sc]).run Tryz.prog w=.ok (goInt ms.length) (w.setCells g (o * 5) (cellsOf ms)):=by
 obtain⟨i,hi,hz,hsize,hby⟩:=info_parts Tryz.infoSeen
 have hl:=run_loadCells_list (P:=Tryz.prog) w ad (cellsOf ms) hsrc
 rw [cellsOf_len] at hl
 have hst:=run_storeCells_cells (P:=Tryz.prog) g (o * 5) (cellsOf ms) 0 w (fun j hj => by
  rw [cellsOf_len] at hj
  exact h.someAt _ (by omega)) (fun j _ => World.ownsRow.frozenAt h _) (cellsOf_single ms)
 rw [Nat.add_zero] at hst
 simp [Builtin.copy_,run_underlying Tryz.underlying22,Builtin.lenOf,Builtin.firstCells,sizeOf,typeInfo,hi,hsize,← hn,hl,hst]

theorem wp_copy_raw {w:World} {o:Oper} {a:Act} {K:Act→World→Prop} {Q:Exit→Act→World→Prop} (d s:Operand)
  (ho:o.op=.call { callee:=.builtin .copy,args:=#[d,s],argTypes:=#[22,22] })
  (base g n cap:Nat) (xs:List Value) (h:OwnC5 w base g n cap xs) (p dl dc:Nat) (ad:Addr) (sl sc:Nat)
  (hd:a.eval d=.slice (some ⟨g,p * 5,none⟩) dl dc) (hs:a.eval s=.slice (some ad) sl sc) (ms:List Row) (hn:ms.length=Nat.min sl dl) (hsrc:SrcR w ad ms) (hp:p+ms.length≤n)
  (hK:∀ w',OwnC5 w' base g n cap (lay xs (p * 5) (cellsOf ms))→Below g w w'→(∀ x:Addr,x.block ≠ g→w'.cell? x=w.cell? x)→K (a.put o.dst (goInt ms.length)) w'):o.wp Tryz.prog a w K Q:=by
 have hr:=run_copy_raw base g n cap xs h p dl dc ad sl sc ms hn hsrc hp o.type
 unfold Oper.wp execOp
 simp only [ho,resolve,invoke,builtin,Sem.run_bind,Sem.run_pure,Result.andThen_ok,List.map_toArray,List.map_cons,List.map_nil,hd,hs,hr]
 refine hK _ (own_setCells _ _ _ _ h (by rw [cellsOf_len,h.head.2.1,← Nat.add_mul]; exact Nat.mul_le_mul_right _ hp)) (below_setCells (Nat.le_refl _) _ _ _ (Below.refl _ _)) (fun x hx => ?_)
 exact World.cell?_setCells_out g _ _ _ _ (fun hb _ => absurd hb hx)

theorem wpList_copy_raw {w:World} {ops:Array Oper} {rest:List Oper} {o:Oper} {a:Act} {Q:Exit→Act→World→Prop} (hgd:o.guard=none) (d s:Operand)
  (ho:o.op=.call { callee:=.builtin .copy,args:=#[d,s],argTypes:=#[22,22] })
  (base g n cap:Nat) (xs:List Value) (h:OwnC5 w base g n cap xs) (p dl dc:Nat) (ad:Addr) (sl sc:Nat)
  (hd:a.eval d=.slice (some ⟨g,p * 5,none⟩) dl dc) (hs:a.eval s=.slice (some ad) sl sc) (ms:List Row) (hn:ms.length=Nat.min sl dl) (hsrc:SrcR w ad ms) (hp:p+ms.length≤n)
  (hK:∀ w',OwnC5 w' base g n cap (lay xs (p * 5) (cellsOf ms))→Below g w w'→(∀ x:Addr,x.block ≠ g→w'.cell? x=w.cell? x)→wpList Tryz.prog ops Q rest (a.put o.dst (goInt ms.length)) w'):wpList Tryz.prog ops Q (o :: rest) a w :=
 wpList_plain hgd fun _ hK' => wp_copy_raw d s ho base g n cap xs h p dl dc ad sl sc hd hs ms hn hsrc hp fun w' h1 h2 h3 => hK' _ _ (hK w' h1 h2 h3)

theorem step_copy_raw {w:World} {ops:Array Oper} {o:Oper} {a:Act} {K:Act→World→Prop} {Q:Exit→Act→World→Prop} {E:Prop} (hgd:o.guard=none) (d s:Operand)
  (ho:o.op=.call { callee:=.builtin .copy,args:=#[d,s],argTypes:=#[22,22] })
  (base g n cap:Nat) (xs:List Value) (h:OwnC5 w base g n cap xs) (p dl dc:Nat) (ad:Addr) (sl sc:Nat)
  (hd:a.eval d=.slice (some ⟨g,p * 5,none⟩) dl dc) (hs:a.eval s=.slice (some ad) sl sc) (ms:List Row) (hn:ms.length=Nat.min sl dl) (hsrc:SrcR w ad ms) (hp:p+ms.length≤n)
  (hK:∀ w',OwnC5 w' base g n cap (lay xs (p * 5) (cellsOf ms))→Below g w w'→(∀ x:Addr,x.block ≠ g→w'.cell? x=w.cell? x)→K (a.put o.dst (goInt ms.length)) w') :
  if Region.wanted o (yielded ops a.tmps)=true then Oper.wp Tryz.prog o a w K Q else E:=by
 have hw:Region.wanted o (yielded ops a.tmps)=true:=by simp [Region.wanted,hgd]
 rw [if_pos hw]
 exact wp_copy_raw d s ho base g n cap xs h p dl dc ad sl sc hd hs ms hn hsrc hp hK

theorem OwnC5.drew {w:World} {base g n cap:Nat} {xs:List Value} (h:OwnC5 w base g n cap xs):OwnC5 w.drew base g n cap xs:=World.ownsRow.drew h

theorem own_wider {w:World} {base g cap:Nat} {t:List Row} (h:OwnR w base (.slice (some ⟨g,0,none⟩) t.length cap) t) (hc:t.length < cap):∃ z:List Value,z.length=5∧OwnC5 w base g (t.length+1) cap (cellsOf t ++ z):=by
 rcases h with ⟨h0,⟨h',_⟩ | ⟨g',cap',cur,h',hb,hg,hnc,hcm,hcs,htk⟩⟩
 ·simp at h'
 ·simp only [Value.slice.injEq,Option.some.injEq,Addr.mk.injEq,and_true,true_and] at h'
  obtain⟨rfl,rfl⟩:=h'
  have hlen:cur.toList.length=cap * 5:=by rw [Array.length_toList]; exact hcs
  have e:cur.toList.take ((t.length+1) * 5)=cellsOf t ++ (cur.toList.drop (t.length * 5)).take 5:=by
   rw [← htk,show (t.length+1) * 5=t.length * 5+5 by omega,List.take_add]
  refine ⟨(cur.toList.drop (t.length * 5)).take 5,by rw [List.length_take,List.length_drop,hlen]; omega,?_,.inr ⟨g,cap,cur,rfl,hb,hg,by omega,hcm,hcs,e⟩⟩
  rw [← e,List.length_take,hlen]
  omega

theorem lay_room {t:List Row} {i:Nat} (hi:i < t.length) (r:Row) (z:List Value) (hz:z.length=5) :
  lay (lay (cellsOf t ++ z) ((i+1) * 5) (cellsOf (t.drop i))) (i * 5) (cellsOf [r])=cellsOf (put1 t i r):=by
 have e1:(cellsOf t ++ z).drop ((i+1) * 5+(cellsOf (t.drop i)).length)=[]:=by
  apply List.drop_of_length_le
  rw [List.length_append,cellsOf_len,cellsOf_len,List.length_drop,hz]
  omega
 have e2:lay (cellsOf t ++ z) ((i+1) * 5) (cellsOf (t.drop i))=(cellsOf t ++ z).take ((i+1) * 5) ++ cellsOf (t.drop i):=by
  unfold lay
  rw [e1,List.append_nil]
 have hl:((cellsOf t ++ z).take ((i+1) * 5)).length=(i+1) * 5:=by
  rw [List.length_take,List.length_append,cellsOf_len,hz]
  omega
 have e3:((cellsOf t ++ z).take ((i+1) * 5)).take (i * 5)=cellsOf (t.take i):=by
  rw [List.take_take,show min (i * 5) ((i+1) * 5)=i * 5 by omega,List.take_append_of_le_length (by rw [cellsOf_len]; omega),cellsOf_take]
 rw [e2]
 unfold lay put1
 rw [List.take_append_of_le_length (by rw [hl]; omega),e3,List.drop_left' (by rw [hl,cellsOf_len]; simp only [List.length_singleton]; omega)]
 rw [cellsOf_append,cellsOf_append]

theorem put1_len (t:List Row) (i:Nat) (r:Row):(put1 t i r).length=t.length+1:=by
 unfold put1
 rw [List.length_append,List.length_append,List.length_singleton,List.length_take,List.length_drop]
 omega

theorem OwnC5.rows {w:World} {base g cap n:Nat} {t:List Row} (h:OwnC5 w base g n cap (cellsOf t)) (hn:n=t.length):OwnR w base (.slice (some ⟨g,0,none⟩) n cap) t:=by
 subst hn
 exact h

theorem insert_room {w:World} {base g cap:Nat} {t:List Row} (ho:OwnR w base (.slice (some ⟨g,0,none⟩) t.length cap) t) (hl:t.length≤1000) {i:Nat} (hi:i < t.length) (hc:t.length < cap) (hcm:cap≤9223372036854775807) {B:Nat} {r:Row} (hr:Lone w B r) (hne:B ≠ g) :
  Calls Tryz.prog 165 #[.slice (some ⟨g,0,none⟩) t.length cap,.int .i64 i,.slice (some ⟨B,0,none⟩) 1 1] w fun e w' => ∃ u,e=.returned u∧OwnR w' base u (put1 t i r)∧Below base w w':=by
 obtain⟨z,hz,hw⟩:=own_wider ho hc
 have HO:=hZq hw
 have HS:=hZq hr.src
 have hin2:(i:Int)≤(t.length:Int)+1:=by omega
 have S0:Hid (SrcR w.drew ⟨g,i * 5,none⟩ (t.drop i)):=by
  show SrcR _ _ _
  intro j x hx
  exact ho.src i (t.length - i) (by omega) j x (by rw [List.take_of_length_le (by rw [List.length_drop]; omega)]; exact hx)
 have HE:=hZq (lay_room hi r z hz)
 have HG:=hZq ho.head.2.1
 have t0:((i:Int) == (t.length:Int))=false:=by simp; omega
 have t1:¬ cap=i:=by omega
 have t2:¬ cap=i+1:=by omega
 have hw1:IntKind.i64.wrap ((i:Int)+1)=(i:Int)+1:=IntWalk.i64_in _ (by omega)
 have htn:((i:Int)+1).toNat=i+1:=by omega
 have hb0:(0:Int)≤(i:Int)+1:=by omega
 have hin:i≤t.length:=by omega
 have hov:∀ lb cb,(callFunc 183 #[.slice (some ⟨B,0,none⟩) 1 1,.slice (some ⟨g,(i+1) * 5,none⟩) lb cb]).run Tryz.prog w=.ok (.value (.bool false)) w:=fun lb cb => by
  obtain⟨_,_,cur,hg,hcs⟩:=hw.head
  rw [run_callFunc_extern Tryz.func183 (by kernel_rfl) (by kernel_rfl) (by kernel_rfl) (e:=Extern.SlicesOverlaps.overlaps #[22,22] #[4]) (by kernel_rfl),
   Lib.run_overlaps_apart w 22 4 93 Tryz.underlying22 5 Tryz.sizeSeen ⟨B,0,none⟩ ⟨g,(i+1) * 5,none⟩ 1 1 lb cb hne _ _ _ _ hr.shape (own_shape hg) (by omega) (hr.free _) (hr.free _)]
  rfl
 clear ho hr hw
 go_enter Tryz.func165,Tryz.ntmps165
 go_wp2_with (simp only [hov])
 go_region_law (refine step_copy_raw rfl (.tmp 73) (.tmp 76) rfl base g (t.length+1) cap _ HO.out.drew (i+1) (t.length - i) (cap - (i+1)) ⟨g,i * 5,none⟩ (t.length+1 - i) (cap - i) (by simp [Act.eval,Act.put]) (by simp [Act.eval,Act.put]) (t.drop i) (by simp only [List.length_drop,Nat.min_def]; split <;> omega) S0.out (by rw [List.length_drop]; omega) ?_; intro w1 h1 hb1 hk1)
 all_goals
  have O1:=hZq h1
  have B1:=hZq ((Below.refl base w).drew.trans (hb1.mono HG.out))
  have S1:Hid (SrcR w1 ⟨B,0,none⟩ [r]):=by
   show SrcR _ _ _
   intro j x hx
   exact (hk1 _ (by rw [Addr.add_lit]; exact hne)).trans (HS.out j x hx)
  clear h1 hb1 hk1
  go_wp2_with (with_reducible refine wpList_copy_raw rfl (.tmp 80) (.tmp 81) rfl base g (t.length+1) cap _ O1.out i (t.length+1 - i) (cap - i) ⟨B,0,none⟩ 1 1 rfl rfl [r] (by simp only [List.length_singleton,Nat.min_def]; split <;> omega) S1.out (by simp only [List.length_singleton]; omega) ?_)
  intro w2 h2 hb2 hk2
  rw [HE.out] at h2
  have O2:=hZq (h2.rows (put1_len t i r).symm)
  have B2:=hZq (B1.out.trans (hb2.mono HG.out))
  clear h2 hb2 hk2
  go_wp2_with fail
  go_ret
  exact⟨_,rfl,O2.out,B2.out⟩

end Go.Proofs.YtekkofldhhdpgaaGreat

end

section

namespace Go.Proofs.YtekkofldhhdpgaaGreat
open Go.RowKit

theorem OwnR.drew {w:World} {base:Nat} {v:Value} {t:List Row} (h:OwnR w base v t):OwnR w.drew base v t:=World.ownsRow.drew h

theorem own_apart {w:World} {base B:Nat} {v:Value} {t:List Row} (h:OwnR w base v t) (hB:w.heap.size≤B):∀ g n c,v=.slice (some ⟨g,0,none⟩) n c→B ≠ g:=by
 intro g n c e
 subst e
 have:=h.head.2.2.1
 omega

theorem insert_any {w:World} {base:Nat} {v:Value} {t:List Row} (ho:OwnR w base v t) (hbase:base≤w.heap.size) (hl:t.length≤1000) {i:Nat} (hi:i≤t.length) {B:Nat} {r:Row} (hr:Lone w B r) (hne:∀ g n c,v=.slice (some ⟨g,0,none⟩) n c→B ≠ g) :
  Calls Tryz.prog 165 #[v,.int .i64 i,.slice (some ⟨B,0,none⟩) 1 1] w fun e w' => ∃ u,e=.returned u∧OwnR w' base u (put1 t i r)∧Below base w w':=by
 by_cases h:i=t.length
 ·subst h
  exact insert_end ho hbase hl hr
 ·have hi':i < t.length:=by omega
  rcases ho.2 with ⟨rfl,h0⟩ | ⟨g,cap,cur,rfl,_,_,hnc,hcm,_⟩
  ·omega
  ·by_cases hc:cap=t.length
   ·exact insert_grow ho hbase hl hi' hc hr
   ·unfold maxLen at hcm
    exact insert_room ho hl hi' (by omega) (by omega) hr (hne _ _ _ rfl)

def chgAgg (c:Chg):Value:=.agg #[.string ⟨c.c.toArray⟩,.bool c.on,.int .i64 c.v.sh,.int .i64 c.v.pr,.int .i64 c.v.si,.string ⟨c.v.st.toArray⟩]

theorem six_cells (w:World) (a b c d e f:Value) (t:TypeId):(w.alloc (.cells #[a,b,c,d,e,f] t)).cell? ⟨w.heap.size,0,none⟩=some a∧(w.alloc (.cells #[a,b,c,d,e,f] t)).cell? ⟨w.heap.size,1,none⟩=some b∧(w.alloc (.cells #[a,b,c,d,e,f] t)).cell? ⟨w.heap.size,2,none⟩=some c∧(w.alloc (.cells #[a,b,c,d,e,f] t)).cell? ⟨w.heap.size,3,none⟩=some d∧(w.alloc (.cells #[a,b,c,d,e,f] t)).cell? ⟨w.heap.size,4,none⟩=some e∧(w.alloc (.cells #[a,b,c,d,e,f] t)).cell? ⟨w.heap.size,5,none⟩=some f :=
 ⟨by rw [World.cell?_alloc_at _ _ _ _ rfl]; rfl,by rw [World.cell?_alloc_at _ _ _ _ rfl]; rfl,by rw [World.cell?_alloc_at _ _ _ _ rfl]; rfl,by rw [World.cell?_alloc_at _ _ _ _ rfl]; rfl,by rw [World.cell?_alloc_at _ _ _ _ rfl]; rfl,by rw [World.cell?_alloc_at _ _ _ _ rfl]; rfl⟩

theorem keep5b {w w':World} {B C:Nat} {a b c d e:Value} (hb:Below B w w') (hC:C < B)
  (h:w.cell? ⟨C,0,none⟩=some a∧w.cell? ⟨C,2,none⟩=some b∧w.cell? ⟨C,3,none⟩=some c∧w.cell? ⟨C,4,none⟩=some d∧w.cell? ⟨C,5,none⟩=some e) :
  w'.cell? ⟨C,0,none⟩=some a∧w'.cell? ⟨C,2,none⟩=some b∧w'.cell? ⟨C,3,none⟩=some c∧w'.cell? ⟨C,4,none⟩=some d∧w'.cell? ⟨C,5,none⟩=some e :=
 ⟨(hb.cell (p:=⟨C,0,none⟩) hC).trans h.1,(hb.cell (p:=⟨C,2,none⟩) hC).trans h.2.1,(hb.cell (p:=⟨C,3,none⟩) hC).trans h.2.2.1,(hb.cell (p:=⟨C,4,none⟩) hC).trans h.2.2.2.1,(hb.cell (p:=⟨C,5,none⟩) hC).trans h.2.2.2.2⟩

theorem diSet_off {t:List Row} {c:Chg} (h:c.on=false):diSet t c=diRest t c.c:=by unfold diSet; rw [if_neg (by rw [h]; decide)]
theorem diSet_on {t:List Row} {c:Chg} (h:c.on=true):diSet t c=put1 (diRest t c.c) (diPlace (diRest t c.c) c.c) ⟨c.c,c.v⟩:=by unfold diSet; rw [if_pos h]; rfl

theorem diRest_len (t:List Row) (x:List UInt8):(diRest t x).length≤t.length:=by unfold diRest; exact List.length_filter_le _ _

set_option maxRecDepth 1000000 in
theorem set_any {w:World} {v:Value} {t:List Row} (hv:Tab w v t) (hl:t.length≤1000) (c:Chg) :
  Calls Tryz.prog 134 #[v,chgAgg c] w fun e w' => ∃ u,e=.returned u∧OwnR w' w.heap.size u (diSet t c)∧Below w.heap.size w w':=by
 obtain⟨x,on,sh,pr,si,st⟩:=c
 have HW:=hZq (without_any (hv.later ((Below.refl _ _).alloc (Nat.le_refl _) (.cells #[.string ⟨x.toArray⟩,.bool on,.int .i64 sh,.int .i64 pr,.int .i64 si,.string ⟨st.toArray⟩] 58))) (by omega) x)
 have hrl:=diRest_len t x
 obtain⟨a,cap,rfl,_⟩:=hv.open'
 unfold chgAgg
 obtain⟨k0,k1,k2,k3,k4,k5⟩:=six_cells w (.string ⟨x.toArray⟩) (.bool on) (.int .i64 sh) (.int .i64 pr) (.int .i64 si) (.string ⟨st.toArray⟩) 58
 have K0:=hZq k0
 have K1:=hZq k1
 have K2:=hZq k2
 have K3:=hZq k3
 have K4:=hZq k4
 have K5:=hZq k5
 clear hv k0 k1 k2 k3 k4 k5
 go_enter Tryz.func134,Tryz.ntmps134
 go_wp2_with fail
 refine HW.out.mono ?_
 rintro e w1 ⟨u,rfl,ho1,hb1,hz1⟩
 have k0:=cell_later K0.out hb1
 have k1:=cell_later K1.out hb1
 have k2:=cell_later K2.out hb1
 have k3:=cell_later K3.out hb1
 have k4:=cell_later K4.out hb1
 have k5:=cell_later K5.out hb1
 have hsz:w.heap.size+1 < w1.heap.size:=by simpa using hz1
 have B1:Hid (Below w.heap.size w w1):=below2' ((Below.refl _ _).alloc (Nat.le_refl _) _) hb1
 have O1:Hid (OwnR w1 (w.heap.size+1) u (diRest t x)):=ownR_low ho1 (by simp)
 clear HW K0 K1 K2 K3 K4 K5 hb1 ho1 hz1
 cases on with
 | false =>
  have HE:=hZq (diSet_off (t:=t) (c:=⟨x,false,⟨sh,pr,si,st⟩⟩) rfl)
  go_wp2_with fail
  go_ret
  exact⟨_,rfl,by rw [HE.out]; exact ownR_low O1.out (Nat.le_succ _),B1.out⟩
 | true =>
  have HE:=hZq (diSet_on (t:=t) (c:=⟨x,true,⟨sh,pr,si,st⟩⟩) rfl)
  have hpl:diPlace (diRest t x) x≤(diRest t x).length:=plc_le _ _ _
  go_wp2_with fail
  go_region_held (fun W => W.cell? ⟨w.heap.size,0,none⟩=some (.string ⟨x.toArray⟩)∧W.cell? ⟨w.heap.size,2,none⟩=some (.int .i64 sh)∧W.cell? ⟨w.heap.size,3,none⟩=some (.int .i64 pr)∧W.cell? ⟨w.heap.size,4,none⟩=some (.int .i64 si)∧W.cell? ⟨w.heap.size,5,none⟩=some (.string ⟨st.toArray⟩))
   (first | (with_reducible exact keep5b (by assumption) (Nat.lt_succ_self _) (by assumption)) | go_keep)
   ((first
    | (go_at_call 166; go_loud (refine (diplace_any (v:=u) (t:=diRest t x) (by first | exact O1.out.drew.tab | exact (O1.out.drew.alloc _).tab) x).mono ?_; rintro e w2 ⟨rfl,hb2⟩; (have O2:Hid (OwnR w2 (w.heap.size+1) u (diRest t x)):=hZq (by first | exact O1.out.drew.later hb2 | exact (O1.out.drew.alloc _).later hb2)); (have hs2:w.heap.size+1 < w2.heap.size:=by (have:=hb2.size; first | exact Nat.lt_of_lt_of_le hsz this | (simp at this; omega))); (try (refine mpr2 (p:=Lone w2 w1.heap.size ⟨x,⟨sh,pr,si,st⟩⟩) ?_ ?_; (· exact (lone_new w1.drew ⟨x,⟨sh,pr,si,st⟩⟩).later hb2); intro hL2; (have L2:=hZq hL2); clear hL2)); (have B2:Hid (Below w.heap.size w w2):=hZq (by first | exact below2' B1.out.drew hb2 | exact below2' (bl_alloc B1.out.drew _) hb2)); (have hS2:Below (w.heap.size+1) _ w2:=hb2.mono (by first | exact Nat.le_of_lt hsz | (simp; omega))); clear hb2))
    | (go_at_call 165; go_loud (refine (insert_any (base:=w.heap.size+1) (t:=diRest t x) (i:=diPlace (diRest t x) x) (r:=⟨x,⟨sh,pr,si,st⟩⟩) (by first | exact O2.out | exact O2.out.alloc _) (by first | exact Nat.le_of_lt hs2 | (simp; omega)) (by omega) hpl (by first | exact L2.out | exact lone_new w2 ⟨x,⟨sh,pr,si,st⟩⟩) (by first | exact own_apart O1.out (Nat.le_refl _) | exact own_apart (w:=w2) O2.out (Nat.le_refl _) | exact own_apart (O2.out.alloc _) (by simp))).mono ?_; rintro e w3 ⟨u3,rfl,ho3,hb3⟩; (have O3:=hZq ho3); (have B3:Hid (Below w.heap.size w w3):=hZq (by first | exact B2.out.trans (hb3.mono (Nat.le_succ _)) | exact (bl_alloc B2.out _).trans (hb3.mono (Nat.le_succ _)))); clear ho3))))
  all_goals
   go_wp2_with fail
   go_ret
   exact⟨_,rfl,by rw [HE.out]; exact ownR_low O3.out (Nat.le_succ _),B3.out⟩

end Go.Proofs.YtekkofldhhdpgaaGreat

end
