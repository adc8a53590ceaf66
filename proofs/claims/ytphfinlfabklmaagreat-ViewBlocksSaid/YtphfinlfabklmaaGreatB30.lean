/-
 TEXTS OF THE PROOF, one behind the other: DigCts, DigMap, DigChgs, DigChange.
-/
import Derived.Test.YtphfinlfabklmaaGreatB27
import Derived.Test.YtphfinlfabklmaaGreatB16
import Derived.Maps.OwnSet

set_option maxHeartbeats 12800000
set_option maxRecDepth 100000

section

namespace Go.Proofs.YtphfinlfabklmaaGreat
open Go.RowKit

def RowT (w:World) (B:Nat) (u:List (List UInt8)):Prop:=∀ j,j < u.length→w.cell? ⟨B,j,none⟩=some (encS (u.getD j []))∧w.frozen? ⟨B,j,none⟩=false

theorem RowT.set {w:World} {B:Nat} {u:List (List UInt8)} (h:RowT w B u) (j:Nat) (x:List UInt8) (hj:j < u.length):RowT (w.setCell ⟨B,j,none⟩ (encS x)) B (u.set j x):=by
 intro i hi
 have hi':i < u.length:=by simpa using hi
 refine ⟨?_,(World.frozen?_setCell w _ _ _).trans (h i hi').2⟩
 by_cases hij:i=j
 ·subst hij
  rw [World.cell?_setCell_same _ _ _ (h i hj).1]
  simp [List.getD,hj]
 ·rw [World.cell?_setCell_other _ _ _ _ (by simp),(h i hi').1]
  simp [List.getD,show ¬ j=i by omega]

theorem RowT.later {w w':World} {B:Nat} {u:List (List UInt8)} (h:RowT w B u) (hB:B < w.heap.size) (hb:Below w.heap.size w w'):RowT w' B u:=fun j hj =>
 ⟨(hb.cell (p:=⟨B,j,none⟩) hB).trans (h j hj).1,(hb.frozen (p:=⟨B,j,none⟩) hB).trans (h j hj).2⟩

theorem RowT.texts {w:World} {B:Nat} {u:List (List UInt8)} (h:RowT w B u) (hB:B < w.heap.size) (hl:u.length≤4294967296):Texts w (.slice (some ⟨B,0,none⟩) u.length u.length) u :=
 ⟨_,u.length,rfl,Nat.le_refl _,by unfold maxLen; omega,(fun e => by cases e),.inr ⟨B,0,rfl,hB,fun i hi => by rw [Nat.zero_add]; exact (h i hi).1⟩⟩

def ctsAt (t:List Row) (k:Nat):List (List UInt8):=(cts t).take k ++ List.replicate (t.length - k) []

theorem cts_len (t:List Row):(cts t).length=t.length:=by simp [cts]
theorem ctsAt_len {t:List Row} {k:Nat} (h:k≤t.length):(ctsAt t k).length=t.length:=by unfold ctsAt; rw [List.length_append,List.length_take,cts_len,List.length_replicate]; omega
theorem cts_at {t:List Row} {k:Nat} (hk:k < t.length):(cts t)[k]?=some (t.getD k Row.zero).c:=by
 unfold cts
 rw [List.getElem?_map,row_at hk]
 rfl

theorem ctsAt_set {t:List Row} {k:Nat} (hk:k < t.length):(ctsAt t k).set k (t.getD k Row.zero).c=ctsAt t (k+1):=by
 unfold ctsAt
 have h1:((cts t).take k).length=k:=by rw [List.length_take,cts_len]; omega
 have hk2:k < (cts t).length:=by rw [cts_len]; exact hk
 rw [List.set_append_right _ _ (by omega),h1,Nat.sub_self,show t.length - k=(t.length - (k+1))+1 by omega,List.replicate_succ,List.set_cons_zero,List.take_succ_eq_append_getElem hk2]
 have:(cts t)[k]=(t.getD k Row.zero).c:=by
  have:=cts_at hk
  rw [List.getElem?_eq_getElem hk2] at this
  exact Option.some.inj this
 rw [this]
 simp

theorem ctsAt_end (t:List Row):ctsAt t t.length=cts t:=by
 unfold ctsAt
 rw [Nat.sub_self,List.take_of_length_le (by rw [cts_len]; omega)]
 simp

theorem madeTexts (n:Nat):(madeCells (Value.string ⟨#[]⟩).cells (n * 1)).toList=List.replicate n (encS []):=by
 rw [Nat.mul_one]
 exact toList_madeCells_one _ n

theorem wpList_make_texts {w:World} {ops:Array Oper} {rest:List Oper} {o:Oper} {a:Act} {Q:Exit→Act→World→Prop}
  (hg:o.guard=none) (l c:Operand) (hop:o.op=Op.makeSlice 37 l c)
  (L C:Int) (n:Nat) (hl:a.eval l=.int .i64 L) (hc:a.eval c=.int .i64 C) (hL:L=(n:Int)) (hC:C=(n:Int)) (hn:n≤4294967296)
  (hK:∀ w',RowT w' w.heap.size (List.replicate n [])→Below w.heap.size w w'→w.heap.size < w'.heap.size→wpList Tryz.prog ops Q rest (a.put o.dst (.slice (some ⟨w.heap.size,0,none⟩) n n)) w') :
  wpList Tryz.prog ops Q (o :: rest) a w:=by
 obtain⟨i,hi,hz,hsize,hby⟩:=info_parts Tryz.infoStr
 refine wpList_make_full w hg l c _ hop w.heap.size 9 i _ 1 Tryz.underlying37 hi hz hsize .i64 .i64 L C n hl hc hL hC (by rw [hby]; omega) (by unfold maxLen; omega) (Nat.le_refl _) ?_
 intro w' hown hgrow
 refine hK w' (fun j hj => ?_) ((Below.refl _ _).grown hgrow (Nat.le_refl _) (fun k hk => by simp at hk)) (hown.lt w.heap.size rfl).2
 have hj':j < n:=by simpa using hj
 refine ⟨?_,hown.frozenAt j⟩
 rw [hown.cellAt j (by omega),madeTexts]
 simp [List.getD,hj']

theorem contacts_any {w:World} {v:Value} {t:List Row} (hv:Tab w v t) (hl:t.length≤4294967296) :
  Calls Tryz.prog 130 #[v] w fun e w' => ∃ u,e=.returned u∧Texts w' u (cts t)∧Below w.heap.size w w':=by
 have HV:=hD hv
 obtain⟨a,cap,rfl,_⟩:=hv.open'
 clear hv
 go_enter Tryz.func130,Tryz.ntmps130
 go_wp2_with (at_make; go_must (refine wpList_make_texts rfl _ _ rfl _ _ t.length rfl rfl (by omega) (by omega) (by omega) ?_))
 intro w1 h1 hb1 hz1
 have R1:Hid (RowT w1 w.heap.size (ctsAt t 0)):=by show RowT _ _ _; simpa [ctsAt] using h1
 have B1:=hD hb1
 clear h1 hb1
 go_wp2_with fail
 go_loopw [11] (fun i wr => ∃ k:Nat,k≤t.length∧i=.int .i64 k∧Hid (RowT wr w.heap.size (ctsAt t k))∧Hid (Below w.heap.size w wr)∧w.heap.size < wr.heap.size) (fun i _ => t.length - (intOf i).toNat)
 case atStart => exact⟨0,by omega,rfl,R1,B1,hz1⟩
 case round =>
  clear R1 B1 hz1
  obtain⟨k,hk,rfl,HR,HN,hz⟩:=hrel
  by_cases hlt:k < t.length
  ·obtain⟨b,off,rfl,h0,h1,h2,h3,h4⟩:=HV.out.row HN.out k hlt
   have HS:=HR.out.set k (t.getD k Row.zero).c (by rw [ctsAt_len (by omega)]; exact hlt)
   rw [ctsAt_set hlt] at HS
   have hc0:=(HR.out k (by rw [ctsAt_len (by omega)]; exact hlt)).1
   have hf0:=(HR.out k (by rw [ctsAt_len (by omega)]; exact hlt)).2
   obtain⟨⟨c,⟨x,y,z,st⟩⟩,hr⟩ : ∃ r,t.getD k Row.zero=r:=⟨_,rfl⟩
   rw [hr] at h0 h1 h2 h3 h4 HS
   simp only at h0 h1 h2 h3 h4 HS
   unfold encS at HS hc0
   have HS2:=hD HS
   have HN2:Hid (Below w.heap.size w (wr.setCell ⟨w.heap.size,k,none⟩ (.string ⟨c.toArray⟩))):=HN.out.setCell (Nat.le_refl _) _
   have hz2:w.heap.size < (wr.setCell ⟨w.heap.size,k,none⟩ (.string ⟨c.toArray⟩)).heap.size:=by simpa using hz
   have HS3:=hD (HS2.out.later hz2 ((Below.refl _ _).alloc (Nat.le_refl _) (.cells #[.string ⟨c.toArray⟩,.int .i64 x,.int .i64 y,.int .i64 z,.string ⟨st.toArray⟩] 45)))
   have HN3:=hD (bl_alloc HN2.out (.cells #[.string ⟨c.toArray⟩,.int .i64 x,.int .i64 y,.int .i64 z,.string ⟨st.toArray⟩] 45))
   clear hr HS
   go_wp2_with fail
   go_roundw
   case rel => exact⟨k+1,by omega,by go_num,HS3,HN3,by simp; omega⟩
   case measure => simp [intOf]; omega
  ·obtain rfl:k=t.length:=by omega
   have HT:Hid (Texts wr (.slice (some ⟨w.heap.size,0,none⟩) t.length t.length) (cts t)):=by
    show Texts _ _ _
    have:=HR.out
    rw [ctsAt_end] at this
    have h2:=this.texts hz (by rw [cts_len]; exact hl)
    rwa [cts_len] at h2
   go_wp2_with fail
   go_ret
   exact⟨_,rfl,HT.out,HN.out⟩

end Go.Proofs.YtphfinlfabklmaaGreat

end

section

namespace Go.Proofs.YtphfinlfabklmaaGreat
open Go.RowKit Go.ChangeMaps Go.MapKept

def seenData (r:Row):DataW Unit:=.agg [.lit (.string r.c),.lit (.int .i64 r.v.sh),.lit (.int .i64 r.v.pr),.lit (.int .i64 r.v.si),.lit (.string r.v.st)]

def seenElem:Value→Option (DataW Unit × List MemPlace)
 | .agg cs => match cs.toList with
  | [.string c,.int .i64 x,.int .i64 y,.int .i64 z,.string s] => some (seenData ⟨c.data.toList,x,y,z,s.data.toList⟩,[])
  | _ => none
 | _ => none

theorem seenElem_mk (r:Row):seenElem (rowAgg r)=some (seenData r,[]):=rfl

theorem seenData_inj {r s:Row} (h:seenData r=seenData s):r=s:=by
 obtain⟨c,⟨x,y,z,st⟩⟩:=r
 obtain⟨c',⟨x',y',z',st'⟩⟩:=s
 simp only [seenData,DataW.agg.injEq,List.cons.injEq,DataW.lit.injEq,Lit.string.injEq,Lit.int.injEq,true_and,and_true] at h
 obtain⟨rfl,rfl,rfl,rfl,rfl⟩:=h
 rfl

theorem seenElem_inv {v:Value} {z:DataW Unit × List MemPlace} (h:seenElem v=some z):∃ r,v=rowAgg r∧z=(seenData r,[]):=by
 unfold seenElem at h
 split at h
 ·rename_i cs
  split at h
  ·rename_i c x y z s he
   refine ⟨⟨c.data.toList,x,y,z,s.data.toList⟩,?_,(Option.some.inj h).symm⟩
   obtain⟨l⟩:=cs
   simp only at he
   subst he
   obtain⟨⟨c⟩⟩:=c
   obtain⟨⟨s⟩⟩:=s
   rfl
  ·cases h
 ·cases h

def firstRow (t:List Row) (x:List UInt8):Row:=if (diGet t x).2=true then ⟨x,(diGet t x).1⟩ else Row.zero

def FirstsAt (w:World) (B:Nat) (t:List Row):Prop :=
 ∃ n,∃ D:DataW Unit,n≤t.length∧w.ownsMap Tryz.prog 9 seenElem B n D ∧
  ∀ x:List UInt8,Maps.has D (.string x)=(diGet t x).2∧D.atKey (.string x) (seenData Row.zero)=seenData (firstRow t x)

theorem firstsAt_made (w:World):FirstsAt (w.alloc (.map #[] 0)) w.heap.size [] :=
 ⟨0,.map [],Nat.le_refl _,World.ownsMap_made w _ _ _,fun _ => ⟨rfl,rfl⟩⟩

theorem FirstsAt.lt {w:World} {B:Nat} {t:List Row} (h:FirstsAt w B t):B < w.heap.size:=by
 obtain⟨_,_,_,h,_⟩:=h
 exact h.lt

theorem FirstsAt.later {w w':World} {B:Nat} {t:List Row} (h:FirstsAt w B t) (hb:Below w.heap.size w w'):FirstsAt w' B t:=by
 have hlt:=h.lt
 obtain⟨n,D,h1,⟨es,clock,h2,h3,h4,h5⟩,h6⟩:=h
 exact⟨n,D,h1,⟨es,clock,(hb.block B hlt).trans h2,h3,h4,h5⟩,h6⟩

theorem zeroSeen (w:World):(zeroValue 45).run Tryz.prog w=.ok (rowAgg Row.zero) w:=by kernel_rfl

theorem key_at (x:List UInt8) (h:x.length≤4294967296):keyOf Tryz.prog 9 (.string ⟨x.toArray⟩)=some (.string x) :=
 WideMaps.keyOf_string_mk Tryz.underlying9 (by rw [size_bytes]; unfold maxLen; omega)

theorem FirstsAt.look {w:World} {B:Nat} {t:List Row} (h:FirstsAt w B t) (x:List UInt8) (hx:x.length≤4294967296) :
  (Instr.lookup 158 (.map (some B)) (.string ⟨x.toArray⟩) true).run Tryz.prog w=.ok (.tuple #[rowAgg (firstRow t x),.bool (diGet t x).2]) w:=by
 obtain⟨n,D,h1,h2,h3⟩:=h
 obtain⟨v,ps,hrun,hv⟩:=h2.look_ok (Maps.string_keyed Tryz.underlying9) Tryz.underlying158 (zeroSeen w) (seenElem_mk Row.zero) (key_at x hx)
 rw [(h3 x).2] at hv
 obtain⟨r,rfl,hr⟩:=seenElem_inv hv
 simp only [Prod.mk.injEq] at hr
 rw [← seenData_inj hr.1,(h3 x).1] at hrun
 exact hrun

theorem diGet_snoc (t:List Row) (r:Row) (x:List UInt8):diGet (t ++ [r]) x=if (diGet t x).2=true then diGet t x else (if r.c=x then (r.v,true) else (Val.zero,false)):=by
 rw [diGet_append]
 rfl

theorem FirstsAt.old {w:World} {B:Nat} {t:List Row} (h:FirstsAt w B t) (r:Row) (hr:(diGet t r.c).2=true):FirstsAt w B (t ++ [r]):=by
 obtain⟨n,D,h1,h2,h3⟩:=h
 have key:∀ x,diGet (t ++ [r]) x=diGet t x:=fun x => by
  rw [diGet_snoc]
  by_cases hx:(diGet t x).2=true
  ·rw [if_pos hx]
  ·rw [if_neg hx]
   have:¬ r.c=x:=fun e => hx (by rw [← e]; exact hr)
   rw [if_neg this]
   exact ((diGet_zero t x).resolve_left hx).symm
 refine ⟨n,D,by simp; omega,h2,fun x => ?_⟩
 unfold firstRow
 rw [key x]
 exact h3 x

theorem wpList_first {w:World} {ops:Array Oper} {rest:List Oper} {o:Oper} {a:Act} {Q:Exit→Act→World→Prop}
  (hg:o.guard=none) (m x v:Operand) (hop:o.op=Op.mapUpdate 158 m x v) (B:Nat) (t:List Row) (hm:a.eval m=.map (some B)) (hown:FirstsAt w B t) (hS:t.length≤4294967296)
  (r:Row) (hu:r.c.length≤4294967296) (hx:a.eval x=.string ⟨r.c.toArray⟩) (hv:a.eval v=rowAgg r) (hno:(diGet t r.c).2=false)
  (hK:∀ w',FirstsAt w' B (t ++ [r])→w.grownBy w' (some B)→wpList Tryz.prog ops Q rest (a.put o.dst undef) w') :
  wpList Tryz.prog ops Q (o :: rest) a w:=by
 obtain⟨n,D,h1,h2,h3⟩:=hown
 refine wpList_mapUpdate_own w hg m x v _ hop _ _ (Maps.string_keyed Tryz.underlying9) Tryz.underlying158 _ B n D hm h2 (by unfold maxLen; omega) _ _ (.string r.c) hx hv (key_at r.c hu) (seenData r) [] (seenElem_mk r) ?_
 intro w' h6 h7
 have hT:=h2.tidy (Maps.string_keyed Tryz.underlying9)
 have hne:∀ y:List UInt8,¬ y=r.c→(Lit.string y) ≠ .string r.c:=fun y h e => h (by injection e)
 refine hK w' ⟨n+1,_,by simp; omega,h6,fun y => ?_⟩ h7
 unfold firstRow
 rw [diGet_snoc]
 by_cases e:y=r.c
 ·subst e
  rw [Maps.has_put_same hT.isMap (show WideAt.IsKeyLit (.string r.c) from True.intro),Maps.atKey_put_same hT.isMap (show WideAt.IsKeyLit (.string r.c) from True.intro)]
  rw [if_neg (by rw [hno]; decide),if_pos rfl]
  exact⟨rfl,rfl⟩
 ·rw [Maps.has_put_other (hne y e),Maps.atKey_put_other (hne y e),(h3 y).1,(h3 y).2]
  have e':¬ r.c=y:=fun h => e h.symm
  rw [if_neg e']
  unfold firstRow
  by_cases hy:(diGet t y).2=true
  ·rw [if_pos hy]
   exact⟨rfl,rfl⟩
  ·rw [if_neg hy,if_neg hy]
   exact⟨by simpa using hy,rfl⟩

theorem run_makeMap_hint {P:Program} {k e:TypeId} (t:TypeId) (ht:P.underlying t=some (.map k e)) (n:Int) (w:World):(Instr.makeMap t (some (.int .i64 n))).run P w=.ok (.map (some w.heap.size)) (w.alloc (.map #[] 0)):=by
 simp [Instr.makeMap,run_underlying ht,asInt,asIntOf]

theorem firsts_any {w:World} {v:Value} {t:List Row} (hv:Tab w v t) (hs:Short t) (hl:t.length≤4294967296) :
  Calls Tryz.prog 129 #[v] w fun e w' => e=.returned (.map (some w.heap.size))∧FirstsAt w' w.heap.size t∧Below w.heap.size w w':=by
 have HV:=hD hv
 have HS:=hD hs
 obtain⟨a,cap,rfl,_⟩:=hv.open'
 have hmk:=fun (n:Int) w => run_makeMap_hint 158 Tryz.underlying158 n w
 clear hv hs
 go_enter Tryz.func129,Tryz.ntmps129
 go_wp2_with fail
 clear hmk
 go_loopw [13] (fun i wr => ∃ k:Nat,k≤t.length∧i=.int .i64 k∧Hid (FirstsAt wr w.heap.size (t.take k))∧Hid (Below w.heap.size w wr)) (fun i _ => t.length - (intOf i).toNat)
 case atStart => exact⟨0,by omega,rfl,firstsAt_made w,(Below.refl _ _).alloc (Nat.le_refl _) _⟩
 case round =>
  obtain⟨k,hk,rfl,HF,HN⟩:=hrel
  by_cases hlt:k < t.length
  ·obtain⟨b,off,rfl,h0,h1,h2,h3,h4⟩:=HV.out.row HN.out k hlt
   obtain⟨hl1,_⟩:=HS.out.get hlt
   have hT:t.take (k+1)=t.take k ++ [t.getD k Row.zero]:=by rw [List.take_succ_eq_append_getElem hlt,row_get hlt]
   obtain⟨⟨c,⟨x,y,z,st⟩⟩,hr⟩ : ∃ r,t.getD k Row.zero=r:=⟨_,rfl⟩
   rw [hr] at h0 h1 h2 h3 h4 hl1 hT
   have HT:=hD hT
   simp only at h0 h1 h2 h3 h4 hl1
   have htl:(t.take k).length≤4294967296:=by rw [List.length_take]; omega
   have HFa:=hD (HF.out.later ((Below.refl _ _).alloc (Nat.le_refl _) (.cells #[.string ⟨c.toArray⟩,.int .i64 x,.int .i64 y,.int .i64 z,.string ⟨st.toArray⟩] 45)))
   have N1:=hD (bl_alloc HN.out (.cells #[.string ⟨c.toArray⟩,.int .i64 x,.int .i64 y,.int .i64 z,.string ⟨st.toArray⟩] 45))
   have hlk:=HFa.out.look c hl1
   obtain⟨⟨c0,⟨x0,y0,z0,st0⟩⟩,hrow⟩ : ∃ r,firstRow (t.take k) c=r:=⟨_,rfl⟩
   rw [hrow] at hlk
   unfold rowAgg at hlk
   simp only at hlk
   have hsz:=HF.out.lt
   clear hr hT hrow
   cases hg:(diGet (t.take k) c).2 with
   | true =>
    rw [hg] at hlk
    have F2:Hid (FirstsAt wr w.heap.size (t.take (k+1))):=by show FirstsAt _ _ _; rw [HT.out]; exact HF.out.old ⟨c,x,y,z,st⟩ hg
    have F3:=hD ((F2.out.later ((Below.refl _ _).alloc (Nat.le_refl _) (.cells #[.string ⟨c.toArray⟩,.int .i64 x,.int .i64 y,.int .i64 z,.string ⟨st.toArray⟩] 45))).later ((Below.refl _ _).alloc (Nat.le_refl _) (.cells #[.string ⟨c0.toArray⟩,.int .i64 x0,.int .i64 y0,.int .i64 z0,.string ⟨st0.toArray⟩] 45)))
    have N2:=hD (bl_alloc N1.out (.cells #[.string ⟨c0.toArray⟩,.int .i64 x0,.int .i64 y0,.int .i64 z0,.string ⟨st0.toArray⟩] 45))
    clear hg
    go_wp2_with fail
    go_roundw
    case rel => exact⟨k+1,by omega,by go_num,F3,N2⟩
    case measure => simp [intOf]; omega
   | false =>
    rw [hg] at hlk
    have HG:=hD hg
    have F3:=hD (HFa.out.later ((Below.refl _ _).alloc (Nat.le_refl _) (.cells #[.string ⟨c0.toArray⟩,.int .i64 x0,.int .i64 y0,.int .i64 z0,.string ⟨st0.toArray⟩] 45)))
    have N2:=hD (bl_alloc N1.out (.cells #[.string ⟨c0.toArray⟩,.int .i64 x0,.int .i64 y0,.int .i64 z0,.string ⟨st0.toArray⟩] 45))
    have hz2:=N2.out.size
    clear hg
    go_wp2_with (at_mapUpdate; refine wpList_first rfl _ _ _ rfl w.heap.size (t.take k) rfl F3.out htl ⟨c,x,y,z,st⟩ hl1 rfl rfl HG.out ?_; intro w2 hs2 hg2)
    rw [← HT.out] at hs2
    have F4:=hD hs2
    have N3:=hD (N2.out.grown hg2 hz2 (fun i e => by injection e with e; omega))
    clear hs2 hg2
    go_wp2_with fail
    go_roundw
    case rel => exact⟨k+1,by omega,by go_num,F4,N3⟩
    case measure => simp [intOf]; omega
  ·obtain rfl:k=t.length:=by omega
   rw [List.take_length] at HF
   go_wp2_with fail
   go_ret
   exact⟨rfl,HF.out,HN.out⟩

end Go.Proofs.YtphfinlfabklmaaGreat

end

section

namespace Go.Proofs.YtphfinlfabklmaaGreat
open Go.RowKit

def Chg.zero:Chg:=⟨[],false,Val.zero⟩

def chgVals (r:Chg):List Value:=[.string ⟨r.c.toArray⟩,.bool r.on,.int .i64 r.v.sh,.int .i64 r.v.pr,.int .i64 r.v.si,.string ⟨r.v.st.toArray⟩]

def Cells6 (w:World) (b o:Nat) (r:Chg):Prop :=
 w.cell? ⟨b,o,none⟩=some (.string ⟨r.c.toArray⟩)∧w.cell? ⟨b,o+1,none⟩=some (.bool r.on)∧w.cell? ⟨b,o+2,none⟩=some (.int .i64 r.v.sh)∧w.cell? ⟨b,o+3,none⟩=some (.int .i64 r.v.pr) ∧
  w.cell? ⟨b,o+4,none⟩=some (.int .i64 r.v.si)∧w.cell? ⟨b,o+5,none⟩=some (.string ⟨r.v.st.toArray⟩)

theorem Cells6.later {w w':World} {b o:Nat} {r:Chg} (h:Cells6 w b o r) (hb:Below w.heap.size w w') (hlt:b < w.heap.size):Cells6 w' b o r:=by
 obtain⟨h0,h1,h2,h3,h4,h5⟩:=h
 have k:∀ o,w'.cell? ⟨b,o,none⟩=w.cell? ⟨b,o,none⟩:=fun o => hb.cell (p:=⟨b,o,none⟩) hlt
 exact⟨(k _).trans h0,(k _).trans h1,(k _).trans h2,(k _).trans h3,(k _).trans h4,(k _).trans h5⟩

def Chgs (w:World) (v:Value) (t:List Chg):Prop :=
 ∃ a cap,v=.slice a t.length cap∧t.length≤cap∧cap≤maxLen∧(a=none→cap=0) ∧
  (t=[]∨∃ b off,a=some ⟨b,off,none⟩∧b < w.heap.size∧∀ i,i < t.length→Cells6 w b (off+i * 6) (t.getD i Chg.zero))

theorem Chgs.later {w w':World} {v:Value} {t:List Chg} (h:Chgs w v t) (hb:Below w.heap.size w w'):Chgs w' v t:=by
 obtain⟨a,cap,h1,h2,h3,h4,h5⟩:=h
 refine ⟨a,cap,h1,h2,h3,h4,?_⟩
 rcases h5 with h5 | ⟨b,off,e,hlt,hc⟩
 ·exact .inl h5
 ·exact .inr ⟨b,off,e,Nat.lt_of_lt_of_le hlt hb.size,fun i hi => (hc i hi).later hb hlt⟩

theorem chgs_nil (w:World):Chgs w (.slice none 0 0) []:=⟨none,0,rfl,by simp,by simp,fun _ => rfl,.inl rfl⟩

theorem Chgs.row {w wr:World} {a:Option Addr} {n cap:Nat} {t:List Chg} (h:Chgs w (.slice a n cap) t) (hb:Below w.heap.size w wr) (k:Nat) (hk:k < t.length) :
  ∃ b off,a=some ⟨b,off,none⟩∧Cells6 wr b (off+k * 6) (t.getD k Chg.zero):=by
 obtain⟨a',cap',e,_,_,_,h⟩:=h.later hb
 simp only [Value.slice.injEq] at e
 rcases h with h | ⟨b,off,e',_,hc⟩
 ·rw [h] at hk; simp at hk
 ·exact⟨b,off,e.1.trans e',hc k hk⟩

theorem Chgs.open' {w:World} {v:Value} {t:List Chg} (h:Chgs w v t):∃ a cap,v=.slice a t.length cap∧t.length≤9223372036854775807:=by
 obtain⟨a,cap,e,h1,h2,_⟩:=h
 unfold maxLen at h2
 exact⟨a,cap,e,by omega⟩

def cellsOfC (t:List Chg):List Value:=(t.map chgVals).flatten

theorem cellsOfC_cons (r:Chg) (t:List Chg):cellsOfC (r :: t)=chgVals r ++ cellsOfC t:=rfl
theorem cellsOfC_append (a b:List Chg):cellsOfC (a ++ b)=cellsOfC a ++ cellsOfC b:=by simp [cellsOfC]
theorem cellsOfC_one (r:Chg):cellsOfC [r]=chgVals r:=by simp [cellsOfC]

theorem chgVals_len (r:Chg):(chgVals r).length=6:=rfl

theorem cellsOfC_len:∀ t:List Chg,(cellsOfC t).length=t.length * 6
 | [] => rfl
 | r :: t => by rw [cellsOfC_cons,List.length_append,chgVals_len,cellsOfC_len t,List.length_cons]; omega

theorem cellsOfC_at:∀ (t:List Chg) (i j:Nat),i < t.length→j < 6→(cellsOfC t)[i * 6+j]?=(chgVals (t.getD i Chg.zero))[j]?
 | [],i,j,h,_ => by simp at h
 | r :: t,0,j,_,hj => by
  rw [cellsOfC_cons,Nat.zero_mul,Nat.zero_add,List.getElem?_append_left (by rw [chgVals_len]; exact hj)]
  rfl
 | r :: t,i+1,j,h,hj => by
  rw [cellsOfC_cons,List.getElem?_append_right (by rw [chgVals_len]; omega),chgVals_len,show (i+1) * 6+j - 6=i * 6+j by omega,cellsOfC_at t i j (by simpa using h) hj]
  rfl

theorem cellsOfC_single (t:List Chg):∀ u ∈ cellsOfC t,u.oneCell'=true:=by
 intro u hu
 obtain⟨l,hl,hu⟩:=List.mem_flatten.1 hu
 obtain⟨r,_,rfl⟩:=List.mem_map.1 hl
 simp only [chgVals,List.mem_cons,List.not_mem_nil,or_false] at hu
 rcases hu with rfl | rfl | rfl | rfl | rfl | rfl <;> rfl

theorem cells6_of {w:World} {b o:Nat} {r:Chg} (h:∀ j u,(chgVals r)[j]?=some u→w.cell? ⟨b,o+j,none⟩=some u):Cells6 w b o r :=
 ⟨h 0 _ rfl,h 1 _ rfl,h 2 _ rfl,h 3 _ rfl,h 4 _ rfl,h 5 _ rfl⟩

def OwnC (w:World) (base:Nat) (v:Value) (t:List Chg):Prop:=w.ownsRow base 57 6 v t.length (cellsOfC t)

theorem OwnC.alloc {w:World} {base:Nat} {v:Value} {t:List Chg} (h:OwnC w base v t) (o:Obj):OwnC (w.alloc o) base v t:=World.ownsRow.alloc h o

theorem ownC_nil (w:World) (base:Nat):OwnC w base (.slice none 0 0) []:=World.ownsRow_nil w base _ _

theorem OwnC.later {w w':World} {base:Nat} {v:Value} {t:List Chg} (h:OwnC w base v t) (hb:Below w.heap.size w w'):OwnC w' base v t:=by
 refine ⟨h.1,?_⟩
 rcases h.2 with h' | ⟨g,cap,cur,h1,h2,h3,h4⟩
 ·exact .inl h'
 ·exact .inr ⟨g,cap,cur,h1,h2,by rw [hb.block g (Array.getElem?_eq_some_iff.1 h3).1]; exact h3,h4⟩

theorem OwnC.chgs {w:World} {base:Nat} {v:Value} {t:List Chg} (h:OwnC w base v t):Chgs w v t:=by
 rcases h with ⟨_,⟨rfl,h0⟩ | ⟨g,cap,cur,rfl,hb,hg,hn,hc,hsz,htk⟩⟩
 ·obtain rfl:t=[]:=List.length_eq_zero_iff.1 h0
  exact chgs_nil w
 ·refine ⟨some ⟨g,0,none⟩,cap,rfl,hn,hc,(fun e => by cases e),.inr ⟨g,0,rfl,(Array.getElem?_eq_some_iff.1 hg).1,fun i hi => ?_⟩⟩
  refine cells6_of fun j u hu => ?_
  have hj:j < 6:=by have:=(List.getElem?_eq_some_iff.1 hu).1; rwa [chgVals_len] at this
  rw [Nat.zero_add,cell_of_row w g (i * 6+j) cur _ (0,0) hg]
  have h1:cur.toList[i * 6+j]?=(cellsOfC t)[i * 6+j]?:=by
   rw [← htk,List.getElem?_take,if_pos (by omega)]
  rw [← hu,← cellsOfC_at t i j hi hj,← h1]
  simp

theorem Tryz.infoChange:(Tryz.prog.info? 57).map (fun i => (i.zero,i.size,i.bytes))=some (some (.agg #[.string ⟨#[]⟩,.bool false,.int .i64 0,.int .i64 0,.int .i64 0,.string ⟨#[]⟩]),6,64):=by kernel_rfl

theorem wpList_append_chgs {w:World} {ops:Array Oper} {rest:List Oper} {o:Oper} {a:Act} {Q:Exit→Act→World→Prop}
  (hgd:o.guard=none) (s x:Operand) (ho:o.op=.call { callee:=.builtin .append,args:=#[s,x],argTypes:=#[40,40] })
  (base:Nat) (v:Value) (t:List Chg) (hs:a.eval s=v) (hown:OwnC w base v t)
  (ao:Option Addr) (m c:Nat) (ms:List Chg) (hx:a.eval x=.slice ao m c) (hm:m=ms.length) (hnone:ao=none→c=0∧ms=[])
  (hsome:∀ ad,ao=some ad→∀ j u,(cellsOfC ms)[j]?=some u→w.cell? (ad.add j)=some u)
  (hlen:t.length+ms.length < 4294967296) (hbase:base≤w.heap.size)
  (h:∀ v' w',OwnC w' base v' (t ++ ms)→Below base w w'→wpList Tryz.prog ops Q rest (a.put o.dst v') w') :
  wpList Tryz.prog ops Q (o :: rest) a w:=by
 obtain⟨i,hi,hz,hsize,hby⟩:=info_parts Tryz.infoChange
 cases ao with
 | none =>
  obtain⟨rfl,rfl⟩:=hnone rfl
  simp only [List.length_nil] at hm
  subst hm
  exact wpList_append_own_none hgd s x 40 ho base 57 i 6 Tryz.underlying40 hi v t.length (cellsOfC t) hs hown hx (h v w (by simpa using hown) (Below.refl _ _))
 | some ad =>
  subst hm
  refine wpList_append_own _ hgd s x 40 ho base 57 i _ 6 64 Tryz.underlying40 hi hz hsize hby rfl (by decide) v t.length (cellsOfC t) hs hown ad ms.length c (cellsOfC ms) hx (cellsOfC_len ms) (hsome ad rfl) (cellsOfC_single ms)
   (by unfold maxLen; omega) (by omega) hbase ?_
  intro v' w' hown' hgrow _
  refine h v' w' ?_ ((Below.refl base w).grown hgrow hbase (fun k hk => (World.ownsRow.lt hown k hk).1))
  unfold OwnC
  rw [cellsOfC_append,List.length_append]
  exact hown'

theorem new_chg {w:World} {r:Chg} {e:TypeId} {B:Nat} (hB:B=w.heap.size):∀ ad,some (⟨B,0,none⟩ : Addr)=some ad→∀ j u,(cellsOfC [r])[j]?=some u→(w.alloc (.cells #[.string ⟨r.c.toArray⟩,.bool r.on,.int .i64 r.v.sh,.int .i64 r.v.pr,.int .i64 r.v.si,.string ⟨r.v.st.toArray⟩] e)).cell? (ad.add j)=some u:=by
 intro ad had j u hu
 subst hB
 obtain rfl:=Option.some.inj had
 rw [cellsOfC_one] at hu
 rw [Addr.add_lit,Nat.zero_add,World.cell?_alloc_at _ _ _ _ rfl,← hu]
 simp [chgVals]

end Go.Proofs.YtphfinlfabklmaaGreat

end

section

namespace Go.Proofs.YtphfinlfabklmaaGreat
open Go.RowKit

theorem firstRow_v (t:List Row) (x:List UInt8):(firstRow t x).v=(diGet t x).1:=by
 unfold firstRow
 rcases diGet_zero t x with h | h
 ·rw [if_pos h]
 ·rw [h]; rfl

theorem gSame_rows (a b:List Row) (x:List UInt8) (h:(diGet a x).2=(diGet b x).2):gSame (diGet a x) (diGet b x)=rSame (firstRow a x) (firstRow b x):=by
 rw [Bool.eq_iff_iff,gSame_iff,rSame_iff]
 unfold firstRow
 constructor
 ·intro e; rw [e]
 ·intro e
  cases hb:(diGet b x).2 with
  | true =>
   rw [hb] at h
   rw [if_pos h,if_pos hb] at e
   simp only [Row.mk.injEq,true_and] at e
   exact Prod.ext e (h.trans hb.symm)
  | false =>
   rw [hb] at h
   have h1:=(diGet_zero a x).resolve_left (by rw [h]; decide)
   have h2:=(diGet_zero b x).resolve_left (by rw [hb]; decide)
   rw [h1,h2]

theorem chg_none {a b:List Row} {x:List UInt8} (h:gSame (diGet a x) (diGet b x)=true):chg a b x=none:=by unfold chg; rw [if_pos h]
theorem chg_some {a b:List Row} {x:List UInt8} (h:gSame (diGet a x) (diGet b x)=false):chg a b x=some ⟨x,(diGet b x).2,(diGet b x).1⟩:=by unfold chg; rw [if_neg (by rw [h]; decide)]

theorem gSame_not {a b:List Row} {x:List UInt8} (h:¬ (diGet a x).2=(diGet b x).2):gSame (diGet a x) (diGet b x)=false:=by
 rw [Bool.eq_false_iff]
 intro e
 rw [gSame_iff] at e
 exact h (by rw [e])

def chgsAt (a b:List Row) (k:Nat):List Chg:=((mrg (cts a ++ cts b)).take k).filterMap (chg a b)

theorem chgsAt_end (a b:List Row):chgsAt a b (mrg (cts a ++ cts b)).length=diChanges a b:=by unfold chgsAt diChanges; rw [List.take_length]

theorem chgsAt_next {a b:List Row} {k:Nat} (hk:k < (mrg (cts a ++ cts b)).length):chgsAt a b (k+1)=chgsAt a b k ++ (chg a b ((mrg (cts a ++ cts b)).getD k [])).toList:=by
 unfold chgsAt
 rw [List.take_succ_eq_append_getElem hk,List.filterMap_append]
 have:(mrg (cts a ++ cts b))[k]=(mrg (cts a ++ cts b)).getD k []:=by simp [List.getD,List.getElem?_eq_getElem hk]
 rw [this]
 congr 1

theorem chgsAt_len (a b:List Row) (k:Nat):(chgsAt a b k).length≤k:=by
 unfold chgsAt
 refine Nat.le_trans (List.length_filterMap_le _ _) ?_
 rw [List.length_take]
 omega

theorem cts_short {t:List Row} (h:Short t):∀ x ∈ cts t,x.length≤4294967296:=by
 intro x hx
 obtain⟨r,hr,rfl⟩:=List.mem_map.1 hx
 exact (h r hr).1

set_option maxRecDepth 1000000 in
theorem changes_any {w:World} {va vb:Value} {a b:List Row} (ha:Tab w va a) (hb:Tab w vb b) (sa:Short a) (sb:Short b) (la:a.length≤100) (lb:b.length≤100) :
  Calls Tryz.prog 73 #[va,vb] w fun e w' => ∃ v,e=.returned v∧Chgs w' v (diChanges a b)∧Below w.heap.size w w':=by
 have HA:=hD ha
 have HB:=hD hb
 have SA:=hD sa
 have SB:=hD sb
 obtain⟨aa,ca,rfl,_⟩:=ha.open'
 obtain⟨ab,cb,rfl,_⟩:=hb.open'
 have HX:Hid (∀ x ∈ mrg (cts a ++ cts b),x.length≤4294967296):=by
  show ∀ x ∈ _,_
  intro x hx
  rw [mrg_mem] at hx
  rcases List.mem_append.1 hx with h | h
  ·exact cts_short sa x h
  ·exact cts_short sb x h
 have hml:=mrg_len (cts a ++ cts b)
 rw [List.length_append,cts_len,cts_len] at hml
 have HEnd:=hD (chgsAt_end a b)
 have HNext:Hid (∀ k,k < (mrg (cts a ++ cts b)).length→chgsAt a b (k+1)=chgsAt a b k ++ (chg a b ((mrg (cts a ++ cts b)).getD k [])).toList):=fun k hk => chgsAt_next hk
 clear ha hb sa sb
 go_enter Tryz.func73,Tryz.ntmps73
 go_wp2_with fail
 refine (firsts_any HA.out SA.out (by omega)).mono ?_
 rintro e w1 ⟨rfl,hf1,hb1⟩
 have B1:=hD hb1
 have F1:=hD hf1
 clear hb1 hf1
 go_wp2_with fail
 refine (firsts_any (HB.out.later B1.out) SB.out (by omega)).mono ?_
 rintro e w2 ⟨rfl,hf2,hb2⟩
 have B2:=hD (below2' B1.out hb2)
 have F1':=hD (F1.out.later hb2)
 have G1:=hD hf2
 clear hb2 hf2 F1
 go_wp2_with fail
 refine (contacts_any (HA.out.later B2.out) (by omega)).mono ?_
 rintro e w3 ⟨u3,rfl,ht3,hb3⟩
 have B3:=hD (below2' B2.out hb3)
 have F2:=hD (F1'.out.later hb3)
 have G2:=hD (G1.out.later hb3)
 have T3:=hD ht3
 clear hb3 ht3 F1' G1 B2
 go_wp2_with fail
 refine (contacts_any (HB.out.later B3.out) (by omega)).mono ?_
 rintro e w4 ⟨u4,rfl,ht4,hb4⟩
 have B4:=hD (below2' B3.out hb4)
 have F3:=hD (F2.out.later hb4)
 have G3:=hD (G2.out.later hb4)
 have T3':=hD (T3.out.later hb4)
 have T4:=hD ht4
 clear hb4 ht4 F2 G2 B3 T3
 go_wp2_with fail
 refine (merge_any T3'.out T4.out (by rw [cts_len]; omega) (by rw [cts_len]; omega)).mono ?_
 rintro e w5 ⟨u5,rfl,ht5,hb5⟩
 have B5:=hD (below2' B4.out hb5)
 have F4:=hD (F3.out.later hb5)
 have G4:=hD (G3.out.later hb5)
 obtain⟨M,hM⟩ : ∃ M,mrg (cts a ++ cts b)=M:=⟨_,rfl⟩
 rw [hM] at ht5 hml HX HEnd HNext
 have T5:=hD ht5
 obtain⟨am,cm,rfl,_,_,_,_⟩:=ht5
 have hz:=F4.out.lt
 have hz2:=G4.out.lt
 clear hb5 F3 G3 B4 T3' T4 hM
 go_wp2_with fail
 go_loopw [7,24] (fun v i wr => ∃ k:Nat,k≤M.length∧i=.int .i64 k∧Hid (OwnC wr w5.heap.size v (chgsAt a b k))∧Hid (Below w5.heap.size w5 wr)) (fun _ i _ => M.length - (intOf i).toNat)
 case atStart => exact⟨0,by omega,rfl,ownC_nil _ _,Below.refl _ _⟩
 case round =>
  obtain⟨k,hk,rfl,HO,HN⟩:=hrel
  by_cases hlt:k < M.length
  ·obtain⟨b1,o1,e1,hc1⟩:=T5.out.cell HN.out k hlt
   subst e1
   have hnx:=HNext.out k hlt
   obtain⟨x,hx⟩ : ∃ x,M.getD k []=x:=⟨_,rfl⟩
   have hxl:x.length≤4294967296:=HX.out x (List.mem_of_getElem? ((getD_some hlt).trans (by rw [hx])))
   rw [hx] at hc1 hnx
   have hle:=chgsAt_len a b k
   have FA:=hD (F4.out.later HN.out)
   have FB:=hD (G4.out.later HN.out)
   have l1:=FA.out.look x hxl
   have hs:=gSame_rows a b x
   have hfv:=firstRow_v b x
   clear hx
   obtain⟨⟨c0,⟨x0,y0,z0,s0⟩⟩,hr0⟩ : ∃ r,firstRow a x=r:=⟨_,rfl⟩
   obtain⟨⟨c1,⟨x1,y1,z1,s1⟩⟩,hr1⟩ : ∃ r,firstRow b x=r:=⟨_,rfl⟩
   have FB2:=hD (FB.out.later ((Below.refl _ _).alloc (Nat.le_refl _) (.cells #[.string ⟨c0.toArray⟩,.int .i64 x0,.int .i64 y0,.int .i64 z0,.string ⟨s0.toArray⟩] 45)))
   have l2:=FB2.out.look x hxl
   rw [hr0] at l1 hs
   rw [hr1] at l2 hs hfv
   unfold rowAgg at l1 l2
   simp only at l1 l2 hfv
   have N1:=hD (bl_alloc HN.out (.cells #[.string ⟨c0.toArray⟩,.int .i64 x0,.int .i64 y0,.int .i64 z0,.string ⟨s0.toArray⟩] 45))
   have N2:=hD (bl_alloc N1.out (.cells #[.string ⟨c1.toArray⟩,.int .i64 x1,.int .i64 y1,.int .i64 z1,.string ⟨s1.toArray⟩] 45))
   have O2:=hD ((HO.out.alloc (.cells #[.string ⟨c0.toArray⟩,.int .i64 x0,.int .i64 y0,.int .i64 z0,.string ⟨s0.toArray⟩] 45)).alloc (.cells #[.string ⟨c1.toArray⟩,.int .i64 x1,.int .i64 y1,.int .i64 z1,.string ⟨s1.toArray⟩] 45))
   have hgd:Tryz.prog.eqGuardType Tryz.prog.depth 45=false:=by kernel_rfl
   have heq:=row_eql5 c0 c1 x0 y0 z0 x1 y1 z1 s0 s1
   cases hda:(diGet a x).2 with
   | true =>
    rw [hda] at l1 hs
    cases hdb:(diGet b x).2 with
    | true =>
     rw [hdb] at l2 hs
     have hs':=hs rfl
     cases hq:rSame ⟨c0,x0,y0,z0,s0⟩ ⟨c1,x1,y1,z1,s1⟩ with
     | true =>
      rw [hq] at heq hs'
      have hgs:=hs'
      clear hs' hda hdb hq
      rw [chg_none hgs] at hnx
      simp only [Option.toList_none,List.append_nil] at hnx
      have O3:=hD O2.out
      rw [← hnx] at O3
      clear hs hfv hr0 hr1 hnx hgs HO O2
      go_wp2_with fail
      go_roundw
      case rel => exact⟨k+1,by omega,by go_num,O3,N2⟩
      case measure => simp [intOf]; omega
     | false =>
      rw [hq] at heq hs'
      have hcg:=chg_some hs'
      rw [hdb,← hfv] at hcg
      clear hs' hda hdb hq
      rw [hcg] at hnx
      simp only [Option.toList_some] at hnx
      have HX2:=hD hnx
      have O3:=hD (O2.out.alloc (.cells #[.string ⟨x.toArray⟩,.bool true,.int .i64 x1,.int .i64 y1,.int .i64 z1,.string ⟨s1.toArray⟩] 57))
      have N3:=hD (bl_alloc N2.out (.cells #[.string ⟨x.toArray⟩,.bool true,.int .i64 x1,.int .i64 y1,.int .i64 z1,.string ⟨s1.toArray⟩] 57))
      have hz4:=N3.out.size
      clear hs hfv hr0 hr1 hnx hcg HO O2
      go_wp2_with (at_builtin; go_must (refine wpList_append_chgs rfl _ _ rfl w5.heap.size _ (chgsAt a b k) rfl (by exact O3.out) _ 1 1 [⟨x,true,x1,y1,z1,s1⟩] rfl rfl (fun e => nomatch e) ?c1 (by simp only [List.length_cons,List.length_nil]; omega) hz4 ?_))
      case c1 => exact new_chg (by simp)
      intro v' w' hown' hb'
      rw [← HX2.out] at hown'
      have O4:=hD hown'
      have N4:=hD (N3.out.trans hb')
      clear hown' hb' O3
      go_wp2_with fail
      go_roundw
      case rel => exact⟨k+1,by omega,by go_num,O4,N4⟩
      case measure => simp [intOf]; omega
    | false =>
     rw [hdb] at l2 hs
     have hcg:=chg_some (gSame_not (a:=a) (b:=b) (x:=x) (by rw [hda,hdb]; decide))
     rw [hdb,← hfv] at hcg
     clear hda hdb heq
     rw [hcg] at hnx
     simp only [Option.toList_some] at hnx
     have HX2:=hD hnx
     have O3:=hD (O2.out.alloc (.cells #[.string ⟨x.toArray⟩,.bool false,.int .i64 x1,.int .i64 y1,.int .i64 z1,.string ⟨s1.toArray⟩] 57))
     have N3:=hD (bl_alloc N2.out (.cells #[.string ⟨x.toArray⟩,.bool false,.int .i64 x1,.int .i64 y1,.int .i64 z1,.string ⟨s1.toArray⟩] 57))
     have hz4:=N3.out.size
     clear hs hfv hr0 hr1 hnx hcg HO O2
     go_wp2_with (at_builtin; go_must (refine wpList_append_chgs rfl _ _ rfl w5.heap.size _ (chgsAt a b k) rfl (by exact O3.out) _ 1 1 [⟨x,false,x1,y1,z1,s1⟩] rfl rfl (fun e => nomatch e) ?c1 (by simp only [List.length_cons,List.length_nil]; omega) hz4 ?_))
     case c1 => exact new_chg (by simp)
     intro v' w' hown' hb'
     rw [← HX2.out] at hown'
     have O4:=hD hown'
     have N4:=hD (N3.out.trans hb')
     clear hown' hb' O3
     go_wp2_with fail
     go_roundw
     case rel => exact⟨k+1,by omega,by go_num,O4,N4⟩
     case measure => simp [intOf]; omega
   | false =>
    rw [hda] at l1 hs
    cases hdb:(diGet b x).2 with
    | true =>
     rw [hdb] at l2 hs
     have hcg:=chg_some (gSame_not (a:=a) (b:=b) (x:=x) (by rw [hda,hdb]; decide))
     rw [hdb,← hfv] at hcg
     clear hda hdb heq
     rw [hcg] at hnx
     simp only [Option.toList_some] at hnx
     have HX2:=hD hnx
     have O3:=hD (O2.out.alloc (.cells #[.string ⟨x.toArray⟩,.bool true,.int .i64 x1,.int .i64 y1,.int .i64 z1,.string ⟨s1.toArray⟩] 57))
     have N3:=hD (bl_alloc N2.out (.cells #[.string ⟨x.toArray⟩,.bool true,.int .i64 x1,.int .i64 y1,.int .i64 z1,.string ⟨s1.toArray⟩] 57))
     have hz4:=N3.out.size
     clear hs hfv hr0 hr1 hnx hcg HO O2
     go_wp2_with (at_builtin; go_must (refine wpList_append_chgs rfl _ _ rfl w5.heap.size _ (chgsAt a b k) rfl (by exact O3.out) _ 1 1 [⟨x,true,x1,y1,z1,s1⟩] rfl rfl (fun e => nomatch e) ?c1 (by simp only [List.length_cons,List.length_nil]; omega) hz4 ?_))
     case c1 => exact new_chg (by simp)
     intro v' w' hown' hb'
     rw [← HX2.out] at hown'
     have O4:=hD hown'
     have N4:=hD (N3.out.trans hb')
     clear hown' hb' O3
     go_wp2_with fail
     go_roundw
     case rel => exact⟨k+1,by omega,by go_num,O4,N4⟩
     case measure => simp [intOf]; omega
    | false =>
     rw [hdb] at l2 hs
     have hs':=hs rfl
     cases hq:rSame ⟨c0,x0,y0,z0,s0⟩ ⟨c1,x1,y1,z1,s1⟩ with
     | true =>
      rw [hq] at heq hs'
      have hgs:=hs'
      clear hs' hda hdb hq
      rw [chg_none hgs] at hnx
      simp only [Option.toList_none,List.append_nil] at hnx
      have O3:=hD O2.out
      rw [← hnx] at O3
      clear hs hfv hr0 hr1 hnx hgs HO O2
      go_wp2_with fail
      go_roundw
      case rel => exact⟨k+1,by omega,by go_num,O3,N2⟩
      case measure => simp [intOf]; omega
     | false =>
      rw [hq] at heq hs'
      have hcg:=chg_some hs'
      rw [hdb,← hfv] at hcg
      clear hs' hda hdb hq
      rw [hcg] at hnx
      simp only [Option.toList_some] at hnx
      have HX2:=hD hnx
      have O3:=hD (O2.out.alloc (.cells #[.string ⟨x.toArray⟩,.bool false,.int .i64 x1,.int .i64 y1,.int .i64 z1,.string ⟨s1.toArray⟩] 57))
      have N3:=hD (bl_alloc N2.out (.cells #[.string ⟨x.toArray⟩,.bool false,.int .i64 x1,.int .i64 y1,.int .i64 z1,.string ⟨s1.toArray⟩] 57))
      have hz4:=N3.out.size
      clear hs hfv hr0 hr1 hnx hcg HO O2
      go_wp2_with (at_builtin; go_must (refine wpList_append_chgs rfl _ _ rfl w5.heap.size _ (chgsAt a b k) rfl (by exact O3.out) _ 1 1 [⟨x,false,x1,y1,z1,s1⟩] rfl rfl (fun e => nomatch e) ?c1 (by simp only [List.length_cons,List.length_nil]; omega) hz4 ?_))
      case c1 => exact new_chg (by simp)
      intro v' w' hown' hb'
      rw [← HX2.out] at hown'
      have O4:=hD hown'
      have N4:=hD (N3.out.trans hb')
      clear hown' hb' O3
      go_wp2_with fail
      go_roundw
      case rel => exact⟨k+1,by omega,by go_num,O4,N4⟩
      case measure => simp [intOf]; omega
  ·obtain rfl:k=M.length:=by omega
   have ho:=HO.out.chgs
   rw [HEnd.out] at ho
   have HT:=hD ho
   clear ho
   go_wp2_with fail
   go_ret
   exact⟨_,rfl,HT.out,below2' B5.out HN.out⟩

end Go.Proofs.YtphfinlfabklmaaGreat

end
