/-
 TEXTS OF THE PROOF, one behind the other: IdRef.
-/
import Derived.Test.YtekkofldhhdpgaaGreatD02
import Derived.Test.YtekkofldhhdpgaaGreatD01
import Derived.Laws.IdiomStrings

set_option maxHeartbeats 12800000
set_option maxRecDepth 100000

namespace Go.Proofs.YtekkofldhhdpgaaGreat
open Go.RowKit

theorem ris_any (l:List UInt8) (hl:l.length≤4294967296) (w:World) :
  Calls Tryz.prog 66 #[.string ⟨l.toArray⟩] w fun e w' => e=.returned (.bool (idIs l))∧w=w':=by
 by_cases h0:l.length < 1
 ·obtain rfl:l=[]:=List.length_eq_zero_iff.1 (by omega)
  clear h0
  go_enter Tryz.func66,Tryz.ntmps66
  go_wp2_with fail
  go_ret
  exact⟨rfl,rfl⟩
 ·have hpos:1≤l.length:=by omega
  clear h0
  by_cases h16:16 < l.length
  ·have HR:=hZq (idIs_long h16)
   go_enter Tryz.func66,Tryz.ntmps66
   go_wp2_with fail
   go_ret
   exact⟨by rw [HR.out]; rfl,rfl⟩
  ·have hq:0 < (⟨l.toArray⟩ : ByteArray).size:=by rw [size_bytes]; omega
   obtain⟨x,hx⟩ : ∃ x:UInt8,(⟨l.toArray⟩ : ByteArray)[0]'hq=x:=⟨_,rfl⟩
   have hx256:=x.toNat_lt
   have HX:Hid (l[0]?=some x):=by show _=_; rw [← hx]; exact bytes_at l 0 hq
   by_cases hlow:x.toNat < 97
   ·have HR:Hid (idIs l=false):=idIs_first HX.out (by unfold lcOk; simp; omega)
    go_enter Tryz.func66,Tryz.ntmps66
    go_wp2_with fail
    go_ret
    exact⟨by rw [HR.out]; rfl,rfl⟩
   ·by_cases hhi:122 < x.toNat
    ·have HR:Hid (idIs l=false):=idIs_first HX.out (by unfold lcOk; simp; omega)
     go_enter Tryz.func66,Tryz.ntmps66
     go_wp2_with fail
     go_ret
     exact⟨by rw [HR.out]; rfl,rfl⟩
    ·have HF:Hid (lcOk (l.getD 0 0)=true):=by show _=_; rw [List.getD,HX.out]; unfold lcOk; simp; omega
     go_enter Tryz.func66,Tryz.ntmps66
     go_wp2_with fail
     clear hx
     go_loop [3] (fun i => ∃ k:Nat,k≤l.length∧i=.int .i64 k∧Hid ((l.take k).all inOk=true)) (fun i => l.length - (intOf i).toNat)
     case atStart => exact⟨0,by omega,rfl,by show _=_; simp⟩
     case round =>
      obtain⟨k,hk,rfl,HA⟩:=hrel
      by_cases hlt:k < l.length
      ·have hlt':k < (⟨l.toArray⟩ : ByteArray).size:=by rw [size_bytes]; exact hlt
       obtain⟨b,hb⟩ : ∃ b:UInt8,(⟨l.toArray⟩ : ByteArray)[k]'hlt'=b:=⟨_,rfl⟩
       have HB:Hid (l[k]?=some b):=by show _=_; rw [← hb]; exact bytes_at l k hlt'
       have hb256:=b.toNat_lt
       have hcase:(97≤b.toNat∧b.toNat≤122)∨(48≤b.toNat∧b.toNat≤57)∨b.toNat=45∨(b.toNat < 48∧¬ b.toNat=45)∨(57 < b.toNat∧b.toNat < 97)∨122 < b.toNat:=by omega
       have HC:=hZq hcase
       clear hcase hpos h16 hlow hhi
       rcases HC.out with ⟨h1,h2⟩ | ⟨h1,h2⟩ | h1 | ⟨h1,h2⟩ | ⟨h1,h2⟩ | h1
       ·have HN:Hid ((l.take (k+1)).all inOk=true):=by show _=_; rw [all_succ HB.out,HA.out]; simp [inOk,lcOk,dgOk]; omega
        go_wp2_with fail
        go_round
        case rel => exact⟨k+1,by omega,by go_num,HN⟩
        case measure => simp [intOf]; omega
       ·have HN:Hid ((l.take (k+1)).all inOk=true):=by show _=_; rw [all_succ HB.out,HA.out]; simp [inOk,lcOk,dgOk]; omega
        go_wp2_with fail
        go_round
        case rel => exact⟨k+1,by omega,by go_num,HN⟩
        case measure => simp [intOf]; omega
       ·have HN:Hid ((l.take (k+1)).all inOk=true):=by show _=_; rw [all_succ HB.out,HA.out]; simp [inOk,lcOk,dgOk]; omega
        have t5:((b.toNat:Int) != 45)=false:=by rw [h1]; rfl
        go_wp2_with fail
        go_round
        case rel => exact⟨k+1,by omega,by go_num,HN⟩
        case measure => simp [intOf]; omega
       all_goals
        have HR:Hid (idIs l=false):=idIs_bad HB.out (by simp [inOk,lcOk,dgOk]; omega)
        have t5:((b.toNat:Int) != 45)=true:=by simp; omega
        go_wp2_with fail
        go_ret
        exact⟨by rw [HR.out]; rfl,rfl⟩
      ·obtain rfl:k=l.length:=by omega
       have HR:Hid (idIs l=true):=idIs_mk hpos (by omega) HF.out (by have:=HA.out; rwa [List.take_length] at this)
       go_wp2_with fail
       go_ret
       exact⟨by rw [HR.out]; rfl,rfl⟩

theorem ris_eq (l:List UInt8) (hl:l.length≤4294967296) {r:Bool} (h:Hid (idIs l=r)) (w:World) :
  Calls Tryz.prog 66 #[.string ⟨l.toArray⟩] w fun e w' => e=.returned (.bool r)∧w=w':=by
 have:=ris_any l hl w
 rwa [h.out] at this

def lowAt (l:List UInt8) (k:Nat):List UInt8:=idLow (l.take k) ++ l.drop k

def RowB (w:World) (B:Nat) (u:List UInt8):Prop:=∀ j,j < u.length→w.cell? ⟨B,j,none⟩=some (.int .u8 (u.getD j 0).toNat)∧w.frozen? ⟨B,j,none⟩=false

theorem RowB.drew {w:World} {B:Nat} {u:List UInt8} (h:RowB w B u):RowB w.drew B u:=h

theorem RowB.set {w:World} {B:Nat} {u:List UInt8} (h:RowB w B u) (j:Nat) (b:UInt8) (hj:j < u.length):RowB (w.setCell ⟨B,j,none⟩ (.int .u8 b.toNat)) B (u.set j b):=by
 intro i hi
 have hi':i < u.length:=by simpa using hi
 refine ⟨?_,(World.frozen?_setCell w _ _ _).trans (h i hi').2⟩
 by_cases hij:i=j
 ·subst hij
  rw [World.cell?_setCell_same _ _ _ (h i hj).1]
  simp [List.getD,hj]
 ·rw [World.cell?_setCell_other _ _ _ _ (by simp),(h i hi').1]
  simp [List.getD,show ¬ j=i by omega]

theorem row_text {w:World} {B:Nat} {u:List UInt8} (h:RowB w B u) (cap:Nat) :
  (convert 150 9 (.slice (some ⟨B,0,none⟩) u.length cap)).run Tryz.prog w=.ok (.string ⟨u.toArray⟩) w :=
 run_convert_bytes_back (P:=Tryz.prog) w 150 9 5 ⟨B,0,none⟩ cap u Tryz.underlying150 Tryz.underlying5 Tryz.underlying9 (fun j hj => by
  have:=(h j hj).1
  rw [Addr.add_lit,Nat.zero_add,this]
  simp [List.getD,List.getElem?_eq_getElem hj])

end Go.Proofs.YtekkofldhhdpgaaGreat
