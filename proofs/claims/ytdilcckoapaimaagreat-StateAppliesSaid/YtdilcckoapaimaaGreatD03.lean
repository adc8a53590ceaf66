/-
  TEXTS OF THE PROOF, one behind the other: IdRef, SubMap, SubOne, SubEq, SubTell, SubRact, SubSet, SubAct0, SubDo1.
-/
import Derived.Test.YtdilcckoapaimaaGreatD02
import Derived.Laws.IdiomStrings
import Derived.Test.YtdilcckoapaimaaGreatRows
import Derived.Test.YtdilcckoapaimaaGreatD01
import Derived.Maps.OwnSet
import Derived.Laws.StructEq
import Derived.BigRegion
import Derived.Deep.QuietTactic
import Derived.BigQuiet
import Derived.RegionTactic
import Derived.ChangeAlike
import Derived.Deep.RegionHeld

section

/-
  THE CONTRACTS OF THE DOCUMENT'S ANSWERS Is, Fold, Put, Take OF LAYER 3.
-/
namespace Go.Proofs.YtdilcckoapaimaaGreat
open Go.RowKit

set_option maxHeartbeats 800000 in
set_option maxRecDepth 100000 in
theorem ris_any (l : List UInt8) (hl : l.length ≤ 4294967296) (w : World) :
    Calls Tryz.prog 88 #[.string ⟨l.toArray⟩] w fun e w' => e = .returned (.bool (idIs l)) ∧ w = w' := by
  by_cases h0 : l.length < 1
  · obtain rfl : l = [] := List.length_eq_zero_iff.1 (by omega)
    clear h0
    go_enter Tryz.func88, Tryz.ntmps88
    go_wp2_with fail
    go_ret
    exact ⟨rfl, rfl⟩
  · have hpos : 1 ≤ l.length := by omega
    clear h0
    by_cases h16 : 16 < l.length
    · have HR := Lib.hid (idIs_long h16)
      go_enter Tryz.func88, Tryz.ntmps88
      go_wp2_with fail
      go_ret
      exact ⟨by rw [HR.out]; rfl, rfl⟩
    · have hq : 0 < (⟨l.toArray⟩ : ByteArray).size := by rw [size_bytes]; omega
      obtain ⟨x, hx⟩ : ∃ x : UInt8, (⟨l.toArray⟩ : ByteArray)[0]'hq = x := ⟨_, rfl⟩
      have hx256 := x.toNat_lt
      have HX : Hid (l[0]? = some x) := by show _ = _; rw [← hx]; exact bytes_at l 0 hq
      by_cases hlow : x.toNat < 97
      · have HR : Hid (idIs l = false) := idIs_first HX.out (by unfold lcOk; simp; omega)
        go_enter Tryz.func88, Tryz.ntmps88
        go_wp2_with fail
        go_ret
        exact ⟨by rw [HR.out]; rfl, rfl⟩
      · by_cases hhi : 122 < x.toNat
        · have HR : Hid (idIs l = false) := idIs_first HX.out (by unfold lcOk; simp; omega)
          go_enter Tryz.func88, Tryz.ntmps88
          go_wp2_with fail
          go_ret
          exact ⟨by rw [HR.out]; rfl, rfl⟩
        · have HF : Hid (lcOk (l.getD 0 0) = true) := by show _ = _; rw [List.getD, HX.out]; unfold lcOk; simp; omega
          go_enter Tryz.func88, Tryz.ntmps88
          go_wp2_with fail
          clear hx
          go_loop [3] (fun i => ∃ k : Nat, k ≤ l.length ∧ i = .int .i64 k ∧ Hid ((l.take k).all inOk = true)) (fun i => l.length - (intOf i).toNat)
          case atStart => exact ⟨0, by omega, rfl, by show _ = _; simp⟩
          case round =>
            obtain ⟨k, hk, rfl, HA⟩ := hrel
            by_cases hlt : k < l.length
            · have hlt' : k < (⟨l.toArray⟩ : ByteArray).size := by rw [size_bytes]; exact hlt
              obtain ⟨b, hb⟩ : ∃ b : UInt8, (⟨l.toArray⟩ : ByteArray)[k]'hlt' = b := ⟨_, rfl⟩
              have HB : Hid (l[k]? = some b) := by show _ = _; rw [← hb]; exact bytes_at l k hlt'
              have hb256 := b.toNat_lt
              have hcase : (97 ≤ b.toNat ∧ b.toNat ≤ 122) ∨ (48 ≤ b.toNat ∧ b.toNat ≤ 57) ∨ b.toNat = 45 ∨ (b.toNat < 48 ∧ ¬ b.toNat = 45) ∨ (57 < b.toNat ∧ b.toNat < 97) ∨ 122 < b.toNat := by omega
              have HC := Lib.hid hcase
              clear hcase hpos h16 hlow hhi
              rcases HC.out with ⟨h1, h2⟩ | ⟨h1, h2⟩ | h1 | ⟨h1, h2⟩ | ⟨h1, h2⟩ | h1
              · have HN : Hid ((l.take (k + 1)).all inOk = true) := by show _ = _; rw [all_succ HB.out, HA.out]; simp [inOk, lcOk, dgOk]; omega
                go_wp2_with fail
                go_round
                case rel => exact ⟨k + 1, by omega, by go_num, HN⟩
                case measure => simp [intOf]; omega
              · have HN : Hid ((l.take (k + 1)).all inOk = true) := by show _ = _; rw [all_succ HB.out, HA.out]; simp [inOk, lcOk, dgOk]; omega
                go_wp2_with fail
                go_round
                case rel => exact ⟨k + 1, by omega, by go_num, HN⟩
                case measure => simp [intOf]; omega
              · have HN : Hid ((l.take (k + 1)).all inOk = true) := by show _ = _; rw [all_succ HB.out, HA.out]; simp [inOk, lcOk, dgOk]; omega
                have t5 : ((b.toNat : Int) != 45) = false := by rw [h1]; rfl
                go_wp2_with fail
                go_round
                case rel => exact ⟨k + 1, by omega, by go_num, HN⟩
                case measure => simp [intOf]; omega
              all_goals
                have HR : Hid (idIs l = false) := idIs_bad HB.out (by simp [inOk, lcOk, dgOk]; omega)
                have t5 : ((b.toNat : Int) != 45) = true := by simp; omega
                go_wp2_with fail
                go_ret
                exact ⟨by rw [HR.out]; rfl, rfl⟩
            · obtain rfl : k = l.length := by omega
              have HR : Hid (idIs l = true) := idIs_mk hpos (by omega) HF.out (by have := HA.out; rwa [List.take_length] at this)
              go_wp2_with fail
              go_ret
              exact ⟨by rw [HR.out]; rfl, rfl⟩

/-- l, folded up to k. -/
def lowAt (l : List UInt8) (k : Nat) : List UInt8 := idLow (l.take k) ++ l.drop k

/-- A row of bytes in memory that may be written. -/
def RowB (w : World) (B : Nat) (u : List UInt8) : Prop := ∀ j, j < u.length → w.cell? ⟨B, j, none⟩ = some (.int .u8 (u.getD j 0).toNat) ∧ w.frozen? ⟨B, j, none⟩ = false

theorem RowB.drew {w : World} {B : Nat} {u : List UInt8} (h : RowB w B u) : RowB w.drew B u := h

theorem RowB.set {w : World} {B : Nat} {u : List UInt8} (h : RowB w B u) (j : Nat) (b : UInt8) (hj : j < u.length) : RowB (w.setCell ⟨B, j, none⟩ (.int .u8 b.toNat)) B (u.set j b) := by
  intro i hi
  have hi' : i < u.length := by simpa using hi
  refine ⟨?_, (World.frozen?_setCell w _ _ _).trans (h i hi').2⟩
  by_cases hij : i = j
  · subst hij
    rw [World.cell?_setCell_same _ _ _ (h i hj).1]
    simp [List.getD, hj]
  · rw [World.cell?_setCell_other _ _ _ _ (by simp), (h i hi').1]
    simp [List.getD, show ¬ j = i by omega]

end Go.Proofs.YtdilcckoapaimaaGreat

end

section

/-
  A MAP FROM NUMBERS TO FUNCTIONS THAT THE CALL HAS MADE; THE CONTRACT OF subs.kinds.
-/
namespace Go.Proofs.YtdilcckoapaimaaGreat
open Go.RowKit Go.ChangeMaps Go.MapKept

def fnVal : Option (Int × Nat) → Value
  | some x => .func (.func x.2) #[] #[]
  | none => .nilFunc

def fnData : Option (Int × Nat) → DataW Unit
  | some x => .lit (.int .i64 x.2)
  | none => .lit (.bool false)

def fnElem : Value → Option (DataW Unit × List MemPlace)
  | .func (.func f) ⟨[]⟩ ⟨[]⟩ => some (.lit (.int .i64 f), [])
  | .nilFunc => some (.lit (.bool false), [])
  | _ => none

theorem fnElem_inv {v : Value} {z : DataW Unit × List MemPlace} (h : fnElem v = some z) (o : Option (Int × Nat)) (hz : z.1 = fnData o) : v = fnVal o := by
  unfold fnElem at h
  split at h
  · rename_i f
    obtain rfl := (Option.some.inj h).symm
    cases o with
    | none => simp [fnData] at hz
    | some x =>
      obtain ⟨k, g⟩ := x
      simp [fnData] at hz
      obtain rfl := Int.ofNat.inj hz
      rfl
  · obtain rfl := (Option.some.inj h).symm
    cases o with
    | none => rfl
    | some x => simp [fnData] at hz
  · cases h

/-- Block B is a map that holds these functions, the latest one first. -/
def FnMap (w : World) (B : Nat) (l : List (Int × Nat)) : Prop :=
  ∃ D : DataW Unit, w.ownsMap Tryz.prog 3 fnElem B l.length D ∧
    ∀ k : Int, Maps.has D (.int .i64 k) = l.any (fun x => x.1 == k) ∧ D.atKey (.int .i64 k) (.lit (.bool false)) = fnData (l.find? fun x => x.1 == k)

theorem fnMap_made (w : World) : FnMap (w.alloc (.map #[] 0)) w.heap.size [] :=
  ⟨.map [], World.ownsMap_made w _ _ _, fun _ => ⟨rfl, rfl⟩⟩

theorem FnMap.lt {w : World} {B : Nat} {l : List (Int × Nat)} (h : FnMap w B l) : B < w.heap.size := by
  obtain ⟨_, h, _⟩ := h
  exact h.lt

theorem FnMap.later {w w' : World} {B : Nat} {l : List (Int × Nat)} (h : FnMap w B l) (hb : Below w.heap.size w w') : FnMap w' B l := by
  have hlt := h.lt
  obtain ⟨D, ⟨es, clock, h2, h3, h4, h5⟩, h6⟩ := h
  exact ⟨D, ⟨es, clock, (hb.block B hlt).trans h2, h3, h4, h5⟩, h6⟩

theorem zeroFn (w : World) : (zeroValue 140).run Tryz.prog w = .ok .nilFunc w := by kernel_rfl

theorem FnMap.look {w : World} {B : Nat} {l : List (Int × Nat)} (h : FnMap w B l) (k : Int) (hk : (Lit.int .i64 k).wf = true) :
    (Instr.lookup 142 (.map (some B)) (.int .i64 k) true).run Tryz.prog w = .ok (.tuple #[fnVal (l.find? fun x => x.1 == k), .bool (l.any fun x => x.1 == k)]) w := by
  obtain ⟨D, h2, h3⟩ := h
  obtain ⟨v, ps, hrun, hv⟩ := h2.look_ok (Maps.int_keyed Tryz.underlying3) Tryz.underlying142 (zeroFn w) (show fnElem .nilFunc = some (.lit (.bool false), []) from rfl) (Maps.keyOf_int_mk Tryz.underlying3 hk)
  rw [(h3 k).2] at hv
  rw [fnElem_inv hv _ rfl, (h3 k).1] at hrun
  exact hrun

/-- 'm[k] = f'. -/
theorem wpList_fn {w : World} {ops : Array Oper} {rest : List Oper} {o : Oper} {a : Act} {Q : Exit → Act → World → Prop}
    (hg : o.guard = none) (m x v : Operand) (hop : o.op = Op.insert 142 m x v) (B : Nat) (l : List (Int × Nat)) (hm : a.eval m = .map (some B)) (hown : FnMap w B l) (hl : l.length ≤ 100)
    (k : Int) (hk : (Lit.int .i64 k).wf = true) (f : Nat) (hx : a.eval x = .int .i64 k) (hv : a.eval v = .func (.func f) #[] #[])
    (hK : ∀ w', FnMap w' B ((k, f) :: l) → w.grownBy w' (some B) → wpList Tryz.prog ops Q rest (a.put o.dst undef) w') :
    wpList Tryz.prog ops Q (o :: rest) a w := by
  obtain ⟨D, h2, h3⟩ := hown
  refine wpList_plain hg fun K' hK' => ?_
  obtain ⟨w', hrun, h6, h7⟩ := h2.update (Maps.int_keyed Tryz.underlying3) Tryz.underlying142 (by unfold maxLen; omega) (Maps.keyOf_int_mk Tryz.underlying3 hk) (show fnElem (.func (.func f) #[] #[]) = some (.lit (.int .i64 f), []) from rfl)
  unfold Oper.wp
  simp [execOp, hop, hm, hx, hv, hrun, Result.andThen]
  refine hK' _ _ ?_
  have hT := h2.tidy (Maps.int_keyed Tryz.underlying3)
  refine hK w' ⟨_, h6, fun y => ?_⟩ h7
  by_cases e : y = k
  · subst e
    rw [Maps.has_put_same hT.isMap (show WideAt.IsKeyLit (.int .i64 y) from True.intro), Maps.atKey_put_same hT.isMap (show WideAt.IsKeyLit (.int .i64 y) from True.intro)]
    simp [fnData]
  · have hne : (Lit.int .i64 y) ≠ .int .i64 k := fun h => e (by injection h)
    rw [Maps.has_put_other hne, Maps.atKey_put_other hne, (h3 y).1, (h3 y).2]
    have e' : (k == y) = false := by simpa using fun h => e h.symm
    simp [e']

def kindFns : List (Int × Nat) := [(6, 151), (5, 150), (4, 149), (3, 148), (2, 147), (1, 146)]

set_option maxHeartbeats 800000 in
set_option maxRecDepth 100000 in
theorem kinds_any (w : World) : Calls Tryz.prog 125 #[] w fun e w' => e = .returned (.map (some w.heap.size)) ∧ FnMap w' w.heap.size kindFns ∧ Below w.heap.size w w' := by
  have hmm := fun w => run_makeMap (P := Tryz.prog) 142 w
  have H0 := Lib.hid (fnMap_made w)
  have B0 : Hid (Below w.heap.size w (w.alloc (.map #[] 0))) := Lib.hid ((Below.refl _ _).alloc (Nat.le_refl _) _)
  go_enter Tryz.func125, Tryz.ntmps125
  go_wp2_with (first
    | (refine wpList_fn rfl _ _ _ rfl w.heap.size [] rfl H0.out (by decide) 1 (by decide) 146 rfl rfl ?_; intro w1 h g; (have H1 := Lib.hid h); (have B1 : Hid (Below w.heap.size w w1) := Lib.hid (B0.out.grown g B0.out.size (by intro k hk; injection hk with hk; omega))); clear h g H0)
    | (refine wpList_fn rfl _ _ _ rfl w.heap.size [(1, 146)] rfl H1.out (by decide) 2 (by decide) 147 rfl rfl ?_; intro w2 h g; (have H2 := Lib.hid h); (have B2 : Hid (Below w.heap.size w w2) := Lib.hid (B1.out.grown g B1.out.size (by intro k hk; injection hk with hk; omega))); clear h g H1)
    | (refine wpList_fn rfl _ _ _ rfl w.heap.size [(2, 147), (1, 146)] rfl H2.out (by decide) 3 (by decide) 148 rfl rfl ?_; intro w3 h g; (have H3 := Lib.hid h); (have B3 : Hid (Below w.heap.size w w3) := Lib.hid (B2.out.grown g B2.out.size (by intro k hk; injection hk with hk; omega))); clear h g H2)
    | (refine wpList_fn rfl _ _ _ rfl w.heap.size [(3, 148), (2, 147), (1, 146)] rfl H3.out (by decide) 4 (by decide) 149 rfl rfl ?_; intro w4 h g; (have H4 := Lib.hid h); (have B4 : Hid (Below w.heap.size w w4) := Lib.hid (B3.out.grown g B3.out.size (by intro k hk; injection hk with hk; omega))); clear h g H3)
    | (refine wpList_fn rfl _ _ _ rfl w.heap.size [(4, 149), (3, 148), (2, 147), (1, 146)] rfl H4.out (by decide) 5 (by decide) 150 rfl rfl ?_; intro w5 h g; (have H5 := Lib.hid h); (have B5 : Hid (Below w.heap.size w w5) := Lib.hid (B4.out.grown g B4.out.size (by intro k hk; injection hk with hk; omega))); clear h g H4)
    | (refine wpList_fn rfl _ _ _ rfl w.heap.size [(5, 150), (4, 149), (3, 148), (2, 147), (1, 146)] rfl H5.out (by decide) 6 (by decide) 151 rfl rfl ?_; intro w6 h g; (have H6 := Lib.hid h); (have B6 : Hid (Below w.heap.size w w6) := Lib.hid (B5.out.grown g B5.out.size (by intro k hk; injection hk with hk; omega))); clear h g H5))
  go_ret
  exact ⟨rfl, H6.out, B6.out⟩

end Go.Proofs.YtdilcckoapaimaaGreat

end

section

/-
  THE CONTRACTS OF WHAT IS DONE TO A PAIR OF ITEMS, kind by kind.
-/
namespace Go.Proofs.YtdilcckoapaimaaGreat
open Go.RowKit

/-- A pair as a value. -/
def prV (a b : It) : Value := .agg #[.bool a.to, .bool a.fr, .bool a.out, .bool a.inn, .bool a.bl, .bool b.to, .bool b.fr, .bool b.out, .bool b.inn, .bool b.bl]

/-- What is told of a pair and an error. -/
def prE (r : It × It × Nat) : Value := .tuple #[prV r.1 r.2.1, .int .i64 r.2.2]

set_option maxHeartbeats 1600000 in
set_option maxRecDepth 100000 in
theorem subscribe_any (a1 a2 a3 a4 a5 b1 b2 b3 b4 b5 : Bool) (w : World) :
    Calls Tryz.prog 146 #[.agg #[.bool a1, .bool a2, .bool a3, .bool a4, .bool a5, .bool b1, .bool b2, .bool b3, .bool b4, .bool b5]] w fun e w' => e = .returned (prE (suDo ⟨a1, a2, a3, a4, a5⟩ ⟨b1, b2, b3, b4, b5⟩ 1)) ∧ Below w.heap.size w w' := by
  cases a5 <;> cases b5 <;> cases a1 <;> cases a3
  all_goals
    go_enter Tryz.func146, Tryz.ntmps146
    go_wp2
    refine bodyPost_ret (v := _) (by simp [results, Tryz.results146, go_sem]; rfl) rfl ⟨rfl, ?_⟩
    repeat (first | exact Below.refl _ _ | refine Below.setCell ?_ (by first | (simp; done) | (simp; omega)) _ | refine Below.alloc ?_ (by first | (simp; done) | (simp; omega)) _)

set_option maxHeartbeats 1600000 in
set_option maxRecDepth 100000 in
theorem subscribed_any (a1 a2 a3 a4 a5 b1 b2 b3 b4 b5 : Bool) (w : World) :
    Calls Tryz.prog 147 #[.agg #[.bool a1, .bool a2, .bool a3, .bool a4, .bool a5, .bool b1, .bool b2, .bool b3, .bool b4, .bool b5]] w fun e w' => e = .returned (prE (suDo ⟨a1, a2, a3, a4, a5⟩ ⟨b1, b2, b3, b4, b5⟩ 2)) ∧ Below w.heap.size w w' := by
  cases a5 <;> cases b5 <;> cases a4
  all_goals
    go_enter Tryz.func147, Tryz.ntmps147
    go_wp2
    refine bodyPost_ret (v := _) (by simp [results, Tryz.results147, go_sem]; rfl) rfl ⟨rfl, ?_⟩
    repeat (first | exact Below.refl _ _ | refine Below.setCell ?_ (by first | (simp; done) | (simp; omega)) _ | refine Below.alloc ?_ (by first | (simp; done) | (simp; omega)) _)

set_option maxHeartbeats 1600000 in
set_option maxRecDepth 100000 in
theorem unsubscribe_any (a1 a2 a3 a4 a5 b1 b2 b3 b4 b5 : Bool) (w : World) :
    Calls Tryz.prog 148 #[.agg #[.bool a1, .bool a2, .bool a3, .bool a4, .bool a5, .bool b1, .bool b2, .bool b3, .bool b4, .bool b5]] w fun e w' => e = .returned (prE (suDo ⟨a1, a2, a3, a4, a5⟩ ⟨b1, b2, b3, b4, b5⟩ 3)) ∧ Below w.heap.size w w' := by
  cases a1 <;> cases a3
  all_goals
    go_enter Tryz.func148, Tryz.ntmps148
    go_wp2
    refine bodyPost_ret (v := _) (by simp [results, Tryz.results148, go_sem]; rfl) rfl ⟨rfl, ?_⟩
    repeat (first | exact Below.refl _ _ | refine Below.setCell ?_ (by first | (simp; done) | (simp; omega)) _ | refine Below.alloc ?_ (by first | (simp; done) | (simp; omega)) _)

set_option maxHeartbeats 1600000 in
set_option maxRecDepth 100000 in
theorem unsubscribed_any (a1 a2 a3 a4 a5 b1 b2 b3 b4 b5 : Bool) (w : World) :
    Calls Tryz.prog 149 #[.agg #[.bool a1, .bool a2, .bool a3, .bool a4, .bool a5, .bool b1, .bool b2, .bool b3, .bool b4, .bool b5]] w fun e w' => e = .returned (prE (suDo ⟨a1, a2, a3, a4, a5⟩ ⟨b1, b2, b3, b4, b5⟩ 4)) ∧ Below w.heap.size w w' := by
  cases a2 <;> cases a4
  all_goals
    go_enter Tryz.func149, Tryz.ntmps149
    go_wp2
    refine bodyPost_ret (v := _) (by simp [results, Tryz.results149, go_sem]; rfl) rfl ⟨rfl, ?_⟩
    repeat (first | exact Below.refl _ _ | refine Below.setCell ?_ (by first | (simp; done) | (simp; omega)) _ | refine Below.alloc ?_ (by first | (simp; done) | (simp; omega)) _)

set_option maxHeartbeats 1600000 in
set_option maxRecDepth 100000 in
theorem block_any (a1 a2 a3 a4 a5 b1 b2 b3 b4 b5 : Bool) (w : World) :
    Calls Tryz.prog 150 #[.agg #[.bool a1, .bool a2, .bool a3, .bool a4, .bool a5, .bool b1, .bool b2, .bool b3, .bool b4, .bool b5]] w fun e w' => e = .returned (prE (suDo ⟨a1, a2, a3, a4, a5⟩ ⟨b1, b2, b3, b4, b5⟩ 5)) ∧ Below w.heap.size w w' := by
  cases a5
  all_goals
    go_enter Tryz.func150, Tryz.ntmps150
    go_wp2
    refine bodyPost_ret (v := _) (by simp [results, Tryz.results150, go_sem]; rfl) rfl ⟨rfl, ?_⟩
    repeat (first | exact Below.refl _ _ | refine Below.setCell ?_ (by first | (simp; done) | (simp; omega)) _ | refine Below.alloc ?_ (by first | (simp; done) | (simp; omega)) _)

set_option maxHeartbeats 1600000 in
set_option maxRecDepth 100000 in
theorem unblock_any (a1 a2 a3 a4 a5 b1 b2 b3 b4 b5 : Bool) (w : World) :
    Calls Tryz.prog 151 #[.agg #[.bool a1, .bool a2, .bool a3, .bool a4, .bool a5, .bool b1, .bool b2, .bool b3, .bool b4, .bool b5]] w fun e w' => e = .returned (prE (suDo ⟨a1, a2, a3, a4, a5⟩ ⟨b1, b2, b3, b4, b5⟩ 6)) ∧ Below w.heap.size w w' := by
  cases a5
  all_goals
    go_enter Tryz.func151, Tryz.ntmps151
    go_wp2
    refine bodyPost_ret (v := _) (by simp [results, Tryz.results151, go_sem]; rfl) rfl ⟨rfl, ?_⟩
    repeat (first | exact Below.refl _ _ | refine Below.setCell ?_ (by first | (simp; done) | (simp; omega)) _ | refine Below.alloc ?_ (by first | (simp; done) | (simp; omega)) _)

end Go.Proofs.YtdilcckoapaimaaGreat

end

section

/-
  WHETHER TWO ITEMS ARE THE SAME: the model's word on it.
-/
namespace Go.Proofs.YtdilcckoapaimaaGreat
open Go.RowKit

def itSame (a b : It) : Bool := a.to == b.to && (a.fr == b.fr && (a.out == b.out && (a.inn == b.inn && a.bl == b.bl)))

theorem itSame_iff {a b : It} : itSame a b = true ↔ a = b := by
  obtain ⟨a1, a2, a3, a4, a5⟩ := a
  obtain ⟨b1, b2, b3, b4, b5⟩ := b
  simp [itSame]

theorem itSame_self (a : It) : itSame a a = true := itSame_iff.2 rfl

theorem item_eqIn (d : Nat) (a1 a2 a3 a4 a5 b1 b2 b3 b4 b5 : Bool) (w : World) :
    (Op.equalIn (d + 1 + 1) 51 (.agg #[.bool a1, .bool a2, .bool a3, .bool a4, .bool a5]) (.agg #[.bool b1, .bool b2, .bool b3, .bool b4, .bool b5])).run Tryz.prog w = .ok (itSame ⟨a1, a2, a3, a4, a5⟩ ⟨b1, b2, b3, b4, b5⟩) w := by
  have hS : Tryz.prog.underlying 51 = some (.struct (Tryz.prog.fieldsOf 51)) := by kernel_rfl
  have hp : Tryz.prog.stoodInHeld 51 = false := by kernel_rfl
  have u4 := Tryz.underlying4
  have a4' := Tryz.isAgg4
  have z4 := Tryz.sizeOf4
  rw [run_equalIn_agg w (d + 1) 51 _ _ hS hp]
  simp only [Program.fieldsOf, Tryz.underlying51]
  clear hS hp
  go_simp
  unfold itSame
  cases a1 <;> cases b1 <;> try (simp; done)
  all_goals (cases a2 <;> cases b2 <;> try (simp; done))
  all_goals (cases a3 <;> cases b3 <;> try (simp; done))
  all_goals (cases a4 <;> cases b4 <;> try (simp; done))
  all_goals (cases a5 <;> cases b5 <;> simp)

theorem item_eql (a1 a2 a3 a4 a5 b1 b2 b3 b4 b5 : Bool) (w : World) :
    (binOp .eql 51 (.agg #[.bool a1, .bool a2, .bool a3, .bool a4, .bool a5]) (.agg #[.bool b1, .bool b2, .bool b3, .bool b4, .bool b5])).run Tryz.prog w = .ok (.bool (itSame ⟨a1, a2, a3, a4, a5⟩ ⟨b1, b2, b3, b4, b5⟩)) w := by
  rw [run_eql_struct, show (10000 : Nat) = 9998 + 1 + 1 from rfl, item_eqIn 9998]
  rfl

end Go.Proofs.YtdilcckoapaimaaGreat

end

section

/-
  THE CONTRACTS OF WHAT IS ASKED OF ITEMS: May, Sees, Empty, Name; the document's.
-/
namespace Go.Proofs.YtdilcckoapaimaaGreat
open Go.RowKit

set_option maxHeartbeats 1600000 in
set_option maxRecDepth 100000 in
theorem smay_any (a1 a2 a3 a4 a5 b1 b2 b3 b4 b5 : Bool) (w : World) :
    Calls Tryz.prog 126 #[.agg #[.bool a1, .bool a2, .bool a3, .bool a4, .bool a5], .agg #[.bool b1, .bool b2, .bool b3, .bool b4, .bool b5]] w fun e w' => e = .returned (.bool (suMay ⟨a1, a2, a3, a4, a5⟩ ⟨b1, b2, b3, b4, b5⟩)) ∧ w' = (w.alloc (.cells #[.bool a1, .bool a2, .bool a3, .bool a4, .bool a5] 51)).alloc (.cells #[.bool b1, .bool b2, .bool b3, .bool b4, .bool b5] 51) := by
  cases a1 <;> cases b2 <;> try
    (go_enter Tryz.func126, Tryz.ntmps126
     go_wp2
     go_ret
     refine ⟨by simp [suMay], rfl⟩
     done)
  all_goals (cases a2 <;> cases b1 <;> try
    (go_enter Tryz.func126, Tryz.ntmps126
     go_wp2
     go_ret
     refine ⟨by simp [suMay], rfl⟩
     done))
  all_goals (cases a3 <;> cases b4 <;> try
    (go_enter Tryz.func126, Tryz.ntmps126
     go_wp2
     go_ret
     refine ⟨by simp [suMay], rfl⟩
     done))
  all_goals (cases a4 <;> cases b3 <;>
    (go_enter Tryz.func126, Tryz.ntmps126
     go_wp2
     go_ret
     refine ⟨by simp [suMay], rfl⟩
     done))

set_option maxHeartbeats 1600000 in
set_option maxRecDepth 100000 in
theorem rsmay_any (a1 a2 a3 a4 a5 b1 b2 b3 b4 b5 : Bool) (w : World) :
    Calls Tryz.prog 101 #[.agg #[.bool a1, .bool a2, .bool a3, .bool a4, .bool a5], .agg #[.bool b1, .bool b2, .bool b3, .bool b4, .bool b5]] w fun e w' => e = .returned (.bool (suMay ⟨a1, a2, a3, a4, a5⟩ ⟨b1, b2, b3, b4, b5⟩)) ∧ w' = (w.alloc (.cells #[.bool a1, .bool a2, .bool a3, .bool a4, .bool a5] 51)).alloc (.cells #[.bool b1, .bool b2, .bool b3, .bool b4, .bool b5] 51) := by
  cases a1 <;> cases b2 <;> try
    (go_enter Tryz.func101, Tryz.ntmps101
     go_wp2
     go_ret
     refine ⟨by simp [suMay], rfl⟩
     done)
  all_goals (cases a2 <;> cases b1 <;> try
    (go_enter Tryz.func101, Tryz.ntmps101
     go_wp2
     go_ret
     refine ⟨by simp [suMay], rfl⟩
     done))
  all_goals (cases a3 <;> cases b4 <;> try
    (go_enter Tryz.func101, Tryz.ntmps101
     go_wp2
     go_ret
     refine ⟨by simp [suMay], rfl⟩
     done))
  all_goals (cases a4 <;> cases b3 <;>
    (go_enter Tryz.func101, Tryz.ntmps101
     go_wp2
     go_ret
     refine ⟨by simp [suMay], rfl⟩
     done))

set_option maxHeartbeats 1600000 in
set_option maxRecDepth 100000 in
theorem sempty_any (a1 a2 a3 a4 a5 : Bool) (w : World) :
    Calls Tryz.prog 78 #[.agg #[.bool a1, .bool a2, .bool a3, .bool a4, .bool a5]] w fun e w' => e = .returned (.bool (suEmpty ⟨a1, a2, a3, a4, a5⟩)) ∧ Below w.heap.size w w' := by
  have he := fun w => item_eql a1 a2 a3 a4 a5 false false false false false w
  have hr : itSame ⟨a1, a2, a3, a4, a5⟩ ⟨false, false, false, false, false⟩ = suEmpty ⟨a1, a2, a3, a4, a5⟩ := by cases a1 <;> cases a2 <;> cases a3 <;> cases a4 <;> cases a5 <;> rfl
  rw [hr] at he
  clear hr
  obtain ⟨r, hr⟩ : ∃ r, suEmpty ⟨a1, a2, a3, a4, a5⟩ = r := ⟨_, rfl⟩
  rw [hr] at he ⊢
  clear hr
  go_enter Tryz.func78, Tryz.ntmps78
  go_wp2
  go_ret
  refine ⟨rfl, ?_⟩
  repeat (first | exact Below.refl _ _ | refine Below.setCell ?_ (by first | (simp; done) | (simp; omega)) _ | refine Below.alloc ?_ (by first | (simp; done) | (simp; omega)) _)

set_option maxHeartbeats 1600000 in
set_option maxRecDepth 100000 in
theorem rsempty_any (a1 a2 a3 a4 a5 : Bool) (w : World) :
    Calls Tryz.prog 91 #[.agg #[.bool a1, .bool a2, .bool a3, .bool a4, .bool a5]] w fun e w' => e = .returned (.bool (suEmpty ⟨a1, a2, a3, a4, a5⟩)) ∧ Below w.heap.size w w' := by
  have he := fun w => item_eql a1 a2 a3 a4 a5 false false false false false w
  have hr : itSame ⟨a1, a2, a3, a4, a5⟩ ⟨false, false, false, false, false⟩ = suEmpty ⟨a1, a2, a3, a4, a5⟩ := by cases a1 <;> cases a2 <;> cases a3 <;> cases a4 <;> cases a5 <;> rfl
  rw [hr] at he
  clear hr
  obtain ⟨r, hr⟩ : ∃ r, suEmpty ⟨a1, a2, a3, a4, a5⟩ = r := ⟨_, rfl⟩
  rw [hr] at he ⊢
  clear hr
  go_enter Tryz.func91, Tryz.ntmps91
  go_wp2
  go_ret
  refine ⟨rfl, ?_⟩
  repeat (first | exact Below.refl _ _ | refine Below.setCell ?_ (by first | (simp; done) | (simp; omega)) _ | refine Below.alloc ?_ (by first | (simp; done) | (simp; omega)) _)

end Go.Proofs.YtdilcckoapaimaaGreat

end

section

/-
  THE CONTRACT OF THE DOCUMENT'S Act.
-/
namespace Go.Proofs.YtdilcckoapaimaaGreat
open Go.RowKit

/-- Both items and an error, as they are told. -/
def actE (r : It × It × Nat) : Value := .tuple #[.agg #[.bool r.1.to, .bool r.1.fr, .bool r.1.out, .bool r.1.inn, .bool r.1.bl], .agg #[.bool r.2.1.to, .bool r.2.1.fr, .bool r.2.1.out, .bool r.2.1.inn, .bool r.2.1.bl], .int .i64 r.2.2]

theorem smay_eq (a1 a2 a3 a4 a5 b1 b2 b3 b4 b5 : Bool) {r : Bool} (h : Hid (suMay ⟨a1, a2, a3, a4, a5⟩ ⟨b1, b2, b3, b4, b5⟩ = r)) (w : World) :
    Calls Tryz.prog 126 #[.agg #[.bool a1, .bool a2, .bool a3, .bool a4, .bool a5], .agg #[.bool b1, .bool b2, .bool b3, .bool b4, .bool b5]] w fun e w' => e = .returned (.bool r) ∧ (w.alloc (.cells #[.bool a1, .bool a2, .bool a3, .bool a4, .bool a5] 51)).alloc (.cells #[.bool b1, .bool b2, .bool b3, .bool b4, .bool b5] 51) = w' := by
  have g := smay_any a1 a2 a3 a4 a5 b1 b2 b3 b4 b5 w
  rw [h.out] at g
  exact g.mono fun _ _ ⟨he, hw⟩ => ⟨he, hw.symm⟩

theorem rsmay_eq (a1 a2 a3 a4 a5 b1 b2 b3 b4 b5 : Bool) {r : Bool} (h : Hid (suMay ⟨a1, a2, a3, a4, a5⟩ ⟨b1, b2, b3, b4, b5⟩ = r)) (w : World) :
    Calls Tryz.prog 101 #[.agg #[.bool a1, .bool a2, .bool a3, .bool a4, .bool a5], .agg #[.bool b1, .bool b2, .bool b3, .bool b4, .bool b5]] w fun e w' => e = .returned (.bool r) ∧ (w.alloc (.cells #[.bool a1, .bool a2, .bool a3, .bool a4, .bool a5] 51)).alloc (.cells #[.bool b1, .bool b2, .bool b3, .bool b4, .bool b5] 51) = w' := by
  have g := rsmay_any a1 a2 a3 a4 a5 b1 b2 b3 b4 b5 w
  rw [h.out] at g
  exact g.mono fun _ _ ⟨he, hw⟩ => ⟨he, hw.symm⟩

set_option maxHeartbeats 3200000 in
set_option maxRecDepth 100000 in
theorem ract_not (a1 a2 a3 a4 a5 b1 b2 b3 b4 b5 : Bool) (k : Int) (HM : Hid (suMay ⟨a1, a2, a3, a4, a5⟩ ⟨b1, b2, b3, b4, b5⟩ = false)) (w : World) :
    Calls Tryz.prog 89 #[.agg #[.bool a1, .bool a2, .bool a3, .bool a4, .bool a5], .agg #[.bool b1, .bool b2, .bool b3, .bool b4, .bool b5], .int .i64 k] w fun e w' => e = .returned (actE (⟨a1, a2, a3, a4, a5⟩, ⟨b1, b2, b3, b4, b5⟩, 1)) ∧ Below w.heap.size w w' := by
  all_goals
    go_enter Tryz.func89, Tryz.ntmps89
    go_wp2_with (go_at_call 101; refine (rsmay_eq _ _ _ _ _ _ _ _ _ _ HM _).mono ?_; rintro e w' ⟨rfl, rfl⟩)
    all_goals
      go_region
      try go_wp2_with fail
      refine bodyPost_ret (v := _) (by simp [results, Tryz.results89, go_sem]; rfl) rfl ⟨rfl, ?_⟩
      repeat (first | exact Below.refl _ _ | refine Below.setCell ?_ (by first | (simp; done) | (simp; omega)) _ | refine Below.alloc ?_ (by first | (simp; done) | (simp; omega)) _ | refine Below.drew ?_)

set_option maxHeartbeats 3200000 in
set_option maxRecDepth 100000 in
theorem ract_low (a1 a2 a3 a4 a5 b1 b2 b3 b4 b5 : Bool) (k : Int) (HM : Hid (suMay ⟨a1, a2, a3, a4, a5⟩ ⟨b1, b2, b3, b4, b5⟩ = true)) (hk : k < 1) (w : World) :
    Calls Tryz.prog 89 #[.agg #[.bool a1, .bool a2, .bool a3, .bool a4, .bool a5], .agg #[.bool b1, .bool b2, .bool b3, .bool b4, .bool b5], .int .i64 k] w fun e w' => e = .returned (actE (⟨a1, a2, a3, a4, a5⟩, ⟨b1, b2, b3, b4, b5⟩, 1)) ∧ Below w.heap.size w w' := by
  all_goals
    go_enter Tryz.func89, Tryz.ntmps89
    go_wp2_with (go_at_call 101; refine (rsmay_eq _ _ _ _ _ _ _ _ _ _ HM _).mono ?_; rintro e w' ⟨rfl, rfl⟩)
    all_goals
      go_region
      try go_wp2_with fail
      refine bodyPost_ret (v := _) (by simp [results, Tryz.results89, go_sem]; rfl) rfl ⟨rfl, ?_⟩
      repeat (first | exact Below.refl _ _ | refine Below.setCell ?_ (by first | (simp; done) | (simp; omega)) _ | refine Below.alloc ?_ (by first | (simp; done) | (simp; omega)) _ | refine Below.drew ?_)

set_option maxHeartbeats 3200000 in
set_option maxRecDepth 100000 in
theorem ract_high (a1 a2 a3 a4 a5 b1 b2 b3 b4 b5 : Bool) (k : Int) (HM : Hid (suMay ⟨a1, a2, a3, a4, a5⟩ ⟨b1, b2, b3, b4, b5⟩ = true)) (hk : 6 < k) (w : World) :
    Calls Tryz.prog 89 #[.agg #[.bool a1, .bool a2, .bool a3, .bool a4, .bool a5], .agg #[.bool b1, .bool b2, .bool b3, .bool b4, .bool b5], .int .i64 k] w fun e w' => e = .returned (actE (⟨a1, a2, a3, a4, a5⟩, ⟨b1, b2, b3, b4, b5⟩, 1)) ∧ Below w.heap.size w w' := by
  have h1 : ¬ k < 1 := by omega
  all_goals
    go_enter Tryz.func89, Tryz.ntmps89
    go_wp2_with (go_at_call 101; refine (rsmay_eq _ _ _ _ _ _ _ _ _ _ HM _).mono ?_; rintro e w' ⟨rfl, rfl⟩)
    all_goals
      go_region
      try go_wp2_with fail
      refine bodyPost_ret (v := _) (by simp [results, Tryz.results89, go_sem]; rfl) rfl ⟨rfl, ?_⟩
      repeat (first | exact Below.refl _ _ | refine Below.setCell ?_ (by first | (simp; done) | (simp; omega)) _ | refine Below.alloc ?_ (by first | (simp; done) | (simp; omega)) _ | refine Below.drew ?_)

set_option maxHeartbeats 3200000 in
set_option maxRecDepth 100000 in
theorem ract_1 (a1 a2 a3 a4 a5 b1 b2 b3 b4 b5 : Bool) (HM : Hid (suMay ⟨a1, a2, a3, a4, a5⟩ ⟨b1, b2, b3, b4, b5⟩ = true)) (w : World) :
    Calls Tryz.prog 89 #[.agg #[.bool a1, .bool a2, .bool a3, .bool a4, .bool a5], .agg #[.bool b1, .bool b2, .bool b3, .bool b4, .bool b5], .int .i64 1] w fun e w' => e = .returned (actE (suDo ⟨a1, a2, a3, a4, a5⟩ ⟨b1, b2, b3, b4, b5⟩ 1)) ∧ Below w.heap.size w w' := by
  cases a5 <;> cases b5 <;> cases a1 <;> cases a3
  all_goals
    go_enter Tryz.func89, Tryz.ntmps89
    go_wp2_with (go_at_call 101; refine (rsmay_eq _ _ _ _ _ _ _ _ _ _ HM _).mono ?_; rintro e w' ⟨rfl, rfl⟩)
    all_goals
      go_region
      try go_wp2_with fail
      refine bodyPost_ret (v := _) (by simp [results, Tryz.results89, go_sem]; rfl) rfl ⟨rfl, ?_⟩
      repeat (first | exact Below.refl _ _ | refine Below.setCell ?_ (by first | (simp; done) | (simp; omega)) _ | refine Below.alloc ?_ (by first | (simp; done) | (simp; omega)) _ | refine Below.drew ?_)

set_option maxHeartbeats 3200000 in
set_option maxRecDepth 100000 in
theorem ract_2 (a1 a2 a3 a4 a5 b1 b2 b3 b4 b5 : Bool) (HM : Hid (suMay ⟨a1, a2, a3, a4, a5⟩ ⟨b1, b2, b3, b4, b5⟩ = true)) (w : World) :
    Calls Tryz.prog 89 #[.agg #[.bool a1, .bool a2, .bool a3, .bool a4, .bool a5], .agg #[.bool b1, .bool b2, .bool b3, .bool b4, .bool b5], .int .i64 2] w fun e w' => e = .returned (actE (suDo ⟨a1, a2, a3, a4, a5⟩ ⟨b1, b2, b3, b4, b5⟩ 2)) ∧ Below w.heap.size w w' := by
  cases a5 <;> cases b5 <;> cases a4
  all_goals
    go_enter Tryz.func89, Tryz.ntmps89
    go_wp2_with (go_at_call 101; refine (rsmay_eq _ _ _ _ _ _ _ _ _ _ HM _).mono ?_; rintro e w' ⟨rfl, rfl⟩)
    all_goals
      go_region
      try go_wp2_with fail
      refine bodyPost_ret (v := _) (by simp [results, Tryz.results89, go_sem]; rfl) rfl ⟨rfl, ?_⟩
      repeat (first | exact Below.refl _ _ | refine Below.setCell ?_ (by first | (simp; done) | (simp; omega)) _ | refine Below.alloc ?_ (by first | (simp; done) | (simp; omega)) _ | refine Below.drew ?_)

set_option maxHeartbeats 3200000 in
set_option maxRecDepth 100000 in
theorem ract_3 (a1 a2 a3 a4 a5 b1 b2 b3 b4 b5 : Bool) (HM : Hid (suMay ⟨a1, a2, a3, a4, a5⟩ ⟨b1, b2, b3, b4, b5⟩ = true)) (w : World) :
    Calls Tryz.prog 89 #[.agg #[.bool a1, .bool a2, .bool a3, .bool a4, .bool a5], .agg #[.bool b1, .bool b2, .bool b3, .bool b4, .bool b5], .int .i64 3] w fun e w' => e = .returned (actE (suDo ⟨a1, a2, a3, a4, a5⟩ ⟨b1, b2, b3, b4, b5⟩ 3)) ∧ Below w.heap.size w w' := by
  cases a1 <;> cases a3
  all_goals
    go_enter Tryz.func89, Tryz.ntmps89
    go_wp2_with (go_at_call 101; refine (rsmay_eq _ _ _ _ _ _ _ _ _ _ HM _).mono ?_; rintro e w' ⟨rfl, rfl⟩)
    all_goals
      go_region
      try go_wp2_with fail
      refine bodyPost_ret (v := _) (by simp [results, Tryz.results89, go_sem]; rfl) rfl ⟨rfl, ?_⟩
      repeat (first | exact Below.refl _ _ | refine Below.setCell ?_ (by first | (simp; done) | (simp; omega)) _ | refine Below.alloc ?_ (by first | (simp; done) | (simp; omega)) _ | refine Below.drew ?_)

set_option maxHeartbeats 3200000 in
set_option maxRecDepth 100000 in
theorem ract_4 (a1 a2 a3 a4 a5 b1 b2 b3 b4 b5 : Bool) (HM : Hid (suMay ⟨a1, a2, a3, a4, a5⟩ ⟨b1, b2, b3, b4, b5⟩ = true)) (w : World) :
    Calls Tryz.prog 89 #[.agg #[.bool a1, .bool a2, .bool a3, .bool a4, .bool a5], .agg #[.bool b1, .bool b2, .bool b3, .bool b4, .bool b5], .int .i64 4] w fun e w' => e = .returned (actE (suDo ⟨a1, a2, a3, a4, a5⟩ ⟨b1, b2, b3, b4, b5⟩ 4)) ∧ Below w.heap.size w w' := by
  cases a2 <;> cases a4
  all_goals
    go_enter Tryz.func89, Tryz.ntmps89
    go_wp2_with (go_at_call 101; refine (rsmay_eq _ _ _ _ _ _ _ _ _ _ HM _).mono ?_; rintro e w' ⟨rfl, rfl⟩)
    all_goals
      go_region
      try go_wp2_with fail
      refine bodyPost_ret (v := _) (by simp [results, Tryz.results89, go_sem]; rfl) rfl ⟨rfl, ?_⟩
      repeat (first | exact Below.refl _ _ | refine Below.setCell ?_ (by first | (simp; done) | (simp; omega)) _ | refine Below.alloc ?_ (by first | (simp; done) | (simp; omega)) _ | refine Below.drew ?_)

set_option maxHeartbeats 3200000 in
set_option maxRecDepth 100000 in
theorem ract_5 (a1 a2 a3 a4 a5 b1 b2 b3 b4 b5 : Bool) (HM : Hid (suMay ⟨a1, a2, a3, a4, a5⟩ ⟨b1, b2, b3, b4, b5⟩ = true)) (w : World) :
    Calls Tryz.prog 89 #[.agg #[.bool a1, .bool a2, .bool a3, .bool a4, .bool a5], .agg #[.bool b1, .bool b2, .bool b3, .bool b4, .bool b5], .int .i64 5] w fun e w' => e = .returned (actE (suDo ⟨a1, a2, a3, a4, a5⟩ ⟨b1, b2, b3, b4, b5⟩ 5)) ∧ Below w.heap.size w w' := by
  cases a5
  all_goals
    go_enter Tryz.func89, Tryz.ntmps89
    go_wp2_with (go_at_call 101; refine (rsmay_eq _ _ _ _ _ _ _ _ _ _ HM _).mono ?_; rintro e w' ⟨rfl, rfl⟩)
    all_goals
      go_region
      try go_wp2_with fail
      refine bodyPost_ret (v := _) (by simp [results, Tryz.results89, go_sem]; rfl) rfl ⟨rfl, ?_⟩
      repeat (first | exact Below.refl _ _ | refine Below.setCell ?_ (by first | (simp; done) | (simp; omega)) _ | refine Below.alloc ?_ (by first | (simp; done) | (simp; omega)) _ | refine Below.drew ?_)

set_option maxHeartbeats 3200000 in
set_option maxRecDepth 100000 in
theorem ract_6 (a1 a2 a3 a4 a5 b1 b2 b3 b4 b5 : Bool) (HM : Hid (suMay ⟨a1, a2, a3, a4, a5⟩ ⟨b1, b2, b3, b4, b5⟩ = true)) (w : World) :
    Calls Tryz.prog 89 #[.agg #[.bool a1, .bool a2, .bool a3, .bool a4, .bool a5], .agg #[.bool b1, .bool b2, .bool b3, .bool b4, .bool b5], .int .i64 6] w fun e w' => e = .returned (actE (suDo ⟨a1, a2, a3, a4, a5⟩ ⟨b1, b2, b3, b4, b5⟩ 6)) ∧ Below w.heap.size w w' := by
  cases a5
  all_goals
    go_enter Tryz.func89, Tryz.ntmps89
    go_wp2_with (go_at_call 101; refine (rsmay_eq _ _ _ _ _ _ _ _ _ _ HM _).mono ?_; rintro e w' ⟨rfl, rfl⟩)
    all_goals
      go_region
      try go_wp2_with fail
      refine bodyPost_ret (v := _) (by simp [results, Tryz.results89, go_sem]; rfl) rfl ⟨rfl, ?_⟩
      repeat (first | exact Below.refl _ _ | refine Below.setCell ?_ (by first | (simp; done) | (simp; omega)) _ | refine Below.alloc ?_ (by first | (simp; done) | (simp; omega)) _ | refine Below.drew ?_)

end Go.Proofs.YtdilcckoapaimaaGreat

end

section

/-
  MANY CELLS STORED ANEW, one behind the other: what each holds then.
-/
namespace Go.Proofs.YtdilcckoapaimaaGreat
open Go.RowKit

def setMany (w : World) : List (Addr × Value) → World
  | [] => w
  | x :: l => setMany (w.setCell x.1 x.2) l

theorem setMany_other (p : Addr) : ∀ (l : List (Addr × Value)) (w : World), (∀ x ∈ l, x.1 ≠ p) → (setMany w l).cell? p = w.cell? p
  | [], _, _ => rfl
  | x :: l, w, h => by
    show (setMany (w.setCell x.1 x.2) l).cell? p = _
    rw [setMany_other p l _ (fun y hy => h y (List.mem_cons_of_mem _ hy)), World.cell?_setCell_other _ _ _ _ (h x (by simp))]

theorem setMany_get : ∀ (l : List (Addr × Value)) (w : World), l.Pairwise (fun x y => x.1 ≠ y.1) → (∀ x ∈ l, (w.cell? x.1).isSome = true) → ∀ x ∈ l, (setMany w l).cell? x.1 = some x.2
  | [], _, _, _, _, h => by cases h
  | y :: l, w, hp, hs, x, hx => by
    obtain ⟨h1, h2⟩ := List.pairwise_cons.1 hp
    show (setMany (w.setCell y.1 y.2) l).cell? x.1 = _
    rcases List.mem_cons.1 hx with rfl | hx
    · rw [setMany_other _ l _ (fun z hz => (h1 z hz).symm)]
      exact World.cell?_setCell_same' _ _ _ (hs x (by simp))
    · refine setMany_get l _ h2 (fun z hz => ?_) x hx
      rw [World.cell?_setCell_other _ _ _ _ (h1 z hz)]
      exact hs z (List.mem_cons_of_mem _ hz)

theorem setMany_below {w : World} : ∀ (l : List (Addr × Value)) {w1 : World}, Below w.heap.size w w1 → (∀ x ∈ l, w.heap.size ≤ x.1.block) → Below w.heap.size w (setMany w1 l)
  | [], _, h, _ => h
  | x :: l, _, h, hl => setMany_below l (h.setCell (hl x (by simp)) _) (fun y hy => hl y (List.mem_cons_of_mem _ hy))

/-- Two items stored anew, in two blocks. -/
def set10 (w : World) (B C : Nat) (a1 a2 a3 a4 a5 b1 b2 b3 b4 b5 : Value) : World :=
  setMany w [(⟨B, 0, none⟩, a1), (⟨B, 1, none⟩, a2), (⟨B, 2, none⟩, a3), (⟨B, 3, none⟩, a4), (⟨B, 4, none⟩, a5), (⟨C, 0, none⟩, b1), (⟨C, 1, none⟩, b2), (⟨C, 2, none⟩, b3), (⟨C, 3, none⟩, b4), (⟨C, 4, none⟩, b5)]

theorem set10_get (w : World) (B C : Nat) (hBC : B ≠ C) (a1 a2 a3 a4 a5 b1 b2 b3 b4 b5 u1 u2 u3 u4 u5 v1 v2 v3 v4 v5 : Value)
    (h1 : w.cell? ⟨B, 0, none⟩ = some u1) (h2 : w.cell? ⟨B, 1, none⟩ = some u2) (h3 : w.cell? ⟨B, 2, none⟩ = some u3) (h4 : w.cell? ⟨B, 3, none⟩ = some u4) (h5 : w.cell? ⟨B, 4, none⟩ = some u5)
    (g1 : w.cell? ⟨C, 0, none⟩ = some v1) (g2 : w.cell? ⟨C, 1, none⟩ = some v2) (g3 : w.cell? ⟨C, 2, none⟩ = some v3) (g4 : w.cell? ⟨C, 3, none⟩ = some v4) (g5 : w.cell? ⟨C, 4, none⟩ = some v5) :
    let x := set10 w B C a1 a2 a3 a4 a5 b1 b2 b3 b4 b5
    x.cell? ⟨B, 0, none⟩ = some a1 ∧ x.cell? ⟨B, 1, none⟩ = some a2 ∧ x.cell? ⟨B, 2, none⟩ = some a3 ∧ x.cell? ⟨B, 3, none⟩ = some a4 ∧ x.cell? ⟨B, 4, none⟩ = some a5 ∧
    x.cell? ⟨C, 0, none⟩ = some b1 ∧ x.cell? ⟨C, 1, none⟩ = some b2 ∧ x.cell? ⟨C, 2, none⟩ = some b3 ∧ x.cell? ⟨C, 3, none⟩ = some b4 ∧ x.cell? ⟨C, 4, none⟩ = some b5 := by
  have hm := setMany_get [(⟨B, 0, none⟩, a1), (⟨B, 1, none⟩, a2), (⟨B, 2, none⟩, a3), (⟨B, 3, none⟩, a4), (⟨B, 4, none⟩, a5), (⟨C, 0, none⟩, b1), (⟨C, 1, none⟩, b2), (⟨C, 2, none⟩, b3), (⟨C, 3, none⟩, b4), (⟨C, 4, none⟩, b5)] w
    (by simp [hBC]) (by simp [h1, h2, h3, h4, h5, g1, g2, g3, g4, g5])
  exact ⟨hm (_, _) (by simp), hm (_, _) (by simp), hm (_, _) (by simp), hm (_, _) (by simp), hm (_, _) (by simp), hm (_, _) (by simp), hm (_, _) (by simp), hm (_, _) (by simp), hm (_, _) (by simp), hm (_, _) (by simp)⟩

theorem set10_below {w w1 : World} (h : Below w.heap.size w w1) (B C : Nat) (hB : w.heap.size ≤ B) (hC : w.heap.size ≤ C) (a1 a2 a3 a4 a5 b1 b2 b3 b4 b5 : Value) : Below w.heap.size w (set10 w1 B C a1 a2 a3 a4 a5 b1 b2 b3 b4 b5) :=
  setMany_below _ h (by simp [hB, hC])

end Go.Proofs.YtdilcckoapaimaaGreat

end

section

/-
  THE CONTRACT OF subs.Act: errors ahead of what is done.
-/
namespace Go.Proofs.YtdilcckoapaimaaGreat
open Go.RowKit

theorem below2S {w a b : World} (h1 : Below w.heap.size w a) (h2 : Below a.heap.size a b) : Below w.heap.size w b := h1.trans (h2.mono h1.size)

theorem act_cells {w w1 : World} {a1 a2 a3 a4 a5 b1 b2 b3 b4 b5 : Bool} (hb : Below (((((w.alloc (.cells #[.bool a1, .bool a2, .bool a3, .bool a4, .bool a5] 51)).alloc (.cells #[.bool b1, .bool b2, .bool b3, .bool b4, .bool b5] 51)).alloc (.cells #[.bool false, .bool false, .bool false, .bool false, .bool false] 51)).alloc (.cells #[.bool false, .bool false, .bool false, .bool false, .bool false] 51))).heap.size (((((w.alloc (.cells #[.bool a1, .bool a2, .bool a3, .bool a4, .bool a5] 51)).alloc (.cells #[.bool b1, .bool b2, .bool b3, .bool b4, .bool b5] 51)).alloc (.cells #[.bool false, .bool false, .bool false, .bool false, .bool false] 51)).alloc (.cells #[.bool false, .bool false, .bool false, .bool false, .bool false] 51))) w1) :
    w1.cell? ⟨w.heap.size, 0, none⟩ = some (.bool a1) ∧ w1.cell? ⟨w.heap.size, 1, none⟩ = some (.bool a2) ∧ w1.cell? ⟨w.heap.size, 2, none⟩ = some (.bool a3) ∧ w1.cell? ⟨w.heap.size, 3, none⟩ = some (.bool a4) ∧ w1.cell? ⟨w.heap.size, 4, none⟩ = some (.bool a5) ∧ w1.cell? ⟨w.heap.size + 1, 0, none⟩ = some (.bool b1) ∧ w1.cell? ⟨w.heap.size + 1, 1, none⟩ = some (.bool b2) ∧ w1.cell? ⟨w.heap.size + 1, 2, none⟩ = some (.bool b3) ∧ w1.cell? ⟨w.heap.size + 1, 3, none⟩ = some (.bool b4) ∧ w1.cell? ⟨w.heap.size + 1, 4, none⟩ = some (.bool b5) ∧ w1.cell? ⟨w.heap.size + 1 + 1, 0, none⟩ = some (.bool false) ∧ w1.frozen? ⟨w.heap.size + 1 + 1, 0, none⟩ = false ∧ w1.cell? ⟨w.heap.size + 1 + 1, 1, none⟩ = some (.bool false) ∧ w1.frozen? ⟨w.heap.size + 1 + 1, 1, none⟩ = false ∧ w1.cell? ⟨w.heap.size + 1 + 1, 2, none⟩ = some (.bool false) ∧ w1.frozen? ⟨w.heap.size + 1 + 1, 2, none⟩ = false ∧ w1.cell? ⟨w.heap.size + 1 + 1, 3, none⟩ = some (.bool false) ∧ w1.frozen? ⟨w.heap.size + 1 + 1, 3, none⟩ = false ∧ w1.cell? ⟨w.heap.size + 1 + 1, 4, none⟩ = some (.bool false) ∧ w1.frozen? ⟨w.heap.size + 1 + 1, 4, none⟩ = false ∧ w1.cell? ⟨w.heap.size + 1 + 1 + 1, 0, none⟩ = some (.bool false) ∧ w1.frozen? ⟨w.heap.size + 1 + 1 + 1, 0, none⟩ = false ∧ w1.cell? ⟨w.heap.size + 1 + 1 + 1, 1, none⟩ = some (.bool false) ∧ w1.frozen? ⟨w.heap.size + 1 + 1 + 1, 1, none⟩ = false ∧ w1.cell? ⟨w.heap.size + 1 + 1 + 1, 2, none⟩ = some (.bool false) ∧ w1.frozen? ⟨w.heap.size + 1 + 1 + 1, 2, none⟩ = false ∧ w1.cell? ⟨w.heap.size + 1 + 1 + 1, 3, none⟩ = some (.bool false) ∧ w1.frozen? ⟨w.heap.size + 1 + 1 + 1, 3, none⟩ = false ∧ w1.cell? ⟨w.heap.size + 1 + 1 + 1, 4, none⟩ = some (.bool false) ∧ w1.frozen? ⟨w.heap.size + 1 + 1 + 1, 4, none⟩ = false := by
  have hz : (((((w.alloc (.cells #[.bool a1, .bool a2, .bool a3, .bool a4, .bool a5] 51)).alloc (.cells #[.bool b1, .bool b2, .bool b3, .bool b4, .bool b5] 51)).alloc (.cells #[.bool false, .bool false, .bool false, .bool false, .bool false] 51)).alloc (.cells #[.bool false, .bool false, .bool false, .bool false, .bool false] 51))).heap.size = w.heap.size + 1 + 1 + 1 + 1 := by simp
  have hc : ∀ b o, b < w.heap.size + 1 + 1 + 1 + 1 → w1.cell? ⟨b, o, none⟩ = (((((w.alloc (.cells #[.bool a1, .bool a2, .bool a3, .bool a4, .bool a5] 51)).alloc (.cells #[.bool b1, .bool b2, .bool b3, .bool b4, .bool b5] 51)).alloc (.cells #[.bool false, .bool false, .bool false, .bool false, .bool false] 51)).alloc (.cells #[.bool false, .bool false, .bool false, .bool false, .bool false] 51))).cell? ⟨b, o, none⟩ := fun b o h => hb.cell (p := ⟨b, o, none⟩) (by rw [hz]; exact h)
  have hf : ∀ b o, b < w.heap.size + 1 + 1 + 1 + 1 → w1.frozen? ⟨b, o, none⟩ = (((((w.alloc (.cells #[.bool a1, .bool a2, .bool a3, .bool a4, .bool a5] 51)).alloc (.cells #[.bool b1, .bool b2, .bool b3, .bool b4, .bool b5] 51)).alloc (.cells #[.bool false, .bool false, .bool false, .bool false, .bool false] 51)).alloc (.cells #[.bool false, .bool false, .bool false, .bool false, .bool false] 51))).frozen? ⟨b, o, none⟩ := fun b o h => hb.frozen (p := ⟨b, o, none⟩) (by rw [hz]; exact h)
  refine ⟨?_, ?_, ?_, ?_, ?_, ?_, ?_, ?_, ?_, ?_, ?_, ?_, ?_, ?_, ?_, ?_, ?_, ?_, ?_, ?_, ?_, ?_, ?_, ?_, ?_, ?_, ?_, ?_, ?_, ?_⟩
  all_goals (first | (rw [hc _ _ (by omega)]; go_simp; done) | (rw [hf _ _ (by omega)]; go_simp; done) | (rw [hc _ _ (by omega)]; rfl) | (rw [hf _ _ (by omega)]; rfl))

set_option maxHeartbeats 3200000 in
set_option maxRecDepth 100000 in
theorem sact_out (a1 a2 a3 a4 a5 b1 b2 b3 b4 b5 : Bool) (k : Int) (hk : (Lit.int .i64 k).wf = true) (ho : k < 1 ∨ 6 < k) (w : World) :
    Calls Tryz.prog 76 #[.agg #[.bool a1, .bool a2, .bool a3, .bool a4, .bool a5], .agg #[.bool b1, .bool b2, .bool b3, .bool b4, .bool b5], .int .i64 k] w fun e w' => e = .returned (actE (⟨a1, a2, a3, a4, a5⟩, ⟨b1, b2, b3, b4, b5⟩, 1)) ∧ Below w.heap.size w w' := by
  have hno : kindFns.any (fun x => x.1 == k) = false ∧ kindFns.find? (fun x => x.1 == k) = none := by
    have h1 : ((1 : Int) == k) = false := by rw [beq_eq_false_iff_ne]; omega
    have h2 : ((2 : Int) == k) = false := by rw [beq_eq_false_iff_ne]; omega
    have h3 : ((3 : Int) == k) = false := by rw [beq_eq_false_iff_ne]; omega
    have h4 : ((4 : Int) == k) = false := by rw [beq_eq_false_iff_ne]; omega
    have h5 : ((5 : Int) == k) = false := by rw [beq_eq_false_iff_ne]; omega
    have h6 : ((6 : Int) == k) = false := by rw [beq_eq_false_iff_ne]; omega
    simp [kindFns, h1, h2, h3, h4, h5, h6]
  have HNO := Lib.hid hno
  clear hno ho
  have B0 : Hid (Below w.heap.size w (((((w.alloc (.cells #[.bool a1, .bool a2, .bool a3, .bool a4, .bool a5] 51)).alloc (.cells #[.bool b1, .bool b2, .bool b3, .bool b4, .bool b5] 51)).alloc (.cells #[.bool false, .bool false, .bool false, .bool false, .bool false] 51)).alloc (.cells #[.bool false, .bool false, .bool false, .bool false, .bool false] 51)))) := Lib.hid (((((Below.refl _ _).alloc (Nat.le_refl _) _).alloc (by simp) _).alloc (by simp; omega) _).alloc (by simp; omega) _)
  go_enter Tryz.func76, Tryz.ntmps76
  go_wp2_with fail
  refine (kinds_any _).mono ?_
  rintro e w1 ⟨rfl, hf, hb⟩
  have hl0 := hf.look k hk
  rw [HNO.out.1, HNO.out.2] at hl0
  have hl1 : ∀ B, B = (((((w.alloc (.cells #[.bool a1, .bool a2, .bool a3, .bool a4, .bool a5] 51)).alloc (.cells #[.bool b1, .bool b2, .bool b3, .bool b4, .bool b5] 51)).alloc (.cells #[.bool false, .bool false, .bool false, .bool false, .bool false] 51)).alloc (.cells #[.bool false, .bool false, .bool false, .bool false, .bool false] 51))).heap.size → (Instr.lookup 142 (.map (some B)) (.int .i64 k) true).run Tryz.prog w1 = .ok (.tuple #[.nilFunc, .bool false]) w1 := fun B e => by rw [e]; exact hl0
  have hl := hl1 (w.heap.size + 1 + 1 + 1 + 1) (by simp)
  clear hl0 hl1
  have HB1 : Hid (Below w.heap.size w w1) := Lib.hid (below2S B0.out hb)
  have hz1 : w.heap.size + 1 + 1 + 1 + 1 ≤ w1.heap.size := by have := hb.size; simp at this; omega
  obtain ⟨c00, c01, c02, c03, c04, c10, c11, c12, c13, c14, c20, z20, c21, z21, c22, z22, c23, z23, c24, z24, c30, z30, c31, z31, c32, z32, c33, z33, c34, z34⟩ := act_cells hb
  clear hf hb
  go_wp2_with fail
  go_region
  try go_wp2_with fail
  obtain ⟨r0, r1, r2, r3, r4, r5, r6, r7, r8, r9⟩ := set10_get w1 (w.heap.size + 1 + 1) (w.heap.size + 1 + 1 + 1) (by omega) (.bool a1) (.bool a2) (.bool a3) (.bool a4) (.bool a5) (.bool b1) (.bool b2) (.bool b3) (.bool b4) (.bool b5) _ _ _ _ _ _ _ _ _ _ c20 c21 c22 c23 c24 c30 c31 c32 c33 c34
  have hB := set10_below HB1.out (w.heap.size + 1 + 1) (w.heap.size + 1 + 1 + 1) (by omega) (by omega) (.bool a1) (.bool a2) (.bool a3) (.bool a4) (.bool a5) (.bool b1) (.bool b2) (.bool b3) (.bool b4) (.bool b5)
  show bodyPost _ _ _ _ _ (set10 w1 (w.heap.size + 1 + 1) (w.heap.size + 1 + 1 + 1) (.bool a1) (.bool a2) (.bool a3) (.bool a4) (.bool a5) (.bool b1) (.bool b2) (.bool b3) (.bool b4) (.bool b5)).drew
  exact bodyPost_ret (v := actE (⟨a1, a2, a3, a4, a5⟩, ⟨b1, b2, b3, b4, b5⟩, 1)) (by simp [results, Tryz.results76, go_sem, actE, r0, r1, r2, r3, r4, r5, r6, r7, r8, r9]) rfl ⟨rfl, hB.drew⟩

set_option maxHeartbeats 3200000 in
set_option maxRecDepth 100000 in
theorem sact_not (a1 a2 a3 a4 a5 b1 b2 b3 b4 b5 : Bool) (k : Int) (hk : (Lit.int .i64 k).wf = true) (HY : Hid (kindFns.any (fun x => x.1 == k) = true)) (HM : Hid (suMay ⟨a1, a2, a3, a4, a5⟩ ⟨b1, b2, b3, b4, b5⟩ = false)) (w : World) :
    Calls Tryz.prog 76 #[.agg #[.bool a1, .bool a2, .bool a3, .bool a4, .bool a5], .agg #[.bool b1, .bool b2, .bool b3, .bool b4, .bool b5], .int .i64 k] w fun e w' => e = .returned (actE (⟨a1, a2, a3, a4, a5⟩, ⟨b1, b2, b3, b4, b5⟩, 1)) ∧ Below w.heap.size w w' := by
  obtain ⟨fv, hfv⟩ : ∃ fv, fnVal (kindFns.find? fun x => x.1 == k) = fv := ⟨_, rfl⟩
  have HFV := Lib.hid hfv
  clear hfv
  have B0 : Hid (Below w.heap.size w (((((w.alloc (.cells #[.bool a1, .bool a2, .bool a3, .bool a4, .bool a5] 51)).alloc (.cells #[.bool b1, .bool b2, .bool b3, .bool b4, .bool b5] 51)).alloc (.cells #[.bool false, .bool false, .bool false, .bool false, .bool false] 51)).alloc (.cells #[.bool false, .bool false, .bool false, .bool false, .bool false] 51)))) := Lib.hid (((((Below.refl _ _).alloc (Nat.le_refl _) _).alloc (by simp) _).alloc (by simp; omega) _).alloc (by simp; omega) _)
  go_enter Tryz.func76, Tryz.ntmps76
  go_wp2_with fail
  refine (kinds_any _).mono ?_
  rintro e w1 ⟨rfl, hf, hb⟩
  have hl0 := hf.look k hk
  rw [HFV.out, HY.out] at hl0
  have hl1 : ∀ B, B = (((((w.alloc (.cells #[.bool a1, .bool a2, .bool a3, .bool a4, .bool a5] 51)).alloc (.cells #[.bool b1, .bool b2, .bool b3, .bool b4, .bool b5] 51)).alloc (.cells #[.bool false, .bool false, .bool false, .bool false, .bool false] 51)).alloc (.cells #[.bool false, .bool false, .bool false, .bool false, .bool false] 51))).heap.size → (Instr.lookup 142 (.map (some B)) (.int .i64 k) true).run Tryz.prog w1 = .ok (.tuple #[fv, .bool true]) w1 := fun B e => by rw [e]; exact hl0
  have hl := hl1 (w.heap.size + 1 + 1 + 1 + 1) (by simp)
  clear hl0 hl1
  have HB1 : Hid (Below w.heap.size w w1) := Lib.hid (below2S B0.out hb)
  have hz1 : w.heap.size + 1 + 1 + 1 + 1 ≤ w1.heap.size := by have := hb.size; simp at this; omega
  obtain ⟨c00, c01, c02, c03, c04, c10, c11, c12, c13, c14, c20, z20, c21, z21, c22, z22, c23, z23, c24, z24, c30, z30, c31, z31, c32, z32, c33, z33, c34, z34⟩ := act_cells hb
  clear hf hb
  go_wp2_with fail
  refine (smay_eq _ _ _ _ _ _ _ _ _ _ HM _).mono ?_
  rintro e w2 ⟨rfl, rfl⟩
  obtain ⟨w2, hw2⟩ : ∃ w2, w2 = (w1.alloc (.cells #[.bool a1, .bool a2, .bool a3, .bool a4, .bool a5] 51)).alloc (.cells #[.bool b1, .bool b2, .bool b3, .bool b4, .bool b5] 51) := ⟨_, rfl⟩
  rw [← hw2]
  have hb2 : Below w1.heap.size w1 w2 := by rw [hw2]; exact ((Below.refl _ _).alloc (Nat.le_refl _) _).alloc (by simp) _
  have HB2 : Hid (Below w.heap.size w w2) := Lib.hid (below2S HB1.out hb2)
  clear hw2
  replace c00 := (hb2.cell (p := ⟨w.heap.size, 0, none⟩) (by show w.heap.size < w1.heap.size; omega)).trans c00
  replace c01 := (hb2.cell (p := ⟨w.heap.size, 1, none⟩) (by show w.heap.size < w1.heap.size; omega)).trans c01
  replace c02 := (hb2.cell (p := ⟨w.heap.size, 2, none⟩) (by show w.heap.size < w1.heap.size; omega)).trans c02
  replace c03 := (hb2.cell (p := ⟨w.heap.size, 3, none⟩) (by show w.heap.size < w1.heap.size; omega)).trans c03
  replace c04 := (hb2.cell (p := ⟨w.heap.size, 4, none⟩) (by show w.heap.size < w1.heap.size; omega)).trans c04
  replace c10 := (hb2.cell (p := ⟨w.heap.size + 1, 0, none⟩) (by show w.heap.size + 1 < w1.heap.size; omega)).trans c10
  replace c11 := (hb2.cell (p := ⟨w.heap.size + 1, 1, none⟩) (by show w.heap.size + 1 < w1.heap.size; omega)).trans c11
  replace c12 := (hb2.cell (p := ⟨w.heap.size + 1, 2, none⟩) (by show w.heap.size + 1 < w1.heap.size; omega)).trans c12
  replace c13 := (hb2.cell (p := ⟨w.heap.size + 1, 3, none⟩) (by show w.heap.size + 1 < w1.heap.size; omega)).trans c13
  replace c14 := (hb2.cell (p := ⟨w.heap.size + 1, 4, none⟩) (by show w.heap.size + 1 < w1.heap.size; omega)).trans c14
  replace c20 := (hb2.cell (p := ⟨w.heap.size + 1 + 1, 0, none⟩) (by show w.heap.size + 1 + 1 < w1.heap.size; omega)).trans c20
  replace z20 := (hb2.frozen (p := ⟨w.heap.size + 1 + 1, 0, none⟩) (by show w.heap.size + 1 + 1 < w1.heap.size; omega)).trans z20
  replace c21 := (hb2.cell (p := ⟨w.heap.size + 1 + 1, 1, none⟩) (by show w.heap.size + 1 + 1 < w1.heap.size; omega)).trans c21
  replace z21 := (hb2.frozen (p := ⟨w.heap.size + 1 + 1, 1, none⟩) (by show w.heap.size + 1 + 1 < w1.heap.size; omega)).trans z21
  replace c22 := (hb2.cell (p := ⟨w.heap.size + 1 + 1, 2, none⟩) (by show w.heap.size + 1 + 1 < w1.heap.size; omega)).trans c22
  replace z22 := (hb2.frozen (p := ⟨w.heap.size + 1 + 1, 2, none⟩) (by show w.heap.size + 1 + 1 < w1.heap.size; omega)).trans z22
  replace c23 := (hb2.cell (p := ⟨w.heap.size + 1 + 1, 3, none⟩) (by show w.heap.size + 1 + 1 < w1.heap.size; omega)).trans c23
  replace z23 := (hb2.frozen (p := ⟨w.heap.size + 1 + 1, 3, none⟩) (by show w.heap.size + 1 + 1 < w1.heap.size; omega)).trans z23
  replace c24 := (hb2.cell (p := ⟨w.heap.size + 1 + 1, 4, none⟩) (by show w.heap.size + 1 + 1 < w1.heap.size; omega)).trans c24
  replace z24 := (hb2.frozen (p := ⟨w.heap.size + 1 + 1, 4, none⟩) (by show w.heap.size + 1 + 1 < w1.heap.size; omega)).trans z24
  replace c30 := (hb2.cell (p := ⟨w.heap.size + 1 + 1 + 1, 0, none⟩) (by show w.heap.size + 1 + 1 + 1 < w1.heap.size; omega)).trans c30
  replace z30 := (hb2.frozen (p := ⟨w.heap.size + 1 + 1 + 1, 0, none⟩) (by show w.heap.size + 1 + 1 + 1 < w1.heap.size; omega)).trans z30
  replace c31 := (hb2.cell (p := ⟨w.heap.size + 1 + 1 + 1, 1, none⟩) (by show w.heap.size + 1 + 1 + 1 < w1.heap.size; omega)).trans c31
  replace z31 := (hb2.frozen (p := ⟨w.heap.size + 1 + 1 + 1, 1, none⟩) (by show w.heap.size + 1 + 1 + 1 < w1.heap.size; omega)).trans z31
  replace c32 := (hb2.cell (p := ⟨w.heap.size + 1 + 1 + 1, 2, none⟩) (by show w.heap.size + 1 + 1 + 1 < w1.heap.size; omega)).trans c32
  replace z32 := (hb2.frozen (p := ⟨w.heap.size + 1 + 1 + 1, 2, none⟩) (by show w.heap.size + 1 + 1 + 1 < w1.heap.size; omega)).trans z32
  replace c33 := (hb2.cell (p := ⟨w.heap.size + 1 + 1 + 1, 3, none⟩) (by show w.heap.size + 1 + 1 + 1 < w1.heap.size; omega)).trans c33
  replace z33 := (hb2.frozen (p := ⟨w.heap.size + 1 + 1 + 1, 3, none⟩) (by show w.heap.size + 1 + 1 + 1 < w1.heap.size; omega)).trans z33
  replace c34 := (hb2.cell (p := ⟨w.heap.size + 1 + 1 + 1, 4, none⟩) (by show w.heap.size + 1 + 1 + 1 < w1.heap.size; omega)).trans c34
  replace z34 := (hb2.frozen (p := ⟨w.heap.size + 1 + 1 + 1, 4, none⟩) (by show w.heap.size + 1 + 1 + 1 < w1.heap.size; omega)).trans z34
  clear hb2
  go_wp2_with fail
  go_region
  try go_wp2_with fail
  obtain ⟨r0, r1, r2, r3, r4, r5, r6, r7, r8, r9⟩ := set10_get w2 (w.heap.size + 1 + 1) (w.heap.size + 1 + 1 + 1) (by omega) (.bool a1) (.bool a2) (.bool a3) (.bool a4) (.bool a5) (.bool b1) (.bool b2) (.bool b3) (.bool b4) (.bool b5) _ _ _ _ _ _ _ _ _ _ c20 c21 c22 c23 c24 c30 c31 c32 c33 c34
  have hB := set10_below HB2.out (w.heap.size + 1 + 1) (w.heap.size + 1 + 1 + 1) (by omega) (by omega) (.bool a1) (.bool a2) (.bool a3) (.bool a4) (.bool a5) (.bool b1) (.bool b2) (.bool b3) (.bool b4) (.bool b5)
  show bodyPost _ _ _ _ _ (set10 w2 (w.heap.size + 1 + 1) (w.heap.size + 1 + 1 + 1) (.bool a1) (.bool a2) (.bool a3) (.bool a4) (.bool a5) (.bool b1) (.bool b2) (.bool b3) (.bool b4) (.bool b5)).drew
  exact bodyPost_ret (v := actE (⟨a1, a2, a3, a4, a5⟩, ⟨b1, b2, b3, b4, b5⟩, 1)) (by simp [results, Tryz.results76, go_sem, actE, r0, r1, r2, r3, r4, r5, r6, r7, r8, r9]) rfl ⟨rfl, hB.drew⟩

end Go.Proofs.YtdilcckoapaimaaGreat

end

section

/-
  THE CONTRACT OF subs.Act at kind 1, of items that may be.
-/
namespace Go.Proofs.YtdilcckoapaimaaGreat
open Go.RowKit

theorem subscribe_eq (a1 a2 a3 a4 a5 b1 b2 b3 b4 b5 : Bool) {x1 x2 x3 x4 x5 y1 y2 y3 y4 y5 : Bool} {er : Nat} (h : Hid (suDo ⟨a1, a2, a3, a4, a5⟩ ⟨b1, b2, b3, b4, b5⟩ 1 = (⟨x1, x2, x3, x4, x5⟩, ⟨y1, y2, y3, y4, y5⟩, er))) (w : World) :
    Calls Tryz.prog 146 #[.agg #[.bool a1, .bool a2, .bool a3, .bool a4, .bool a5, .bool b1, .bool b2, .bool b3, .bool b4, .bool b5]] w fun e w' => e = .returned (.tuple #[.agg #[.bool x1, .bool x2, .bool x3, .bool x4, .bool x5, .bool y1, .bool y2, .bool y3, .bool y4, .bool y5], .int .i64 er]) ∧ Below w.heap.size w w' := by
  have g := subscribe_any a1 a2 a3 a4 a5 b1 b2 b3 b4 b5 w
  rw [h.out] at g
  exact g

set_option maxHeartbeats 3200000 in
set_option maxRecDepth 100000 in
theorem sact_err1 (a1 a2 a3 a4 a5 b1 b2 b3 b4 b5 : Bool) {x1 x2 x3 x4 x5 y1 y2 y3 y4 y5 : Bool} {er : Nat} (he : er ≠ 0) (HM : Hid (suMay ⟨a1, a2, a3, a4, a5⟩ ⟨b1, b2, b3, b4, b5⟩ = true)) (HD : Hid (suDo ⟨a1, a2, a3, a4, a5⟩ ⟨b1, b2, b3, b4, b5⟩ 1 = (⟨x1, x2, x3, x4, x5⟩, ⟨y1, y2, y3, y4, y5⟩, er))) (w : World) :
    Calls Tryz.prog 76 #[.agg #[.bool a1, .bool a2, .bool a3, .bool a4, .bool a5], .agg #[.bool b1, .bool b2, .bool b3, .bool b4, .bool b5], .int .i64 1] w fun e w' => e = .returned (actE (⟨a1, a2, a3, a4, a5⟩, ⟨b1, b2, b3, b4, b5⟩, er)) ∧ Below w.heap.size w w' := by
  have t1 : ((er : Int) != 0) = true := by rw [bne_iff_ne]; omega
  clear he
  have B0 : Hid (Below w.heap.size w (((((w.alloc (.cells #[.bool a1, .bool a2, .bool a3, .bool a4, .bool a5] 51)).alloc (.cells #[.bool b1, .bool b2, .bool b3, .bool b4, .bool b5] 51)).alloc (.cells #[.bool false, .bool false, .bool false, .bool false, .bool false] 51)).alloc (.cells #[.bool false, .bool false, .bool false, .bool false, .bool false] 51)))) := Lib.hid (((((Below.refl _ _).alloc (Nat.le_refl _) _).alloc (by simp) _).alloc (by simp; omega) _).alloc (by simp; omega) _)
  go_enter Tryz.func76, Tryz.ntmps76
  go_wp2_with fail
  refine (kinds_any _).mono ?_
  rintro e w1 ⟨rfl, hf, hb⟩
  have hl0 := hf.look 1 (by decide)
  have hl1 : ∀ B, B = (((((w.alloc (.cells #[.bool a1, .bool a2, .bool a3, .bool a4, .bool a5] 51)).alloc (.cells #[.bool b1, .bool b2, .bool b3, .bool b4, .bool b5] 51)).alloc (.cells #[.bool false, .bool false, .bool false, .bool false, .bool false] 51)).alloc (.cells #[.bool false, .bool false, .bool false, .bool false, .bool false] 51))).heap.size → (Instr.lookup 142 (.map (some B)) (.int .i64 1) true).run Tryz.prog w1 = .ok (.tuple #[.func (.func 146) #[] #[], .bool true]) w1 := fun B e => by rw [e]; exact hl0
  have hl := hl1 (w.heap.size + 1 + 1 + 1 + 1) (by simp)
  clear hl0 hl1
  have HB1 : Hid (Below w.heap.size w w1) := Lib.hid (below2S B0.out hb)
  have hz1 : w.heap.size + 1 + 1 + 1 + 1 ≤ w1.heap.size := by have := hb.size; simp at this; omega
  obtain ⟨c00, c01, c02, c03, c04, c10, c11, c12, c13, c14, c20, z20, c21, z21, c22, z22, c23, z23, c24, z24, c30, z30, c31, z31, c32, z32, c33, z33, c34, z34⟩ := act_cells hb
  clear hf hb
  go_wp2_with fail
  refine (smay_eq _ _ _ _ _ _ _ _ _ _ HM _).mono ?_
  rintro e w2 ⟨rfl, rfl⟩
  obtain ⟨w2, hw2⟩ : ∃ w2, w2 = (w1.alloc (.cells #[.bool a1, .bool a2, .bool a3, .bool a4, .bool a5] 51)).alloc (.cells #[.bool b1, .bool b2, .bool b3, .bool b4, .bool b5] 51) := ⟨_, rfl⟩
  rw [← hw2]
  have hb2 : Below w1.heap.size w1 w2 := by rw [hw2]; exact ((Below.refl _ _).alloc (Nat.le_refl _) _).alloc (by simp) _
  have HB2 : Hid (Below w.heap.size w w2) := Lib.hid (below2S HB1.out hb2)
  have hz2 : w.heap.size + 1 + 1 + 1 + 1 ≤ w2.heap.size := Nat.le_trans hz1 hb2.size
  clear hw2
  replace c00 := (hb2.cell (p := ⟨w.heap.size, 0, none⟩) (by show w.heap.size < w1.heap.size; omega)).trans c00
  replace c01 := (hb2.cell (p := ⟨w.heap.size, 1, none⟩) (by show w.heap.size < w1.heap.size; omega)).trans c01
  replace c02 := (hb2.cell (p := ⟨w.heap.size, 2, none⟩) (by show w.heap.size < w1.heap.size; omega)).trans c02
  replace c03 := (hb2.cell (p := ⟨w.heap.size, 3, none⟩) (by show w.heap.size < w1.heap.size; omega)).trans c03
  replace c04 := (hb2.cell (p := ⟨w.heap.size, 4, none⟩) (by show w.heap.size < w1.heap.size; omega)).trans c04
  replace c10 := (hb2.cell (p := ⟨w.heap.size + 1, 0, none⟩) (by show w.heap.size + 1 < w1.heap.size; omega)).trans c10
  replace c11 := (hb2.cell (p := ⟨w.heap.size + 1, 1, none⟩) (by show w.heap.size + 1 < w1.heap.size; omega)).trans c11
  replace c12 := (hb2.cell (p := ⟨w.heap.size + 1, 2, none⟩) (by show w.heap.size + 1 < w1.heap.size; omega)).trans c12
  replace c13 := (hb2.cell (p := ⟨w.heap.size + 1, 3, none⟩) (by show w.heap.size + 1 < w1.heap.size; omega)).trans c13
  replace c14 := (hb2.cell (p := ⟨w.heap.size + 1, 4, none⟩) (by show w.heap.size + 1 < w1.heap.size; omega)).trans c14
  replace c20 := (hb2.cell (p := ⟨w.heap.size + 1 + 1, 0, none⟩) (by show w.heap.size + 1 + 1 < w1.heap.size; omega)).trans c20
  replace z20 := (hb2.frozen (p := ⟨w.heap.size + 1 + 1, 0, none⟩) (by show w.heap.size + 1 + 1 < w1.heap.size; omega)).trans z20
  replace c21 := (hb2.cell (p := ⟨w.heap.size + 1 + 1, 1, none⟩) (by show w.heap.size + 1 + 1 < w1.heap.size; omega)).trans c21
  replace z21 := (hb2.frozen (p := ⟨w.heap.size + 1 + 1, 1, none⟩) (by show w.heap.size + 1 + 1 < w1.heap.size; omega)).trans z21
  replace c22 := (hb2.cell (p := ⟨w.heap.size + 1 + 1, 2, none⟩) (by show w.heap.size + 1 + 1 < w1.heap.size; omega)).trans c22
  replace z22 := (hb2.frozen (p := ⟨w.heap.size + 1 + 1, 2, none⟩) (by show w.heap.size + 1 + 1 < w1.heap.size; omega)).trans z22
  replace c23 := (hb2.cell (p := ⟨w.heap.size + 1 + 1, 3, none⟩) (by show w.heap.size + 1 + 1 < w1.heap.size; omega)).trans c23
  replace z23 := (hb2.frozen (p := ⟨w.heap.size + 1 + 1, 3, none⟩) (by show w.heap.size + 1 + 1 < w1.heap.size; omega)).trans z23
  replace c24 := (hb2.cell (p := ⟨w.heap.size + 1 + 1, 4, none⟩) (by show w.heap.size + 1 + 1 < w1.heap.size; omega)).trans c24
  replace z24 := (hb2.frozen (p := ⟨w.heap.size + 1 + 1, 4, none⟩) (by show w.heap.size + 1 + 1 < w1.heap.size; omega)).trans z24
  replace c30 := (hb2.cell (p := ⟨w.heap.size + 1 + 1 + 1, 0, none⟩) (by show w.heap.size + 1 + 1 + 1 < w1.heap.size; omega)).trans c30
  replace z30 := (hb2.frozen (p := ⟨w.heap.size + 1 + 1 + 1, 0, none⟩) (by show w.heap.size + 1 + 1 + 1 < w1.heap.size; omega)).trans z30
  replace c31 := (hb2.cell (p := ⟨w.heap.size + 1 + 1 + 1, 1, none⟩) (by show w.heap.size + 1 + 1 + 1 < w1.heap.size; omega)).trans c31
  replace z31 := (hb2.frozen (p := ⟨w.heap.size + 1 + 1 + 1, 1, none⟩) (by show w.heap.size + 1 + 1 + 1 < w1.heap.size; omega)).trans z31
  replace c32 := (hb2.cell (p := ⟨w.heap.size + 1 + 1 + 1, 2, none⟩) (by show w.heap.size + 1 + 1 + 1 < w1.heap.size; omega)).trans c32
  replace z32 := (hb2.frozen (p := ⟨w.heap.size + 1 + 1 + 1, 2, none⟩) (by show w.heap.size + 1 + 1 + 1 < w1.heap.size; omega)).trans z32
  replace c33 := (hb2.cell (p := ⟨w.heap.size + 1 + 1 + 1, 3, none⟩) (by show w.heap.size + 1 + 1 + 1 < w1.heap.size; omega)).trans c33
  replace z33 := (hb2.frozen (p := ⟨w.heap.size + 1 + 1 + 1, 3, none⟩) (by show w.heap.size + 1 + 1 + 1 < w1.heap.size; omega)).trans z33
  replace c34 := (hb2.cell (p := ⟨w.heap.size + 1 + 1 + 1, 4, none⟩) (by show w.heap.size + 1 + 1 + 1 < w1.heap.size; omega)).trans c34
  replace z34 := (hb2.frozen (p := ⟨w.heap.size + 1 + 1 + 1, 4, none⟩) (by show w.heap.size + 1 + 1 + 1 < w1.heap.size; omega)).trans z34
  clear hb2 hz1
  go_wp2_with fail
  refine (subscribe_eq _ _ _ _ _ _ _ _ _ _ HD _).mono ?_
  rintro e w3 ⟨rfl, hb3⟩
  have HB3 : Hid (Below w.heap.size w w3) := Lib.hid (below2S HB2.out hb3)
  have hz3 : w.heap.size + 1 + 1 + 1 + 1 ≤ w3.heap.size := Nat.le_trans hz2 hb3.size
  replace c00 := (hb3.cell (p := ⟨w.heap.size, 0, none⟩) (by show w.heap.size < w2.heap.size; omega)).trans c00
  replace c01 := (hb3.cell (p := ⟨w.heap.size, 1, none⟩) (by show w.heap.size < w2.heap.size; omega)).trans c01
  replace c02 := (hb3.cell (p := ⟨w.heap.size, 2, none⟩) (by show w.heap.size < w2.heap.size; omega)).trans c02
  replace c03 := (hb3.cell (p := ⟨w.heap.size, 3, none⟩) (by show w.heap.size < w2.heap.size; omega)).trans c03
  replace c04 := (hb3.cell (p := ⟨w.heap.size, 4, none⟩) (by show w.heap.size < w2.heap.size; omega)).trans c04
  replace c10 := (hb3.cell (p := ⟨w.heap.size + 1, 0, none⟩) (by show w.heap.size + 1 < w2.heap.size; omega)).trans c10
  replace c11 := (hb3.cell (p := ⟨w.heap.size + 1, 1, none⟩) (by show w.heap.size + 1 < w2.heap.size; omega)).trans c11
  replace c12 := (hb3.cell (p := ⟨w.heap.size + 1, 2, none⟩) (by show w.heap.size + 1 < w2.heap.size; omega)).trans c12
  replace c13 := (hb3.cell (p := ⟨w.heap.size + 1, 3, none⟩) (by show w.heap.size + 1 < w2.heap.size; omega)).trans c13
  replace c14 := (hb3.cell (p := ⟨w.heap.size + 1, 4, none⟩) (by show w.heap.size + 1 < w2.heap.size; omega)).trans c14
  replace c20 := (hb3.cell (p := ⟨w.heap.size + 1 + 1, 0, none⟩) (by show w.heap.size + 1 + 1 < w2.heap.size; omega)).trans c20
  replace z20 := (hb3.frozen (p := ⟨w.heap.size + 1 + 1, 0, none⟩) (by show w.heap.size + 1 + 1 < w2.heap.size; omega)).trans z20
  replace c21 := (hb3.cell (p := ⟨w.heap.size + 1 + 1, 1, none⟩) (by show w.heap.size + 1 + 1 < w2.heap.size; omega)).trans c21
  replace z21 := (hb3.frozen (p := ⟨w.heap.size + 1 + 1, 1, none⟩) (by show w.heap.size + 1 + 1 < w2.heap.size; omega)).trans z21
  replace c22 := (hb3.cell (p := ⟨w.heap.size + 1 + 1, 2, none⟩) (by show w.heap.size + 1 + 1 < w2.heap.size; omega)).trans c22
  replace z22 := (hb3.frozen (p := ⟨w.heap.size + 1 + 1, 2, none⟩) (by show w.heap.size + 1 + 1 < w2.heap.size; omega)).trans z22
  replace c23 := (hb3.cell (p := ⟨w.heap.size + 1 + 1, 3, none⟩) (by show w.heap.size + 1 + 1 < w2.heap.size; omega)).trans c23
  replace z23 := (hb3.frozen (p := ⟨w.heap.size + 1 + 1, 3, none⟩) (by show w.heap.size + 1 + 1 < w2.heap.size; omega)).trans z23
  replace c24 := (hb3.cell (p := ⟨w.heap.size + 1 + 1, 4, none⟩) (by show w.heap.size + 1 + 1 < w2.heap.size; omega)).trans c24
  replace z24 := (hb3.frozen (p := ⟨w.heap.size + 1 + 1, 4, none⟩) (by show w.heap.size + 1 + 1 < w2.heap.size; omega)).trans z24
  replace c30 := (hb3.cell (p := ⟨w.heap.size + 1 + 1 + 1, 0, none⟩) (by show w.heap.size + 1 + 1 + 1 < w2.heap.size; omega)).trans c30
  replace z30 := (hb3.frozen (p := ⟨w.heap.size + 1 + 1 + 1, 0, none⟩) (by show w.heap.size + 1 + 1 + 1 < w2.heap.size; omega)).trans z30
  replace c31 := (hb3.cell (p := ⟨w.heap.size + 1 + 1 + 1, 1, none⟩) (by show w.heap.size + 1 + 1 + 1 < w2.heap.size; omega)).trans c31
  replace z31 := (hb3.frozen (p := ⟨w.heap.size + 1 + 1 + 1, 1, none⟩) (by show w.heap.size + 1 + 1 + 1 < w2.heap.size; omega)).trans z31
  replace c32 := (hb3.cell (p := ⟨w.heap.size + 1 + 1 + 1, 2, none⟩) (by show w.heap.size + 1 + 1 + 1 < w2.heap.size; omega)).trans c32
  replace z32 := (hb3.frozen (p := ⟨w.heap.size + 1 + 1 + 1, 2, none⟩) (by show w.heap.size + 1 + 1 + 1 < w2.heap.size; omega)).trans z32
  replace c33 := (hb3.cell (p := ⟨w.heap.size + 1 + 1 + 1, 3, none⟩) (by show w.heap.size + 1 + 1 + 1 < w2.heap.size; omega)).trans c33
  replace z33 := (hb3.frozen (p := ⟨w.heap.size + 1 + 1 + 1, 3, none⟩) (by show w.heap.size + 1 + 1 + 1 < w2.heap.size; omega)).trans z33
  replace c34 := (hb3.cell (p := ⟨w.heap.size + 1 + 1 + 1, 4, none⟩) (by show w.heap.size + 1 + 1 + 1 < w2.heap.size; omega)).trans c34
  replace z34 := (hb3.frozen (p := ⟨w.heap.size + 1 + 1 + 1, 4, none⟩) (by show w.heap.size + 1 + 1 + 1 < w2.heap.size; omega)).trans z34
  clear hb3 hz2
  go_wp2_with fail
  have hb4 : Below w3.heap.size w3 (w3.alloc (.cells #[.bool x1, .bool x2, .bool x3, .bool x4, .bool x5, .bool y1, .bool y2, .bool y3, .bool y4, .bool y5] 145)) := (Below.refl _ _).alloc (Nat.le_refl _) _
  have HB4 : Hid (Below w.heap.size w (w3.alloc (.cells #[.bool x1, .bool x2, .bool x3, .bool x4, .bool x5, .bool y1, .bool y2, .bool y3, .bool y4, .bool y5] 145))) := Lib.hid (below2S HB3.out hb4)
  replace c00 := (hb4.cell (p := ⟨w.heap.size, 0, none⟩) (by show w.heap.size < w3.heap.size; omega)).trans c00
  replace c01 := (hb4.cell (p := ⟨w.heap.size, 1, none⟩) (by show w.heap.size < w3.heap.size; omega)).trans c01
  replace c02 := (hb4.cell (p := ⟨w.heap.size, 2, none⟩) (by show w.heap.size < w3.heap.size; omega)).trans c02
  replace c03 := (hb4.cell (p := ⟨w.heap.size, 3, none⟩) (by show w.heap.size < w3.heap.size; omega)).trans c03
  replace c04 := (hb4.cell (p := ⟨w.heap.size, 4, none⟩) (by show w.heap.size < w3.heap.size; omega)).trans c04
  replace c10 := (hb4.cell (p := ⟨w.heap.size + 1, 0, none⟩) (by show w.heap.size + 1 < w3.heap.size; omega)).trans c10
  replace c11 := (hb4.cell (p := ⟨w.heap.size + 1, 1, none⟩) (by show w.heap.size + 1 < w3.heap.size; omega)).trans c11
  replace c12 := (hb4.cell (p := ⟨w.heap.size + 1, 2, none⟩) (by show w.heap.size + 1 < w3.heap.size; omega)).trans c12
  replace c13 := (hb4.cell (p := ⟨w.heap.size + 1, 3, none⟩) (by show w.heap.size + 1 < w3.heap.size; omega)).trans c13
  replace c14 := (hb4.cell (p := ⟨w.heap.size + 1, 4, none⟩) (by show w.heap.size + 1 < w3.heap.size; omega)).trans c14
  replace c20 := (hb4.cell (p := ⟨w.heap.size + 1 + 1, 0, none⟩) (by show w.heap.size + 1 + 1 < w3.heap.size; omega)).trans c20
  replace z20 := (hb4.frozen (p := ⟨w.heap.size + 1 + 1, 0, none⟩) (by show w.heap.size + 1 + 1 < w3.heap.size; omega)).trans z20
  replace c21 := (hb4.cell (p := ⟨w.heap.size + 1 + 1, 1, none⟩) (by show w.heap.size + 1 + 1 < w3.heap.size; omega)).trans c21
  replace z21 := (hb4.frozen (p := ⟨w.heap.size + 1 + 1, 1, none⟩) (by show w.heap.size + 1 + 1 < w3.heap.size; omega)).trans z21
  replace c22 := (hb4.cell (p := ⟨w.heap.size + 1 + 1, 2, none⟩) (by show w.heap.size + 1 + 1 < w3.heap.size; omega)).trans c22
  replace z22 := (hb4.frozen (p := ⟨w.heap.size + 1 + 1, 2, none⟩) (by show w.heap.size + 1 + 1 < w3.heap.size; omega)).trans z22
  replace c23 := (hb4.cell (p := ⟨w.heap.size + 1 + 1, 3, none⟩) (by show w.heap.size + 1 + 1 < w3.heap.size; omega)).trans c23
  replace z23 := (hb4.frozen (p := ⟨w.heap.size + 1 + 1, 3, none⟩) (by show w.heap.size + 1 + 1 < w3.heap.size; omega)).trans z23
  replace c24 := (hb4.cell (p := ⟨w.heap.size + 1 + 1, 4, none⟩) (by show w.heap.size + 1 + 1 < w3.heap.size; omega)).trans c24
  replace z24 := (hb4.frozen (p := ⟨w.heap.size + 1 + 1, 4, none⟩) (by show w.heap.size + 1 + 1 < w3.heap.size; omega)).trans z24
  replace c30 := (hb4.cell (p := ⟨w.heap.size + 1 + 1 + 1, 0, none⟩) (by show w.heap.size + 1 + 1 + 1 < w3.heap.size; omega)).trans c30
  replace z30 := (hb4.frozen (p := ⟨w.heap.size + 1 + 1 + 1, 0, none⟩) (by show w.heap.size + 1 + 1 + 1 < w3.heap.size; omega)).trans z30
  replace c31 := (hb4.cell (p := ⟨w.heap.size + 1 + 1 + 1, 1, none⟩) (by show w.heap.size + 1 + 1 + 1 < w3.heap.size; omega)).trans c31
  replace z31 := (hb4.frozen (p := ⟨w.heap.size + 1 + 1 + 1, 1, none⟩) (by show w.heap.size + 1 + 1 + 1 < w3.heap.size; omega)).trans z31
  replace c32 := (hb4.cell (p := ⟨w.heap.size + 1 + 1 + 1, 2, none⟩) (by show w.heap.size + 1 + 1 + 1 < w3.heap.size; omega)).trans c32
  replace z32 := (hb4.frozen (p := ⟨w.heap.size + 1 + 1 + 1, 2, none⟩) (by show w.heap.size + 1 + 1 + 1 < w3.heap.size; omega)).trans z32
  replace c33 := (hb4.cell (p := ⟨w.heap.size + 1 + 1 + 1, 3, none⟩) (by show w.heap.size + 1 + 1 + 1 < w3.heap.size; omega)).trans c33
  replace z33 := (hb4.frozen (p := ⟨w.heap.size + 1 + 1 + 1, 3, none⟩) (by show w.heap.size + 1 + 1 + 1 < w3.heap.size; omega)).trans z33
  replace c34 := (hb4.cell (p := ⟨w.heap.size + 1 + 1 + 1, 4, none⟩) (by show w.heap.size + 1 + 1 + 1 < w3.heap.size; omega)).trans c34
  replace z34 := (hb4.frozen (p := ⟨w.heap.size + 1 + 1 + 1, 4, none⟩) (by show w.heap.size + 1 + 1 + 1 < w3.heap.size; omega)).trans z34
  go_region
  try go_wp2_with fail
  obtain ⟨r0, r1, r2, r3, r4, r5, r6, r7, r8, r9⟩ := set10_get (w3.alloc (.cells #[.bool x1, .bool x2, .bool x3, .bool x4, .bool x5, .bool y1, .bool y2, .bool y3, .bool y4, .bool y5] 145)) (w.heap.size + 1 + 1) (w.heap.size + 1 + 1 + 1) (by omega) (.bool a1) (.bool a2) (.bool a3) (.bool a4) (.bool a5) (.bool b1) (.bool b2) (.bool b3) (.bool b4) (.bool b5) _ _ _ _ _ _ _ _ _ _ c20 c21 c22 c23 c24 c30 c31 c32 c33 c34
  have hB := set10_below HB4.out (w.heap.size + 1 + 1) (w.heap.size + 1 + 1 + 1) (by omega) (by omega) (.bool a1) (.bool a2) (.bool a3) (.bool a4) (.bool a5) (.bool b1) (.bool b2) (.bool b3) (.bool b4) (.bool b5)
  show bodyPost _ _ _ _ _ (set10 (w3.alloc (.cells #[.bool x1, .bool x2, .bool x3, .bool x4, .bool x5, .bool y1, .bool y2, .bool y3, .bool y4, .bool y5] 145)) (w.heap.size + 1 + 1) (w.heap.size + 1 + 1 + 1) (.bool a1) (.bool a2) (.bool a3) (.bool a4) (.bool a5) (.bool b1) (.bool b2) (.bool b3) (.bool b4) (.bool b5)).drew
  exact bodyPost_ret (v := actE (⟨a1, a2, a3, a4, a5⟩, ⟨b1, b2, b3, b4, b5⟩, er)) (by simp [results, Tryz.results76, go_sem, actE, r0, r1, r2, r3, r4, r5, r6, r7, r8, r9]) rfl ⟨rfl, hB.drew⟩

set_option maxHeartbeats 3200000 in
set_option maxRecDepth 100000 in
theorem sact_ok1 (a1 a2 a3 a4 a5 b1 b2 b3 b4 b5 : Bool) {x1 x2 x3 x4 x5 y1 y2 y3 y4 y5 : Bool} (HM : Hid (suMay ⟨a1, a2, a3, a4, a5⟩ ⟨b1, b2, b3, b4, b5⟩ = true)) (HD : Hid (suDo ⟨a1, a2, a3, a4, a5⟩ ⟨b1, b2, b3, b4, b5⟩ 1 = (⟨x1, x2, x3, x4, x5⟩, ⟨y1, y2, y3, y4, y5⟩, 0))) (w : World) :
    Calls Tryz.prog 76 #[.agg #[.bool a1, .bool a2, .bool a3, .bool a4, .bool a5], .agg #[.bool b1, .bool b2, .bool b3, .bool b4, .bool b5], .int .i64 1] w fun e w' => e = .returned (actE (⟨x1, x2, x3, x4, x5⟩, ⟨y1, y2, y3, y4, y5⟩, 0)) ∧ Below w.heap.size w w' := by
  have B0 : Hid (Below w.heap.size w (((((w.alloc (.cells #[.bool a1, .bool a2, .bool a3, .bool a4, .bool a5] 51)).alloc (.cells #[.bool b1, .bool b2, .bool b3, .bool b4, .bool b5] 51)).alloc (.cells #[.bool false, .bool false, .bool false, .bool false, .bool false] 51)).alloc (.cells #[.bool false, .bool false, .bool false, .bool false, .bool false] 51)))) := Lib.hid (((((Below.refl _ _).alloc (Nat.le_refl _) _).alloc (by simp) _).alloc (by simp; omega) _).alloc (by simp; omega) _)
  go_enter Tryz.func76, Tryz.ntmps76
  go_wp2_with fail
  refine (kinds_any _).mono ?_
  rintro e w1 ⟨rfl, hf, hb⟩
  have hl0 := hf.look 1 (by decide)
  have hl1 : ∀ B, B = (((((w.alloc (.cells #[.bool a1, .bool a2, .bool a3, .bool a4, .bool a5] 51)).alloc (.cells #[.bool b1, .bool b2, .bool b3, .bool b4, .bool b5] 51)).alloc (.cells #[.bool false, .bool false, .bool false, .bool false, .bool false] 51)).alloc (.cells #[.bool false, .bool false, .bool false, .bool false, .bool false] 51))).heap.size → (Instr.lookup 142 (.map (some B)) (.int .i64 1) true).run Tryz.prog w1 = .ok (.tuple #[.func (.func 146) #[] #[], .bool true]) w1 := fun B e => by rw [e]; exact hl0
  have hl := hl1 (w.heap.size + 1 + 1 + 1 + 1) (by simp)
  clear hl0 hl1
  have HB1 : Hid (Below w.heap.size w w1) := Lib.hid (below2S B0.out hb)
  have hz1 : w.heap.size + 1 + 1 + 1 + 1 ≤ w1.heap.size := by have := hb.size; simp at this; omega
  obtain ⟨c00, c01, c02, c03, c04, c10, c11, c12, c13, c14, c20, z20, c21, z21, c22, z22, c23, z23, c24, z24, c30, z30, c31, z31, c32, z32, c33, z33, c34, z34⟩ := act_cells hb
  clear hf hb
  go_wp2_with fail
  refine (smay_eq _ _ _ _ _ _ _ _ _ _ HM _).mono ?_
  rintro e w2 ⟨rfl, rfl⟩
  obtain ⟨w2, hw2⟩ : ∃ w2, w2 = (w1.alloc (.cells #[.bool a1, .bool a2, .bool a3, .bool a4, .bool a5] 51)).alloc (.cells #[.bool b1, .bool b2, .bool b3, .bool b4, .bool b5] 51) := ⟨_, rfl⟩
  rw [← hw2]
  have hb2 : Below w1.heap.size w1 w2 := by rw [hw2]; exact ((Below.refl _ _).alloc (Nat.le_refl _) _).alloc (by simp) _
  have HB2 : Hid (Below w.heap.size w w2) := Lib.hid (below2S HB1.out hb2)
  have hz2 : w.heap.size + 1 + 1 + 1 + 1 ≤ w2.heap.size := Nat.le_trans hz1 hb2.size
  clear hw2
  replace c00 := (hb2.cell (p := ⟨w.heap.size, 0, none⟩) (by show w.heap.size < w1.heap.size; omega)).trans c00
  replace c01 := (hb2.cell (p := ⟨w.heap.size, 1, none⟩) (by show w.heap.size < w1.heap.size; omega)).trans c01
  replace c02 := (hb2.cell (p := ⟨w.heap.size, 2, none⟩) (by show w.heap.size < w1.heap.size; omega)).trans c02
  replace c03 := (hb2.cell (p := ⟨w.heap.size, 3, none⟩) (by show w.heap.size < w1.heap.size; omega)).trans c03
  replace c04 := (hb2.cell (p := ⟨w.heap.size, 4, none⟩) (by show w.heap.size < w1.heap.size; omega)).trans c04
  replace c10 := (hb2.cell (p := ⟨w.heap.size + 1, 0, none⟩) (by show w.heap.size + 1 < w1.heap.size; omega)).trans c10
  replace c11 := (hb2.cell (p := ⟨w.heap.size + 1, 1, none⟩) (by show w.heap.size + 1 < w1.heap.size; omega)).trans c11
  replace c12 := (hb2.cell (p := ⟨w.heap.size + 1, 2, none⟩) (by show w.heap.size + 1 < w1.heap.size; omega)).trans c12
  replace c13 := (hb2.cell (p := ⟨w.heap.size + 1, 3, none⟩) (by show w.heap.size + 1 < w1.heap.size; omega)).trans c13
  replace c14 := (hb2.cell (p := ⟨w.heap.size + 1, 4, none⟩) (by show w.heap.size + 1 < w1.heap.size; omega)).trans c14
  replace c20 := (hb2.cell (p := ⟨w.heap.size + 1 + 1, 0, none⟩) (by show w.heap.size + 1 + 1 < w1.heap.size; omega)).trans c20
  replace z20 := (hb2.frozen (p := ⟨w.heap.size + 1 + 1, 0, none⟩) (by show w.heap.size + 1 + 1 < w1.heap.size; omega)).trans z20
  replace c21 := (hb2.cell (p := ⟨w.heap.size + 1 + 1, 1, none⟩) (by show w.heap.size + 1 + 1 < w1.heap.size; omega)).trans c21
  replace z21 := (hb2.frozen (p := ⟨w.heap.size + 1 + 1, 1, none⟩) (by show w.heap.size + 1 + 1 < w1.heap.size; omega)).trans z21
  replace c22 := (hb2.cell (p := ⟨w.heap.size + 1 + 1, 2, none⟩) (by show w.heap.size + 1 + 1 < w1.heap.size; omega)).trans c22
  replace z22 := (hb2.frozen (p := ⟨w.heap.size + 1 + 1, 2, none⟩) (by show w.heap.size + 1 + 1 < w1.heap.size; omega)).trans z22
  replace c23 := (hb2.cell (p := ⟨w.heap.size + 1 + 1, 3, none⟩) (by show w.heap.size + 1 + 1 < w1.heap.size; omega)).trans c23
  replace z23 := (hb2.frozen (p := ⟨w.heap.size + 1 + 1, 3, none⟩) (by show w.heap.size + 1 + 1 < w1.heap.size; omega)).trans z23
  replace c24 := (hb2.cell (p := ⟨w.heap.size + 1 + 1, 4, none⟩) (by show w.heap.size + 1 + 1 < w1.heap.size; omega)).trans c24
  replace z24 := (hb2.frozen (p := ⟨w.heap.size + 1 + 1, 4, none⟩) (by show w.heap.size + 1 + 1 < w1.heap.size; omega)).trans z24
  replace c30 := (hb2.cell (p := ⟨w.heap.size + 1 + 1 + 1, 0, none⟩) (by show w.heap.size + 1 + 1 + 1 < w1.heap.size; omega)).trans c30
  replace z30 := (hb2.frozen (p := ⟨w.heap.size + 1 + 1 + 1, 0, none⟩) (by show w.heap.size + 1 + 1 + 1 < w1.heap.size; omega)).trans z30
  replace c31 := (hb2.cell (p := ⟨w.heap.size + 1 + 1 + 1, 1, none⟩) (by show w.heap.size + 1 + 1 + 1 < w1.heap.size; omega)).trans c31
  replace z31 := (hb2.frozen (p := ⟨w.heap.size + 1 + 1 + 1, 1, none⟩) (by show w.heap.size + 1 + 1 + 1 < w1.heap.size; omega)).trans z31
  replace c32 := (hb2.cell (p := ⟨w.heap.size + 1 + 1 + 1, 2, none⟩) (by show w.heap.size + 1 + 1 + 1 < w1.heap.size; omega)).trans c32
  replace z32 := (hb2.frozen (p := ⟨w.heap.size + 1 + 1 + 1, 2, none⟩) (by show w.heap.size + 1 + 1 + 1 < w1.heap.size; omega)).trans z32
  replace c33 := (hb2.cell (p := ⟨w.heap.size + 1 + 1 + 1, 3, none⟩) (by show w.heap.size + 1 + 1 + 1 < w1.heap.size; omega)).trans c33
  replace z33 := (hb2.frozen (p := ⟨w.heap.size + 1 + 1 + 1, 3, none⟩) (by show w.heap.size + 1 + 1 + 1 < w1.heap.size; omega)).trans z33
  replace c34 := (hb2.cell (p := ⟨w.heap.size + 1 + 1 + 1, 4, none⟩) (by show w.heap.size + 1 + 1 + 1 < w1.heap.size; omega)).trans c34
  replace z34 := (hb2.frozen (p := ⟨w.heap.size + 1 + 1 + 1, 4, none⟩) (by show w.heap.size + 1 + 1 + 1 < w1.heap.size; omega)).trans z34
  clear hb2 hz1
  go_wp2_with fail
  refine (subscribe_eq _ _ _ _ _ _ _ _ _ _ HD _).mono ?_
  rintro e w3 ⟨rfl, hb3⟩
  have HB3 : Hid (Below w.heap.size w w3) := Lib.hid (below2S HB2.out hb3)
  have hz3 : w.heap.size + 1 + 1 + 1 + 1 ≤ w3.heap.size := Nat.le_trans hz2 hb3.size
  replace c00 := (hb3.cell (p := ⟨w.heap.size, 0, none⟩) (by show w.heap.size < w2.heap.size; omega)).trans c00
  replace c01 := (hb3.cell (p := ⟨w.heap.size, 1, none⟩) (by show w.heap.size < w2.heap.size; omega)).trans c01
  replace c02 := (hb3.cell (p := ⟨w.heap.size, 2, none⟩) (by show w.heap.size < w2.heap.size; omega)).trans c02
  replace c03 := (hb3.cell (p := ⟨w.heap.size, 3, none⟩) (by show w.heap.size < w2.heap.size; omega)).trans c03
  replace c04 := (hb3.cell (p := ⟨w.heap.size, 4, none⟩) (by show w.heap.size < w2.heap.size; omega)).trans c04
  replace c10 := (hb3.cell (p := ⟨w.heap.size + 1, 0, none⟩) (by show w.heap.size + 1 < w2.heap.size; omega)).trans c10
  replace c11 := (hb3.cell (p := ⟨w.heap.size + 1, 1, none⟩) (by show w.heap.size + 1 < w2.heap.size; omega)).trans c11
  replace c12 := (hb3.cell (p := ⟨w.heap.size + 1, 2, none⟩) (by show w.heap.size + 1 < w2.heap.size; omega)).trans c12
  replace c13 := (hb3.cell (p := ⟨w.heap.size + 1, 3, none⟩) (by show w.heap.size + 1 < w2.heap.size; omega)).trans c13
  replace c14 := (hb3.cell (p := ⟨w.heap.size + 1, 4, none⟩) (by show w.heap.size + 1 < w2.heap.size; omega)).trans c14
  replace c20 := (hb3.cell (p := ⟨w.heap.size + 1 + 1, 0, none⟩) (by show w.heap.size + 1 + 1 < w2.heap.size; omega)).trans c20
  replace z20 := (hb3.frozen (p := ⟨w.heap.size + 1 + 1, 0, none⟩) (by show w.heap.size + 1 + 1 < w2.heap.size; omega)).trans z20
  replace c21 := (hb3.cell (p := ⟨w.heap.size + 1 + 1, 1, none⟩) (by show w.heap.size + 1 + 1 < w2.heap.size; omega)).trans c21
  replace z21 := (hb3.frozen (p := ⟨w.heap.size + 1 + 1, 1, none⟩) (by show w.heap.size + 1 + 1 < w2.heap.size; omega)).trans z21
  replace c22 := (hb3.cell (p := ⟨w.heap.size + 1 + 1, 2, none⟩) (by show w.heap.size + 1 + 1 < w2.heap.size; omega)).trans c22
  replace z22 := (hb3.frozen (p := ⟨w.heap.size + 1 + 1, 2, none⟩) (by show w.heap.size + 1 + 1 < w2.heap.size; omega)).trans z22
  replace c23 := (hb3.cell (p := ⟨w.heap.size + 1 + 1, 3, none⟩) (by show w.heap.size + 1 + 1 < w2.heap.size; omega)).trans c23
  replace z23 := (hb3.frozen (p := ⟨w.heap.size + 1 + 1, 3, none⟩) (by show w.heap.size + 1 + 1 < w2.heap.size; omega)).trans z23
  replace c24 := (hb3.cell (p := ⟨w.heap.size + 1 + 1, 4, none⟩) (by show w.heap.size + 1 + 1 < w2.heap.size; omega)).trans c24
  replace z24 := (hb3.frozen (p := ⟨w.heap.size + 1 + 1, 4, none⟩) (by show w.heap.size + 1 + 1 < w2.heap.size; omega)).trans z24
  replace c30 := (hb3.cell (p := ⟨w.heap.size + 1 + 1 + 1, 0, none⟩) (by show w.heap.size + 1 + 1 + 1 < w2.heap.size; omega)).trans c30
  replace z30 := (hb3.frozen (p := ⟨w.heap.size + 1 + 1 + 1, 0, none⟩) (by show w.heap.size + 1 + 1 + 1 < w2.heap.size; omega)).trans z30
  replace c31 := (hb3.cell (p := ⟨w.heap.size + 1 + 1 + 1, 1, none⟩) (by show w.heap.size + 1 + 1 + 1 < w2.heap.size; omega)).trans c31
  replace z31 := (hb3.frozen (p := ⟨w.heap.size + 1 + 1 + 1, 1, none⟩) (by show w.heap.size + 1 + 1 + 1 < w2.heap.size; omega)).trans z31
  replace c32 := (hb3.cell (p := ⟨w.heap.size + 1 + 1 + 1, 2, none⟩) (by show w.heap.size + 1 + 1 + 1 < w2.heap.size; omega)).trans c32
  replace z32 := (hb3.frozen (p := ⟨w.heap.size + 1 + 1 + 1, 2, none⟩) (by show w.heap.size + 1 + 1 + 1 < w2.heap.size; omega)).trans z32
  replace c33 := (hb3.cell (p := ⟨w.heap.size + 1 + 1 + 1, 3, none⟩) (by show w.heap.size + 1 + 1 + 1 < w2.heap.size; omega)).trans c33
  replace z33 := (hb3.frozen (p := ⟨w.heap.size + 1 + 1 + 1, 3, none⟩) (by show w.heap.size + 1 + 1 + 1 < w2.heap.size; omega)).trans z33
  replace c34 := (hb3.cell (p := ⟨w.heap.size + 1 + 1 + 1, 4, none⟩) (by show w.heap.size + 1 + 1 + 1 < w2.heap.size; omega)).trans c34
  replace z34 := (hb3.frozen (p := ⟨w.heap.size + 1 + 1 + 1, 4, none⟩) (by show w.heap.size + 1 + 1 + 1 < w2.heap.size; omega)).trans z34
  clear hb3 hz2
  go_wp2_with fail
  have hb4 : Below w3.heap.size w3 (w3.alloc (.cells #[.bool x1, .bool x2, .bool x3, .bool x4, .bool x5, .bool y1, .bool y2, .bool y3, .bool y4, .bool y5] 145)) := (Below.refl _ _).alloc (Nat.le_refl _) _
  have HB4 : Hid (Below w.heap.size w (w3.alloc (.cells #[.bool x1, .bool x2, .bool x3, .bool x4, .bool x5, .bool y1, .bool y2, .bool y3, .bool y4, .bool y5] 145))) := Lib.hid (below2S HB3.out hb4)
  replace c00 := (hb4.cell (p := ⟨w.heap.size, 0, none⟩) (by show w.heap.size < w3.heap.size; omega)).trans c00
  replace c01 := (hb4.cell (p := ⟨w.heap.size, 1, none⟩) (by show w.heap.size < w3.heap.size; omega)).trans c01
  replace c02 := (hb4.cell (p := ⟨w.heap.size, 2, none⟩) (by show w.heap.size < w3.heap.size; omega)).trans c02
  replace c03 := (hb4.cell (p := ⟨w.heap.size, 3, none⟩) (by show w.heap.size < w3.heap.size; omega)).trans c03
  replace c04 := (hb4.cell (p := ⟨w.heap.size, 4, none⟩) (by show w.heap.size < w3.heap.size; omega)).trans c04
  replace c10 := (hb4.cell (p := ⟨w.heap.size + 1, 0, none⟩) (by show w.heap.size + 1 < w3.heap.size; omega)).trans c10
  replace c11 := (hb4.cell (p := ⟨w.heap.size + 1, 1, none⟩) (by show w.heap.size + 1 < w3.heap.size; omega)).trans c11
  replace c12 := (hb4.cell (p := ⟨w.heap.size + 1, 2, none⟩) (by show w.heap.size + 1 < w3.heap.size; omega)).trans c12
  replace c13 := (hb4.cell (p := ⟨w.heap.size + 1, 3, none⟩) (by show w.heap.size + 1 < w3.heap.size; omega)).trans c13
  replace c14 := (hb4.cell (p := ⟨w.heap.size + 1, 4, none⟩) (by show w.heap.size + 1 < w3.heap.size; omega)).trans c14
  replace c20 := (hb4.cell (p := ⟨w.heap.size + 1 + 1, 0, none⟩) (by show w.heap.size + 1 + 1 < w3.heap.size; omega)).trans c20
  replace z20 := (hb4.frozen (p := ⟨w.heap.size + 1 + 1, 0, none⟩) (by show w.heap.size + 1 + 1 < w3.heap.size; omega)).trans z20
  replace c21 := (hb4.cell (p := ⟨w.heap.size + 1 + 1, 1, none⟩) (by show w.heap.size + 1 + 1 < w3.heap.size; omega)).trans c21
  replace z21 := (hb4.frozen (p := ⟨w.heap.size + 1 + 1, 1, none⟩) (by show w.heap.size + 1 + 1 < w3.heap.size; omega)).trans z21
  replace c22 := (hb4.cell (p := ⟨w.heap.size + 1 + 1, 2, none⟩) (by show w.heap.size + 1 + 1 < w3.heap.size; omega)).trans c22
  replace z22 := (hb4.frozen (p := ⟨w.heap.size + 1 + 1, 2, none⟩) (by show w.heap.size + 1 + 1 < w3.heap.size; omega)).trans z22
  replace c23 := (hb4.cell (p := ⟨w.heap.size + 1 + 1, 3, none⟩) (by show w.heap.size + 1 + 1 < w3.heap.size; omega)).trans c23
  replace z23 := (hb4.frozen (p := ⟨w.heap.size + 1 + 1, 3, none⟩) (by show w.heap.size + 1 + 1 < w3.heap.size; omega)).trans z23
  replace c24 := (hb4.cell (p := ⟨w.heap.size + 1 + 1, 4, none⟩) (by show w.heap.size + 1 + 1 < w3.heap.size; omega)).trans c24
  replace z24 := (hb4.frozen (p := ⟨w.heap.size + 1 + 1, 4, none⟩) (by show w.heap.size + 1 + 1 < w3.heap.size; omega)).trans z24
  replace c30 := (hb4.cell (p := ⟨w.heap.size + 1 + 1 + 1, 0, none⟩) (by show w.heap.size + 1 + 1 + 1 < w3.heap.size; omega)).trans c30
  replace z30 := (hb4.frozen (p := ⟨w.heap.size + 1 + 1 + 1, 0, none⟩) (by show w.heap.size + 1 + 1 + 1 < w3.heap.size; omega)).trans z30
  replace c31 := (hb4.cell (p := ⟨w.heap.size + 1 + 1 + 1, 1, none⟩) (by show w.heap.size + 1 + 1 + 1 < w3.heap.size; omega)).trans c31
  replace z31 := (hb4.frozen (p := ⟨w.heap.size + 1 + 1 + 1, 1, none⟩) (by show w.heap.size + 1 + 1 + 1 < w3.heap.size; omega)).trans z31
  replace c32 := (hb4.cell (p := ⟨w.heap.size + 1 + 1 + 1, 2, none⟩) (by show w.heap.size + 1 + 1 + 1 < w3.heap.size; omega)).trans c32
  replace z32 := (hb4.frozen (p := ⟨w.heap.size + 1 + 1 + 1, 2, none⟩) (by show w.heap.size + 1 + 1 + 1 < w3.heap.size; omega)).trans z32
  replace c33 := (hb4.cell (p := ⟨w.heap.size + 1 + 1 + 1, 3, none⟩) (by show w.heap.size + 1 + 1 + 1 < w3.heap.size; omega)).trans c33
  replace z33 := (hb4.frozen (p := ⟨w.heap.size + 1 + 1 + 1, 3, none⟩) (by show w.heap.size + 1 + 1 + 1 < w3.heap.size; omega)).trans z33
  replace c34 := (hb4.cell (p := ⟨w.heap.size + 1 + 1 + 1, 4, none⟩) (by show w.heap.size + 1 + 1 + 1 < w3.heap.size; omega)).trans c34
  replace z34 := (hb4.frozen (p := ⟨w.heap.size + 1 + 1 + 1, 4, none⟩) (by show w.heap.size + 1 + 1 + 1 < w3.heap.size; omega)).trans z34
  go_region
  try go_wp2_with fail
  obtain ⟨r0, r1, r2, r3, r4, r5, r6, r7, r8, r9⟩ := set10_get (w3.alloc (.cells #[.bool x1, .bool x2, .bool x3, .bool x4, .bool x5, .bool y1, .bool y2, .bool y3, .bool y4, .bool y5] 145)) (w.heap.size + 1 + 1) (w.heap.size + 1 + 1 + 1) (by omega) (.bool x1) (.bool x2) (.bool x3) (.bool x4) (.bool x5) (.bool y1) (.bool y2) (.bool y3) (.bool y4) (.bool y5) _ _ _ _ _ _ _ _ _ _ c20 c21 c22 c23 c24 c30 c31 c32 c33 c34
  have hB := set10_below HB4.out (w.heap.size + 1 + 1) (w.heap.size + 1 + 1 + 1) (by omega) (by omega) (.bool x1) (.bool x2) (.bool x3) (.bool x4) (.bool x5) (.bool y1) (.bool y2) (.bool y3) (.bool y4) (.bool y5)
  show bodyPost _ _ _ _ _ (set10 (w3.alloc (.cells #[.bool x1, .bool x2, .bool x3, .bool x4, .bool x5, .bool y1, .bool y2, .bool y3, .bool y4, .bool y5] 145)) (w.heap.size + 1 + 1) (w.heap.size + 1 + 1 + 1) (.bool x1) (.bool x2) (.bool x3) (.bool x4) (.bool x5) (.bool y1) (.bool y2) (.bool y3) (.bool y4) (.bool y5)).drew
  exact bodyPost_ret (v := actE (⟨x1, x2, x3, x4, x5⟩, ⟨y1, y2, y3, y4, y5⟩, 0)) (by simp [results, Tryz.results76, go_sem, actE, r0, r1, r2, r3, r4, r5, r6, r7, r8, r9]) rfl ⟨rfl, hB.drew⟩

end Go.Proofs.YtdilcckoapaimaaGreat

end
