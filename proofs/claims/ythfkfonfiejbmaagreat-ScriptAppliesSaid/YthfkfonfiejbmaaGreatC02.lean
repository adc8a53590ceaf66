/-
  TEXTS OF THE PROOF, one behind the other: IdRef, SubMap.
-/
import Derived.Test.YthfkfonfiejbmaaGreatC01
import Derived.Laws.IdiomStrings
import Derived.Test.YthfkfonfiejbmaaGreatRows
import Derived.Maps.OwnSet

section

/-
  THE CONTRACTS OF THE DOCUMENT'S ANSWERS Is, Fold, Put, Take OF LAYER 3.
-/
namespace Go.Proofs.YthfkfonfiejbmaaGreat
open Go.RowKit

set_option maxHeartbeats 800000 in
set_option maxRecDepth 100000 in
theorem ris_any (l : List UInt8) (hl : l.length ≤ 4294967296) (w : World) :
    Calls Tryz.prog 33 #[.string ⟨l.toArray⟩] w fun e w' => e = .returned (.bool (idIs l)) ∧ w = w' := by
  by_cases h0 : l.length < 1
  · obtain rfl : l = [] := List.length_eq_zero_iff.1 (by omega)
    clear h0
    go_enter Tryz.func33, Tryz.ntmps33
    go_wp2_with fail
    go_ret
    exact ⟨rfl, rfl⟩
  · have hpos : 1 ≤ l.length := by omega
    clear h0
    by_cases h16 : 16 < l.length
    · have HR := Lib.hid (idIs_long h16)
      go_enter Tryz.func33, Tryz.ntmps33
      go_wp2_with fail
      go_ret
      exact ⟨by rw [HR.out]; rfl, rfl⟩
    · have hq : 0 < (⟨l.toArray⟩ : ByteArray).size := by rw [size_bytes]; omega
      obtain ⟨x, hx⟩ : ∃ x : UInt8, (⟨l.toArray⟩ : ByteArray)[0]'hq = x := ⟨_, rfl⟩
      have hx256 := x.toNat_lt
      have HX : Hid (l[0]? = some x) := by show _ = _; rw [← hx]; exact bytes_at l 0 hq
      by_cases hlow : x.toNat < 97
      · have HR : Hid (idIs l = false) := idIs_first HX.out (by unfold lcOk; simp; omega)
        go_enter Tryz.func33, Tryz.ntmps33
        go_wp2_with fail
        go_ret
        exact ⟨by rw [HR.out]; rfl, rfl⟩
      · by_cases hhi : 122 < x.toNat
        · have HR : Hid (idIs l = false) := idIs_first HX.out (by unfold lcOk; simp; omega)
          go_enter Tryz.func33, Tryz.ntmps33
          go_wp2_with fail
          go_ret
          exact ⟨by rw [HR.out]; rfl, rfl⟩
        · have HF : Hid (lcOk (l.getD 0 0) = true) := by show _ = _; rw [List.getD, HX.out]; unfold lcOk; simp; omega
          go_enter Tryz.func33, Tryz.ntmps33
          go_wp2_with fail
          clear hx
          go_loop [3] (fun i => ∃ k : Nat, k ≤ l.length ∧ i = .int .i64 k ∧ Hid ((l.take k).all inOk = true)) (fun i => l.length - (intOf i).toNat)
          case atStart => exact ⟨0, by omega, rfl, by show _ = _; simp⟩
          case round =>
            obtain ⟨k, hk, rfl, HA⟩ := hrel
            by_cases hlt : k < l.length
            · have hlt' : k < (⟨l.toArray⟩ : ByteArray).size := by rw [size_bytes]; exact hlt
              obtain ⟨b, hb⟩ : ∃ b : UInt8, (⟨l.toArray⟩ : ByteArray)[k]'hlt' = b := ⟨_, rfl⟩
              have HB : Hid (l[k]? = some b) := by show _ = _; rw [← hb]; exact bytes_at l k hlt'
              have hb256 := b.toNat_lt
              have hcase : (97 ≤ b.toNat ∧ b.toNat ≤ 122) ∨ (48 ≤ b.toNat ∧ b.toNat ≤ 57) ∨ b.toNat = 45 ∨ (b.toNat < 48 ∧ ¬ b.toNat = 45) ∨ (57 < b.toNat ∧ b.toNat < 97) ∨ 122 < b.toNat := by omega
              have HC := Lib.hid hcase
              clear hcase hpos h16 hlow hhi
              rcases HC.out with ⟨h1, h2⟩ | ⟨h1, h2⟩ | h1 | ⟨h1, h2⟩ | ⟨h1, h2⟩ | h1
              · have HN : Hid ((l.take (k + 1)).all inOk = true) := by show _ = _; rw [all_succ HB.out, HA.out]; simp [inOk, lcOk, dgOk]; omega
                go_wp2_with fail
                go_round
                case rel => exact ⟨k + 1, by omega, by go_num, HN⟩
                case measure => simp [intOf]; omega
              · have HN : Hid ((l.take (k + 1)).all inOk = true) := by show _ = _; rw [all_succ HB.out, HA.out]; simp [inOk, lcOk, dgOk]; omega
                go_wp2_with fail
                go_round
                case rel => exact ⟨k + 1, by omega, by go_num, HN⟩
                case measure => simp [intOf]; omega
              · have HN : Hid ((l.take (k + 1)).all inOk = true) := by show _ = _; rw [all_succ HB.out, HA.out]; simp [inOk, lcOk, dgOk]; omega
                have t5 : ((b.toNat : Int) != 45) = false := by rw [h1]; rfl
                go_wp2_with fail
                go_round
                case rel => exact ⟨k + 1, by omega, by go_num, HN⟩
                case measure => simp [intOf]; omega
              all_goals
                have HR : Hid (idIs l = false) := idIs_bad HB.out (by simp [inOk, lcOk, dgOk]; omega)
                have t5 : ((b.toNat : Int) != 45) = true := by simp; omega
                go_wp2_with fail
                go_ret
                exact ⟨by rw [HR.out]; rfl, rfl⟩
            · obtain rfl : k = l.length := by omega
              have HR : Hid (idIs l = true) := idIs_mk hpos (by omega) HF.out (by have := HA.out; rwa [List.take_length] at this)
              go_wp2_with fail
              go_ret
              exact ⟨by rw [HR.out]; rfl, rfl⟩

/-- l, folded up to k. -/
def lowAt (l : List UInt8) (k : Nat) : List UInt8 := idLow (l.take k) ++ l.drop k

/-- A row of bytes in memory that may be written. -/
def RowB (w : World) (B : Nat) (u : List UInt8) : Prop := ∀ j, j < u.length → w.cell? ⟨B, j, none⟩ = some (.int .u8 (u.getD j 0).toNat) ∧ w.frozen? ⟨B, j, none⟩ = false

theorem RowB.drew {w : World} {B : Nat} {u : List UInt8} (h : RowB w B u) : RowB w.drew B u := h

theorem RowB.set {w : World} {B : Nat} {u : List UInt8} (h : RowB w B u) (j : Nat) (b : UInt8) (hj : j < u.length) : RowB (w.setCell ⟨B, j, none⟩ (.int .u8 b.toNat)) B (u.set j b) := by
  intro i hi
  have hi' : i < u.length := by simpa using hi
  refine ⟨?_, (World.frozen?_setCell w _ _ _).trans (h i hi').2⟩
  by_cases hij : i = j
  · subst hij
    rw [World.cell?_setCell_same _ _ _ (h i hj).1]
    simp [List.getD, hj]
  · rw [World.cell?_setCell_other _ _ _ _ (by simp), (h i hi').1]
    simp [List.getD, show ¬ j = i by omega]

end Go.Proofs.YthfkfonfiejbmaaGreat

end

section

/-
  A MAP FROM NUMBERS TO FUNCTIONS THAT THE CALL HAS MADE; THE CONTRACT OF subs.kinds.
-/
namespace Go.Proofs.YthfkfonfiejbmaaGreat
open Go.RowKit Go.ChangeMaps Go.MapKept

def fnVal : Option (Int × Nat) → Value
  | some x => .func (.func x.2) #[] #[]
  | none => .nilFunc

def fnData : Option (Int × Nat) → DataW Unit
  | some x => .lit (.int .i64 x.2)
  | none => .lit (.bool false)

def fnElem : Value → Option (DataW Unit × List MemPlace)
  | .func (.func f) ⟨[]⟩ ⟨[]⟩ => some (.lit (.int .i64 f), [])
  | .nilFunc => some (.lit (.bool false), [])
  | _ => none

theorem fnElem_inv {v : Value} {z : DataW Unit × List MemPlace} (h : fnElem v = some z) (o : Option (Int × Nat)) (hz : z.1 = fnData o) : v = fnVal o := by
  unfold fnElem at h
  split at h
  · rename_i f
    obtain rfl := (Option.some.inj h).symm
    cases o with
    | none => simp [fnData] at hz
    | some x =>
      obtain ⟨k, g⟩ := x
      simp [fnData] at hz
      obtain rfl := Int.ofNat.inj hz
      rfl
  · obtain rfl := (Option.some.inj h).symm
    cases o with
    | none => rfl
    | some x => simp [fnData] at hz
  · cases h

/-- Block B is a map that holds these functions, the latest one first. -/
def FnMap (w : World) (B : Nat) (l : List (Int × Nat)) : Prop :=
  ∃ D : DataW Unit, w.ownsMap Tryz.prog 3 fnElem B l.length D ∧
    ∀ k : Int, Maps.has D (.int .i64 k) = l.any (fun x => x.1 == k) ∧ D.atKey (.int .i64 k) (.lit (.bool false)) = fnData (l.find? fun x => x.1 == k)

theorem fnMap_made (w : World) : FnMap (w.alloc (.map #[] 0)) w.heap.size [] :=
  ⟨.map [], World.ownsMap_made w _ _ _, fun _ => ⟨rfl, rfl⟩⟩

theorem FnMap.lt {w : World} {B : Nat} {l : List (Int × Nat)} (h : FnMap w B l) : B < w.heap.size := by
  obtain ⟨_, h, _⟩ := h
  exact h.lt

theorem FnMap.later {w w' : World} {B : Nat} {l : List (Int × Nat)} (h : FnMap w B l) (hb : Below w.heap.size w w') : FnMap w' B l := by
  have hlt := h.lt
  obtain ⟨D, ⟨es, clock, h2, h3, h4, h5⟩, h6⟩ := h
  exact ⟨D, ⟨es, clock, (hb.block B hlt).trans h2, h3, h4, h5⟩, h6⟩

theorem zeroFn (w : World) : (zeroValue 140).run Tryz.prog w = .ok .nilFunc w := by kernel_rfl

theorem FnMap.look {w : World} {B : Nat} {l : List (Int × Nat)} (h : FnMap w B l) (k : Int) (hk : (Lit.int .i64 k).wf = true) :
    (Instr.lookup 142 (.map (some B)) (.int .i64 k) true).run Tryz.prog w = .ok (.tuple #[fnVal (l.find? fun x => x.1 == k), .bool (l.any fun x => x.1 == k)]) w := by
  obtain ⟨D, h2, h3⟩ := h
  obtain ⟨v, ps, hrun, hv⟩ := h2.look_ok (Maps.int_keyed Tryz.underlying3) Tryz.underlying142 (zeroFn w) (show fnElem .nilFunc = some (.lit (.bool false), []) from rfl) (Maps.keyOf_int_mk Tryz.underlying3 hk)
  rw [(h3 k).2] at hv
  rw [fnElem_inv hv _ rfl, (h3 k).1] at hrun
  exact hrun

/-- 'm[k] = f'. -/
theorem wpList_fn {w : World} {ops : Array Oper} {rest : List Oper} {o : Oper} {a : Act} {Q : Exit → Act → World → Prop}
    (hg : o.guard = none) (m x v : Operand) (hop : o.op = Op.insert 142 m x v) (B : Nat) (l : List (Int × Nat)) (hm : a.eval m = .map (some B)) (hown : FnMap w B l) (hl : l.length ≤ 100)
    (k : Int) (hk : (Lit.int .i64 k).wf = true) (f : Nat) (hx : a.eval x = .int .i64 k) (hv : a.eval v = .func (.func f) #[] #[])
    (hK : ∀ w', FnMap w' B ((k, f) :: l) → w.grownBy w' (some B) → wpList Tryz.prog ops Q rest (a.put o.dst undef) w') :
    wpList Tryz.prog ops Q (o :: rest) a w := by
  obtain ⟨D, h2, h3⟩ := hown
  refine wpList_plain hg fun K' hK' => ?_
  obtain ⟨w', hrun, h6, h7⟩ := h2.update (Maps.int_keyed Tryz.underlying3) Tryz.underlying142 (by unfold maxLen; omega) (Maps.keyOf_int_mk Tryz.underlying3 hk) (show fnElem (.func (.func f) #[] #[]) = some (.lit (.int .i64 f), []) from rfl)
  unfold Oper.wp
  simp [execOp, hop, hm, hx, hv, hrun, Result.andThen]
  refine hK' _ _ ?_
  have hT := h2.tidy (Maps.int_keyed Tryz.underlying3)
  refine hK w' ⟨_, h6, fun y => ?_⟩ h7
  by_cases e : y = k
  · subst e
    rw [Maps.has_put_same hT.isMap (show WideAt.IsKeyLit (.int .i64 y) from True.intro), Maps.atKey_put_same hT.isMap (show WideAt.IsKeyLit (.int .i64 y) from True.intro)]
    simp [fnData]
  · have hne : (Lit.int .i64 y) ≠ .int .i64 k := fun h => e (by injection h)
    rw [Maps.has_put_other hne, Maps.atKey_put_other hne, (h3 y).1, (h3 y).2]
    have e' : (k == y) = false := by simpa using fun h => e h.symm
    simp [e']

def kindFns : List (Int × Nat) := [(6, 117), (5, 116), (4, 115), (3, 114), (2, 113), (1, 112)]

set_option maxHeartbeats 800000 in
set_option maxRecDepth 100000 in
theorem kinds_any (w : World) : Calls Tryz.prog 95 #[] w fun e w' => e = .returned (.map (some w.heap.size)) ∧ FnMap w' w.heap.size kindFns ∧ Below w.heap.size w w' := by
  have hmm := fun w => run_makeMap (P := Tryz.prog) 142 w
  have H0 := Lib.hid (fnMap_made w)
  have B0 : Hid (Below w.heap.size w (w.alloc (.map #[] 0))) := Lib.hid ((Below.refl _ _).alloc (Nat.le_refl _) _)
  go_enter Tryz.func95, Tryz.ntmps95
  go_wp2_with (first
    | (refine wpList_fn rfl _ _ _ rfl w.heap.size [] rfl H0.out (by decide) 1 (by decide) 112 rfl rfl ?_; intro w1 h g; (have H1 := Lib.hid h); (have B1 : Hid (Below w.heap.size w w1) := Lib.hid (B0.out.grown g B0.out.size (by intro k hk; injection hk with hk; omega))); clear h g H0)
    | (refine wpList_fn rfl _ _ _ rfl w.heap.size [(1, 112)] rfl H1.out (by decide) 2 (by decide) 113 rfl rfl ?_; intro w2 h g; (have H2 := Lib.hid h); (have B2 : Hid (Below w.heap.size w w2) := Lib.hid (B1.out.grown g B1.out.size (by intro k hk; injection hk with hk; omega))); clear h g H1)
    | (refine wpList_fn rfl _ _ _ rfl w.heap.size [(2, 113), (1, 112)] rfl H2.out (by decide) 3 (by decide) 114 rfl rfl ?_; intro w3 h g; (have H3 := Lib.hid h); (have B3 : Hid (Below w.heap.size w w3) := Lib.hid (B2.out.grown g B2.out.size (by intro k hk; injection hk with hk; omega))); clear h g H2)
    | (refine wpList_fn rfl _ _ _ rfl w.heap.size [(3, 114), (2, 113), (1, 112)] rfl H3.out (by decide) 4 (by decide) 115 rfl rfl ?_; intro w4 h g; (have H4 := Lib.hid h); (have B4 : Hid (Below w.heap.size w w4) := Lib.hid (B3.out.grown g B3.out.size (by intro k hk; injection hk with hk; omega))); clear h g H3)
    | (refine wpList_fn rfl _ _ _ rfl w.heap.size [(4, 115), (3, 114), (2, 113), (1, 112)] rfl H4.out (by decide) 5 (by decide) 116 rfl rfl ?_; intro w5 h g; (have H5 := Lib.hid h); (have B5 : Hid (Below w.heap.size w w5) := Lib.hid (B4.out.grown g B4.out.size (by intro k hk; injection hk with hk; omega))); clear h g H4)
    | (refine wpList_fn rfl _ _ _ rfl w.heap.size [(5, 116), (4, 115), (3, 114), (2, 113), (1, 112)] rfl H5.out (by decide) 6 (by decide) 117 rfl rfl ?_; intro w6 h g; (have H6 := Lib.hid h); (have B6 : Hid (Below w.heap.size w w6) := Lib.hid (B5.out.grown g B5.out.size (by intro k hk; injection hk with hk; omega))); clear h g H5))
  go_ret
  exact ⟨rfl, H6.out, B6.out⟩

end Go.Proofs.YthfkfonfiejbmaaGreat

end
