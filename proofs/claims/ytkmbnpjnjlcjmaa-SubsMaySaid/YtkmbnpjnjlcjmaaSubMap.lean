/-
  A MAP FROM NUMBERS TO FUNCTIONS THAT THE CALL HAS MADE; THE CONTRACT OF subs.kinds.
-/
import Derived.Test.YtkmbnpjnjlcjmaaRows
import Derived.Test.YtkmbnpjnjlcjmaaKit
import Derived.Test.YtkmbnpjnjlcjmaaSubPure
import Derived.Maps.OwnSet
namespace Go.Proofs.Ytkmbnpjnjlcjmaa
open Go.RowKit Go.ChangeMaps Go.MapKept

def fnVal : Option (Int × Nat) → Value
  | some x => .func (.func x.2) #[] #[]
  | none => .nilFunc

def fnData : Option (Int × Nat) → DataW Unit
  | some x => .lit (.int .i64 x.2)
  | none => .lit (.bool false)

def fnElem : Value → Option (DataW Unit × List MemPlace)
  | .func (.func f) ⟨[]⟩ ⟨[]⟩ => some (.lit (.int .i64 f), [])
  | .nilFunc => some (.lit (.bool false), [])
  | _ => none

theorem fnElem_inv {v : Value} {z : DataW Unit × List MemPlace} (h : fnElem v = some z) (o : Option (Int × Nat)) (hz : z.1 = fnData o) : v = fnVal o := by
  unfold fnElem at h
  split at h
  · rename_i f
    obtain rfl := (Option.some.inj h).symm
    cases o with
    | none => simp [fnData] at hz
    | some x =>
      obtain ⟨k, g⟩ := x
      simp [fnData] at hz
      obtain rfl := Int.ofNat.inj hz
      rfl
  · obtain rfl := (Option.some.inj h).symm
    cases o with
    | none => rfl
    | some x => simp [fnData] at hz
  · cases h

/-- Block B is a map that holds these functions, the latest one first. -/
def FnMap (w : World) (B : Nat) (l : List (Int × Nat)) : Prop :=
  ∃ D : DataW Unit, w.ownsMap Try.prog 3 fnElem B l.length D ∧
    ∀ k : Int, Maps.has D (.int .i64 k) = l.any (fun x => x.1 == k) ∧ D.atKey (.int .i64 k) (.lit (.bool false)) = fnData (l.find? fun x => x.1 == k)

theorem fnMap_made (w : World) : FnMap (w.alloc (.map #[] 0)) w.heap.size [] :=
  ⟨.map [], World.ownsMap_made w _ _ _, fun _ => ⟨rfl, rfl⟩⟩

theorem FnMap.lt {w : World} {B : Nat} {l : List (Int × Nat)} (h : FnMap w B l) : B < w.heap.size := by
  obtain ⟨_, h, _⟩ := h
  exact h.lt

theorem FnMap.later {w w' : World} {B : Nat} {l : List (Int × Nat)} (h : FnMap w B l) (hb : Below w.heap.size w w') : FnMap w' B l := by
  have hlt := h.lt
  obtain ⟨D, ⟨es, clock, h2, h3, h4, h5⟩, h6⟩ := h
  exact ⟨D, ⟨es, clock, (hb.block B hlt).trans h2, h3, h4, h5⟩, h6⟩

theorem zeroFn (w : World) : (zeroValue 97).run Try.prog w = .ok .nilFunc w := by kernel_rfl

theorem FnMap.look {w : World} {B : Nat} {l : List (Int × Nat)} (h : FnMap w B l) (k : Int) (hk : (Lit.int .i64 k).wf = true) :
    (Instr.lookup 99 (.map (some B)) (.int .i64 k) true).run Try.prog w = .ok (.tuple #[fnVal (l.find? fun x => x.1 == k), .bool (l.any fun x => x.1 == k)]) w := by
  obtain ⟨D, h2, h3⟩ := h
  obtain ⟨v, ps, hrun, hv⟩ := h2.look_ok (Maps.int_keyed Try.underlying3) Try.underlying99 (zeroFn w) (show fnElem .nilFunc = some (.lit (.bool false), []) from rfl) (Maps.keyOf_int_mk Try.underlying3 hk)
  rw [(h3 k).2] at hv
  rw [fnElem_inv hv _ rfl, (h3 k).1] at hrun
  exact hrun

/-- 'm[k] = f'. -/
theorem wpList_fn {w : World} {ops : Array Oper} {rest : List Oper} {o : Oper} {a : Act} {Q : Exit → Act → World → Prop}
    (hg : o.guard = none) (m x v : Operand) (hop : o.op = Op.insert 99 m x v) (B : Nat) (l : List (Int × Nat)) (hm : a.eval m = .map (some B)) (hown : FnMap w B l) (hl : l.length ≤ 100)
    (k : Int) (hk : (Lit.int .i64 k).wf = true) (f : Nat) (hx : a.eval x = .int .i64 k) (hv : a.eval v = .func (.func f) #[] #[])
    (hK : ∀ w', FnMap w' B ((k, f) :: l) → w.grownBy w' (some B) → wpList Try.prog ops Q rest (a.put o.dst undef) w') :
    wpList Try.prog ops Q (o :: rest) a w := by
  obtain ⟨D, h2, h3⟩ := hown
  refine wpList_plain hg fun K' hK' => ?_
  obtain ⟨w', hrun, h6, h7⟩ := h2.update (Maps.int_keyed Try.underlying3) Try.underlying99 (by unfold maxLen; omega) (Maps.keyOf_int_mk Try.underlying3 hk) (show fnElem (.func (.func f) #[] #[]) = some (.lit (.int .i64 f), []) from rfl)
  unfold Oper.wp
  simp [execOp, hop, hm, hx, hv, hrun, Result.andThen]
  refine hK' _ _ ?_
  have hT := h2.tidy (Maps.int_keyed Try.underlying3)
  refine hK w' ⟨_, h6, fun y => ?_⟩ h7
  by_cases e : y = k
  · subst e
    rw [Maps.has_put_same hT.isMap (show WideAt.IsKeyLit (.int .i64 y) from True.intro), Maps.atKey_put_same hT.isMap (show WideAt.IsKeyLit (.int .i64 y) from True.intro)]
    simp [fnData]
  · have hne : (Lit.int .i64 y) ≠ .int .i64 k := fun h => e (by injection h)
    rw [Maps.has_put_other hne, Maps.atKey_put_other hne, (h3 y).1, (h3 y).2]
    have e' : (k == y) = false := by simpa using fun h => e h.symm
    simp [e']

def kindFns : List (Int × Nat) := [(6, 97), (5, 96), (4, 95), (3, 94), (2, 93), (1, 92)]

set_option maxHeartbeats 800000 in
set_option maxRecDepth 100000 in
theorem kinds_any (w : World) : Calls Try.prog 70 #[] w fun e w' => e = .returned (.map (some w.heap.size)) ∧ FnMap w' w.heap.size kindFns ∧ Below w.heap.size w w' := by
  have hmm := fun w => run_makeMap (P := Try.prog) 99 w
  have H0 := Lib.hid (fnMap_made w)
  have B0 : Hid (Below w.heap.size w (w.alloc (.map #[] 0))) := Lib.hid ((Below.refl _ _).alloc (Nat.le_refl _) _)
  go_enter Try.func70, Try.ntmps70
  go_wp2_with (first
    | (refine wpList_fn rfl _ _ _ rfl w.heap.size [] rfl H0.out (by decide) 1 (by decide) 92 rfl rfl ?_; intro w1 h g; (have H1 := Lib.hid h); (have B1 : Hid (Below w.heap.size w w1) := Lib.hid (B0.out.grown g B0.out.size (by intro k hk; injection hk with hk; omega))); clear h g H0)
    | (refine wpList_fn rfl _ _ _ rfl w.heap.size [(1, 92)] rfl H1.out (by decide) 2 (by decide) 93 rfl rfl ?_; intro w2 h g; (have H2 := Lib.hid h); (have B2 : Hid (Below w.heap.size w w2) := Lib.hid (B1.out.grown g B1.out.size (by intro k hk; injection hk with hk; omega))); clear h g H1)
    | (refine wpList_fn rfl _ _ _ rfl w.heap.size [(2, 93), (1, 92)] rfl H2.out (by decide) 3 (by decide) 94 rfl rfl ?_; intro w3 h g; (have H3 := Lib.hid h); (have B3 : Hid (Below w.heap.size w w3) := Lib.hid (B2.out.grown g B2.out.size (by intro k hk; injection hk with hk; omega))); clear h g H2)
    | (refine wpList_fn rfl _ _ _ rfl w.heap.size [(3, 94), (2, 93), (1, 92)] rfl H3.out (by decide) 4 (by decide) 95 rfl rfl ?_; intro w4 h g; (have H4 := Lib.hid h); (have B4 : Hid (Below w.heap.size w w4) := Lib.hid (B3.out.grown g B3.out.size (by intro k hk; injection hk with hk; omega))); clear h g H3)
    | (refine wpList_fn rfl _ _ _ rfl w.heap.size [(4, 95), (3, 94), (2, 93), (1, 92)] rfl H4.out (by decide) 5 (by decide) 96 rfl rfl ?_; intro w5 h g; (have H5 := Lib.hid h); (have B5 : Hid (Below w.heap.size w w5) := Lib.hid (B4.out.grown g B4.out.size (by intro k hk; injection hk with hk; omega))); clear h g H4)
    | (refine wpList_fn rfl _ _ _ rfl w.heap.size [(5, 96), (4, 95), (3, 94), (2, 93), (1, 92)] rfl H5.out (by decide) 6 (by decide) 97 rfl rfl ?_; intro w6 h g; (have H6 := Lib.hid h); (have B6 : Hid (Below w.heap.size w w6) := Lib.hid (B5.out.grown g B5.out.size (by intro k hk; injection hk with hk; omega))); clear h g H5))
  go_ret
  exact ⟨rfl, H6.out, B6.out⟩

end Go.Proofs.Ytkmbnpjnjlcjmaa
