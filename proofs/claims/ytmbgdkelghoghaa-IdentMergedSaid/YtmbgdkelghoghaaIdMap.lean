/-
  A SET OF TEXTS, AS A map[string]bool THAT THE CALL HAS MADE: stored into, looked up, counted.
-/
import Derived.Test.YtmbgdkelghoghaaIdRmerge
import Derived.Maps.OwnSet
import Derived.WalkKit
namespace Go.Proofs.Ytmbgdkelghoghaa
open Go.RowKit Go.ChangeMaps Go.MapKept

theorem ins_old {x : List UInt8} {l : List (List UInt8)} (h : Rising l) (hx : x ∈ l) : ins x l = l := by
  refine rising_unique (ins_rising x l h) h (fun z => ?_)
  rw [ins_mem]
  constructor
  · rintro (rfl | h)
    · exact hx
    · exact h
  · exact .inr

theorem ins_new (x : List UInt8) : ∀ l : List (List UInt8), x ∉ l → (ins x l).length = l.length + 1
  | [], _ => rfl
  | y :: l, h => by
    simp only [List.mem_cons, not_or] at h
    unfold ins
    by_cases hl : idLess y x = true
    · rw [if_pos hl]
      simp only [List.length_cons]
      rw [ins_new x l h.2]
    · rw [if_neg hl, if_neg (fun e => h.1 e.symm)]
      rfl

theorem mrg_add (S : List (List UInt8)) (x : List UInt8) : (mrg (S ++ [x])).length = if x ∈ S then (mrg S).length else (mrg S).length + 1 := by
  rw [mrg_snoc]
  by_cases h : x ∈ S
  · rw [if_pos h, ins_old (mrg_rising S) ((mrg_mem S x).2 h)]
  · rw [if_neg h, ins_new x _ (fun h' => h ((mrg_mem S x).1 h'))]

/-- Block B is a map that holds the texts S, each with true. -/
def SetAt (w : World) (B : Nat) (S : List (List UInt8)) : Prop :=
  ∃ n, ∃ D : DataW Unit, n ≤ S.length ∧ w.ownsMap Try.prog 9 (plainElem Try.prog 4) B n D ∧ Maps.size D = (mrg S).length ∧
    (∀ x : List UInt8, Maps.has D (.string x) = decide (x ∈ S)) ∧ ∀ x : List UInt8, D.atKey (.string x) (.lit (.bool false)) = .lit (.bool (decide (x ∈ S)))

theorem setAt_made (w : World) : SetAt (w.alloc (.map #[] 0)) w.heap.size [] :=
  ⟨0, .map [], Nat.le_refl _, World.ownsMap_made w _ _ _, rfl, fun _ => rfl, fun _ => rfl⟩

theorem SetAt.lt {w : World} {B : Nat} {S : List (List UInt8)} (h : SetAt w B S) : B < w.heap.size := by
  obtain ⟨_, _, _, h, _⟩ := h
  exact h.lt

theorem SetAt.later {w w' : World} {B : Nat} {S : List (List UInt8)} (h : SetAt w B S) (hb : Below w.heap.size w w') : SetAt w' B S := by
  have hlt := h.lt
  obtain ⟨n, D, h1, ⟨es, clock, h2, h3, h4, h5⟩, h6⟩ := h
  exact ⟨n, D, h1, ⟨es, clock, (hb.block B hlt).trans h2, h3, h4, h5⟩, h6⟩

theorem zeroBool (w : World) : (zeroValue 4).run Try.prog w = .ok (.bool false) w := by kernel_rfl

theorem key_of (x : List UInt8) (h : x.length ≤ 100) : keyOf Try.prog 9 (.string ⟨x.toArray⟩) = some (.string x) :=
  WideMaps.keyOf_string_mk Try.underlying9 (by rw [size_bytes]; unfold maxLen; omega)

theorem plainElem_bool_inv {P : Program} {e : TypeId} (he : P.underlying e = some .bool) {v : Value} {z : DataW Unit × List MemPlace} (h : plainElem P e v = some z) : ∃ x, v = .bool x ∧ z = (.lit (.bool x), []) := by
  unfold plainElem at h
  rw [he] at h
  cases v <;> simp at h
  exact ⟨_, rfl, h.symm⟩

theorem SetAt.look {w : World} {B : Nat} {S : List (List UInt8)} (h : SetAt w B S) (x : List UInt8) (hx : x.length ≤ 100) {r : Bool} (hr : decide (x ∈ S) = r) :
    (Instr.lookup 37 (.map (some B)) (.string ⟨x.toArray⟩) false).run Try.prog w = .ok (.bool r) w := by
  obtain ⟨n, D, h1, h2, h3, h4, h5⟩ := h
  obtain ⟨v, ps, hrun, hv⟩ := h2.lookup (Maps.string_keyed Try.underlying9) Try.underlying37 (zeroBool w) (plainElem_bool Try.underlying4 false) (key_of x hx)
  rw [h5 x, hr] at hv
  obtain ⟨c, rfl, hc⟩ := plainElem_bool_inv Try.underlying4 hv
  simp only [Prod.mk.injEq, DataW.lit.injEq, Lit.bool.injEq] at hc
  rw [hc.1]
  exact hrun

theorem SetAt.len {w : World} {B : Nat} {S : List (List UInt8)} (h : SetAt w B S) (ty : TypeId) :
    (Builtin.len_ #[37] ty #[.map (some B)]).run Try.prog w = .ok (.int .i64 (mrg S).length) w := by
  obtain ⟨n, D, h1, h2, h3, h4, h5⟩ := h
  rw [← h3]
  exact h2.len Try.underlying37 ty

theorem wpList_set_add {w : World} {ops : Array Oper} {rest : List Oper} {o : Oper} {a : Act} {Q : Exit → Act → World → Prop}
    (hg : o.guard = none) (m x v : Operand) (hop : o.op = Op.mapUpdate 37 m x v) (B : Nat) (S : List (List UInt8)) (hm : a.eval m = .map (some B)) (hown : SetAt w B S) (hS : S.length ≤ 1000)
    (u : List UInt8) (hu : u.length ≤ 100) (hx : a.eval x = .string ⟨u.toArray⟩) (hv : a.eval v = .bool true)
    (hK : ∀ w', SetAt w' B (S ++ [u]) → w.grownBy w' (some B) → wpList Try.prog ops Q rest (a.put o.dst undef) w') :
    wpList Try.prog ops Q (o :: rest) a w := by
  obtain ⟨n, D, h1, h2, h3, h4, h5⟩ := hown
  refine wpList_mapUpdate_own w hg m x v _ hop _ _ (Maps.string_keyed Try.underlying9) Try.underlying37 _ B n D hm h2 (by unfold maxLen; omega) _ _ (.string u) hx hv (key_of u hu) (.lit (.bool true)) [] (plainElem_bool Try.underlying4 true) ?_
  intro w' h6 h7
  have hT := h2.tidy (Maps.string_keyed Try.underlying9)
  have hne : ∀ y : List UInt8, ¬ y = u → (Lit.string y) ≠ .string u := fun y h e => h (by injection e)
  refine hK w' ⟨n + 1, _, by simp; omega, h6, ?_, ?_, ?_⟩ h7
  · rw [Maps.size_put hT, h4 u, h3, mrg_add]
    by_cases h : u ∈ S <;> simp [h]
  · intro y
    by_cases e : y = u
    · subst e
      rw [Maps.has_put_same hT.isMap (show WideAt.IsKeyLit (.string y) from True.intro)]
      simp
    · rw [Maps.has_put_other (hne y e), h4 y]
      simp [e]
  · intro y
    by_cases e : y = u
    · subst e
      rw [Maps.atKey_put_same hT.isMap (show WideAt.IsKeyLit (.string y) from True.intro)]
      simp
    · rw [Maps.atKey_put_other (hne y e), h5 y]
      simp [e]

end Go.Proofs.Ytmbgdkelghoghaa
