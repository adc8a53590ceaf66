/-
  A SET OF NUMBERS, AS A map[int]bool THAT THE CALL HAS MADE: stored into, counted.
-/
import Derived.Test.YtkmbnpjnjlcjmaaHeaMet
namespace Go.Proofs.Ytkmbnpjnjlcjmaa
open Go.RowKit Go.ChangeMaps Go.MapKept

/-- Each number once, in the order in which they came. -/
def uniq (S : List Int) : List Int := S.foldl (fun acc x => if x ∈ acc then acc else acc ++ [x]) []

theorem uniq_snoc (S : List Int) (x : Int) : uniq (S ++ [x]) = if x ∈ uniq S then uniq S else uniq S ++ [x] := by
  unfold uniq
  rw [List.foldl_append]
  rfl

theorem snoc_cases {P : List Int → Prop} (h0 : P []) (h1 : ∀ l x, P l → P (l ++ [x])) (l : List Int) : P l := by
  have h : ∀ m : List Int, P m.reverse := by
    intro m
    induction m with
    | nil => exact h0
    | cons a m ih => rw [List.reverse_cons]; exact h1 _ _ ih
  have := h l.reverse
  rwa [List.reverse_reverse] at this

theorem uniq_mem (S : List Int) (y : Int) : y ∈ uniq S ↔ y ∈ S := by
  induction S using snoc_cases with
  | h0 => exact Iff.rfl
  | h1 l x ih =>
    rw [uniq_snoc, List.mem_append, List.mem_singleton]
    by_cases h : x ∈ uniq l
    · rw [if_pos h, ih]
      constructor
      · exact .inl
      · rintro (h2 | rfl)
        · exact h2
        · exact ih.1 h
    · rw [if_neg h, List.mem_append, List.mem_singleton, ih]

theorem uniq_add (S : List Int) (x : Int) : (uniq (S ++ [x])).length = if x ∈ S then (uniq S).length else (uniq S).length + 1 := by
  rw [uniq_snoc]
  by_cases h : x ∈ S
  · rw [if_pos h, if_pos ((uniq_mem S x).2 h)]
  · rw [if_neg h, if_neg (fun e => h ((uniq_mem S x).1 e)), List.length_append]
    rfl

theorem uniq_le (S : List Int) : (uniq S).length ≤ S.length := by
  induction S using snoc_cases with
  | h0 => exact Nat.le_refl _
  | h1 l x ih =>
    rw [uniq_add, List.length_append]
    split <;> simp <;> omega

/-- As many as there are: unlike. -/
theorem uniq_nodup (S : List Int) (h : (uniq S).length = S.length) : S.Nodup := by
  induction S using snoc_cases with
  | h0 => exact List.nodup_nil
  | h1 l x ih =>
    have h1 := uniq_le l
    rw [uniq_add, List.length_append] at h
    by_cases hx : x ∈ l
    · rw [if_pos hx] at h
      simp at h
      omega
    · rw [if_neg hx] at h
      simp at h
      rw [List.nodup_append]
      refine ⟨ih h, by simp, fun a ha b hb e => ?_⟩
      rw [List.mem_singleton] at hb
      subst hb e
      exact hx ha

/-- Block B is a map that holds the numbers S, each with true. -/
def SetI (w : World) (B : Nat) (S : List Int) : Prop :=
  ∃ n, ∃ D : DataW Unit, n ≤ S.length ∧ w.ownsMap Try.prog 3 (plainElem Try.prog 4) B n D ∧ Maps.size D = (uniq S).length ∧ ∀ x : Int, Maps.has D (.int .i64 x) = decide (x ∈ S)

theorem setI_made (w : World) : SetI (w.alloc (.map #[] 0)) w.heap.size [] :=
  ⟨0, .map [], Nat.le_refl _, World.ownsMap_made w _ _ _, rfl, fun _ => rfl⟩

theorem SetI.lt {w : World} {B : Nat} {S : List Int} (h : SetI w B S) : B < w.heap.size := by
  obtain ⟨_, _, _, h, _⟩ := h
  exact h.lt

theorem SetI.kept {w w' : World} {B : Nat} {S : List Int} (h : SetI w B S) (hb : w'.heap[B]? = w.heap[B]?) : SetI w' B S := by
  obtain ⟨n, D, h1, ⟨es, clock, h2, h3, h4, h5⟩, h6⟩ := h
  exact ⟨n, D, h1, ⟨es, clock, hb.trans h2, h3, h4, h5⟩, h6⟩

theorem SetI.later {w w' : World} {B : Nat} {S : List Int} (h : SetI w B S) (hb : Below w.heap.size w w') : SetI w' B S := h.kept (hb.block B h.lt)

theorem SetI.len {w : World} {B : Nat} {S : List Int} (h : SetI w B S) (ty : TypeId) :
    (Builtin.len_ #[46] ty #[.map (some B)]).run Try.prog w = .ok (.int .i64 (uniq S).length) w := by
  obtain ⟨n, D, h1, h2, h3, h4⟩ := h
  rw [← h3]
  exact h2.len Try.underlying46 ty

theorem wpList_int_add {w : World} {ops : Array Oper} {rest : List Oper} {o : Oper} {a : Act} {Q : Exit → Act → World → Prop}
    (hg : o.guard = none) (m x v : Operand) (hop : o.op = Op.mapUpdate 46 m x v) (B : Nat) (S : List Int) (hm : a.eval m = .map (some B)) (hown : SetI w B S) (hS : S.length ≤ 1000)
    (u : Int) (hu : (Lit.int .i64 u).wf = true) (hx : a.eval x = .int .i64 u) (hv : a.eval v = .bool true)
    (hK : ∀ w', SetI w' B (S ++ [u]) → w.grownBy w' (some B) → wpList Try.prog ops Q rest (a.put o.dst undef) w') :
    wpList Try.prog ops Q (o :: rest) a w := by
  obtain ⟨n, D, h1, h2, h3, h4⟩ := hown
  refine wpList_mapUpdate_own w hg m x v _ hop _ _ (Maps.int_keyed Try.underlying3) Try.underlying46 _ B n D hm h2 (by unfold maxLen; omega) _ _ (.int .i64 u) hx hv (key_int u hu) (.lit (.bool true)) [] (plainElem_bool Try.underlying4 true) ?_
  intro w' h6 h7
  have hT := h2.tidy (Maps.int_keyed Try.underlying3)
  have hne : ∀ y : Int, ¬ y = u → (Lit.int .i64 y) ≠ .int .i64 u := fun y h e => h (by injection e)
  refine hK w' ⟨n + 1, _, by simp; omega, h6, ?_, ?_⟩ h7
  · rw [Maps.size_put hT, h4 u, h3, uniq_add]
    by_cases h : u ∈ S <;> simp [h]
  · intro y
    by_cases e : y = u
    · subst e
      rw [Maps.has_put_same hT.isMap (show WideAt.IsKeyLit (.int .i64 y) from True.intro)]
      simp
    · rw [Maps.has_put_other (hne y e), h4 y]
      simp [e]

end Go.Proofs.Ytkmbnpjnjlcjmaa
