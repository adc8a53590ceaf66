/-
  TEXTS OF THE PROOF, one behind the other: PairKey, RosItems.
-/
import Derived.Test.YtfkadkopolenbaaProg
import Derived.Test.YtfkadkopolenbaaGR10
import Derived.DeepKeys4
import Derived.Maps.OwnSet
import Derived.Test.YtfkadkopolenbaaGR22
import Derived.Test.YtfkadkopolenbaaGR16

section

/-
  KEYS THAT ARE TWO TEXTS: what a map's key of type [2]string stands for; unlike pairs have unlike keys.
-/
namespace Go.Proofs.Ytfkadkopolenbaa
open Go.RowKit Go.ChangeMaps Go.MapKept

theorem pkLaid : laidOutB Try.prog = true := by kernel_rfl
theorem pkRow : (43 : TypeId) < Try.prog.types.size := of_decide_eq_true (by kernel_rfl)
theorem pkWide : (match Try.prog.underlying 43 with | some (.array _ _) | some (.struct _) => true | _ => false) = true := by kernel_rfl
set_option maxRecDepth 100000 in
theorem pkLaw : WideMaps.KeyLaw Try.prog 43 := deep_law_laid pkLaid (m := 3) (by omega) pkRow (by kernel_rfl) pkWide
theorem pkKeyed : Maps.Keyed Try.prog 43 := Maps.Keyed.of_law pkLaw

def pkV (a b : List UInt8) : Value := .agg #[.string ⟨a.toArray⟩, .string ⟨b.toArray⟩]

/-- The literal of a pair. -/
def pkL (a b : List UInt8) : Lit := .string (keyBytes [.string a, .string b])

theorem pk_text {d : Nat} {a : List UInt8} (h : a.length ≤ 4294967296) : Try.prog.keyLits (d + 1) 9 [.string ⟨a.toArray⟩] = some [.string a] := by
  unfold Program.keyLits
  rw [Try.underlying9]
  have : (⟨a.toArray⟩ : ByteArray).size ≤ maxLen := by show a.toArray.size ≤ _; simp; unfold maxLen; omega
  simp only [this, if_true]

theorem pk_lits {d : Nat} {a b : List UInt8} (ha : a.length ≤ 4294967296) (hb : b.length ≤ 4294967296) : Try.prog.keyLits (d + 2) 43 [.string ⟨a.toArray⟩, .string ⟨b.toArray⟩] = some [.string a, .string b] := by
  have c2 : Try.prog.cellsOf 43 = 2 := by kernel_rfl
  have c1 : Try.prog.cellsOf 9 = 1 := by kernel_rfl
  rw [show d + 2 = (d + 1) + 1 from rfl]
  unfold Program.keyLits
  rw [Try.underlying43]
  simp only [c1, c2, List.length_cons, List.length_nil, Nat.zero_add, Nat.reduceAdd, if_true]
  have e : List.range 2 = [0, 1] := rfl
  rw [e]
  simp only [List.mapM_cons, List.mapM_nil, Nat.zero_mul, Nat.one_mul, List.drop_zero, List.drop_succ_cons, List.take_succ_cons, List.take_zero, pk_text ha, pk_text hb, Option.map_some, bind, Option.bind, pure]
  rfl

set_option maxRecDepth 100000 in
theorem pk_key (a b : List UInt8) (ha : a.length ≤ 4294967296) (hb : b.length ≤ 4294967296) : keyOf Try.prog 43 (pkV a b) = some (pkL a b) := by
  unfold keyOf pkV
  rw [Try.underlying43]
  have c2 : Try.prog.cellsOf 43 = 2 := by kernel_rfl
  have hk : Try.prog.keyType 43 = true := by kernel_rfl
  have hf : (Value.agg #[.string ⟨a.toArray⟩, .string ⟨b.toArray⟩]).formed Try.prog 43 = true := by
    simp [Value.formed, Try.underlying43, c2]
  obtain ⟨s, hn⟩ : ∃ s, Try.prog.types.size = s + 1 := ⟨_, (Nat.succ_pred_eq_of_pos (Nat.lt_of_le_of_lt (Nat.zero_le _) pkRow)).symm⟩
  have hc : (Value.agg #[.string ⟨a.toArray⟩, .string ⟨b.toArray⟩]).cells.toList = [.string ⟨a.toArray⟩, .string ⟨b.toArray⟩] := rfl
  simp only [hk, hf, Bool.and_self, if_true, hc]
  rw [hn, show s + 1 + 1 = s + 2 from rfl, pk_lits ha hb]
  rfl

theorem pk_inj {a b c d : List UInt8} (ha : a.length ≤ 4294967296) (hb : b.length ≤ 4294967296) (hc : c.length ≤ 4294967296) (hd : d.length ≤ 4294967296) (h : pkL a b = pkL c d) : a = c ∧ b = d := by
  have e := pkLaw.inj (pk_key a b ha hb) (by rw [h]; exact pk_key c d hc hd)
  unfold pkV at e
  simp only [Value.agg.injEq, Array.mk.injEq, List.cons.injEq, Value.string.injEq, ByteArray.mk.injEq, and_true] at e
  exact e

theorem pk_isKey (a b : List UInt8) : WideAt.IsKeyLit (pkL a b) := True.intro

end Go.Proofs.Ytfkadkopolenbaa

end

section

/-
  LAYER 8: a map from pairs of names to items; what Do makes of the two items; for RostMay.
-/
namespace Go.Proofs.Ytfkadkopolenbaa
open Go.RowKit Go.ChangeMaps Go.MapKept

/-- How an item reads as a map's element. -/
def itData (i : It) : DataW Unit := .agg [.lit (.bool i.to), .lit (.bool i.fr), .lit (.bool i.out), .lit (.bool i.inn), .lit (.bool i.bl)]

def itElem : Value → Option (DataW Unit × List MemPlace)
  | .agg cs => match cs.toList with
    | [.bool a, .bool b, .bool c, .bool d, .bool e] => some (itData ⟨a, b, c, d, e⟩, [])
    | _ => none
  | _ => none

theorem itElem_mk (i : It) : itElem (itV i) = some (itData i, []) := rfl

theorem itData_inj {r s : It} (h : itData r = itData s) : r = s := by
  obtain ⟨a, b, c, d, e⟩ := r
  obtain ⟨a', b', c', d', e'⟩ := s
  simp only [itData, DataW.agg.injEq, List.cons.injEq, DataW.lit.injEq, Lit.bool.injEq, and_true] at h
  obtain ⟨rfl, rfl, rfl, rfl, rfl⟩ := h
  rfl

theorem itElem_inv {v : Value} {z : DataW Unit × List MemPlace} (h : itElem v = some z) : ∃ r, v = itV r ∧ z = (itData r, []) := by
  unfold itElem at h
  split at h
  · rename_i cs
    split at h
    · rename_i a b c d e he
      refine ⟨⟨a, b, c, d, e⟩, ?_, (Option.some.inj h).symm⟩
      obtain ⟨l⟩ := cs
      simp only at he
      subst he
      rfl
    · cases h
  · cases h

/-- Block B is a map that holds the item of each pair of names. -/
def ItemsAt (w : World) (B n : Nat) (g : List UInt8 → List UInt8 → It) : Prop :=
  ∃ m, ∃ D : DataW Unit, m ≤ n ∧ w.ownsMap Try.prog 43 itElem B m D ∧ ∀ a b : List UInt8, a.length ≤ 40 → b.length ≤ 40 → D.atKey (pkL a b) (itData It.zero) = itData (g a b)

theorem itemsAt_made (w : World) : ItemsAt (w.alloc (.map #[] 0)) w.heap.size 0 (fun _ _ => It.zero) :=
  ⟨0, .map [], Nat.le_refl _, World.ownsMap_made w _ _ _, fun _ _ _ _ => rfl⟩

theorem ItemsAt.lt {w : World} {B n : Nat} {g : List UInt8 → List UInt8 → It} (h : ItemsAt w B n g) : B < w.heap.size := by
  obtain ⟨_, _, _, h, _⟩ := h
  exact h.lt

theorem ItemsAt.later {w w' : World} {B n : Nat} {g : List UInt8 → List UInt8 → It} (h : ItemsAt w B n g) (hb : Below w.heap.size w w') : ItemsAt w' B n g := by
  have hlt := h.lt
  obtain ⟨m, D, h1, ⟨es, clock, h2, h3, h4, h5⟩, h6⟩ := h
  exact ⟨m, D, h1, ⟨es, clock, (hb.block B hlt).trans h2, h3, h4, h5⟩, h6⟩

theorem ItemsAt.isMap {w : World} {B n : Nat} {g : List UInt8 → List UInt8 → It} (h : ItemsAt w B n g) : ∃ es clock, w.heap[B]? = some (.map es clock) := by
  obtain ⟨_, _, _, ⟨es, clock, h2, _⟩, _⟩ := h
  exact ⟨es, clock, h2⟩

theorem zeroItem (w : World) : (zeroValue 26).run Try.prog w = .ok (itV It.zero) w := by kernel_rfl

theorem ItemsAt.look {w : World} {B n : Nat} {g : List UInt8 → List UInt8 → It} (h : ItemsAt w B n g) (a b : List UInt8) (ha : a.length ≤ 40) (hb : b.length ≤ 40) {i1 i2 i3 i4 i5 : Bool} (hg : g a b = ⟨i1, i2, i3, i4, i5⟩) :
    (Instr.lookup 40 (.map (some B)) (.agg #[.string ⟨a.toArray⟩, .string ⟨b.toArray⟩]) false).run Try.prog w = .ok (.agg #[.bool i1, .bool i2, .bool i3, .bool i4, .bool i5]) w := by
  obtain ⟨m, D, h1, h2, h3⟩ := h
  obtain ⟨v, ps, hrun, hv⟩ := h2.lookup pkKeyed Try.underlying40 (zeroItem w) (itElem_mk It.zero) (pk_key a b (by omega) (by omega))
  rw [h3 a b ha hb, hg] at hv
  obtain ⟨r, rfl, hr⟩ := itElem_inv hv
  simp only [Prod.mk.injEq] at hr
  rw [← itData_inj hr.1] at hrun
  exact hrun

def layI (g : List UInt8 → List UInt8 → It) (a b : List UInt8) (i : It) : List UInt8 → List UInt8 → It := fun x y => if x = a ∧ y = b then i else g x y

/-- 'm[[2]string..] = item'. -/
theorem wpList_item {w : World} {ops : Array Oper} {rest : List Oper} {o : Oper} {act : Act} {Q : Exit → Act → World → Prop}
    (hg : o.guard = none) (m x v : Operand) (hop : o.op = Op.mapUpdate 40 m x v) (B n : Nat) (g : List UInt8 → List UInt8 → It) (hm : act.eval m = .map (some B)) (hown : ItemsAt w B n g) (hS : n ≤ 4294967296)
    (a b : List UInt8) (ha : a.length ≤ 40) (hb : b.length ≤ 40) (hx : act.eval x = .agg #[.string ⟨a.toArray⟩, .string ⟨b.toArray⟩]) (i1 i2 i3 i4 i5 : Bool) (hv : act.eval v = .agg #[.bool i1, .bool i2, .bool i3, .bool i4, .bool i5])
    (hK : ∀ w', ItemsAt w' B (n + 1) (layI g a b ⟨i1, i2, i3, i4, i5⟩) → w.grownBy w' (some B) → wpList Try.prog ops Q rest (act.put o.dst undef) w') :
    wpList Try.prog ops Q (o :: rest) act w := by
  obtain ⟨k, D, h1, h2, h3⟩ := hown
  refine wpList_mapUpdate_own w hg m x v _ hop _ _ pkKeyed Try.underlying40 _ B k D hm h2 (by unfold maxLen; omega) _ _ (pkL a b) hx hv (pk_key a b (by omega) (by omega)) (itData ⟨i1, i2, i3, i4, i5⟩) [] (itElem_mk ⟨i1, i2, i3, i4, i5⟩) ?_
  intro w' h6 h7
  have hT := h2.tidy pkKeyed
  refine hK w' ⟨k + 1, _, by omega, h6, fun x y hx hy => ?_⟩ h7
  unfold layI
  by_cases e : x = a ∧ y = b
  · rw [if_pos e, e.1, e.2, Maps.atKey_put_same hT.isMap (pk_isKey a b)]
  · rw [if_neg e, Maps.atKey_put_other (fun h => e (pk_inj (by omega) (by omega) (by omega) (by omega) h)), h3 x y hx hy]

/-- Entries stay where a map turns. -/
theorem Ents.grown {w w' : World} {v : Value} {l : List Ent} (h : Ents w v l) {B : Nat} (hm : ∃ es clock, w.heap[B]? = some (.map es clock)) (hg : w.grownBy w' (some B)) : Ents w' v l := by
  obtain ⟨es, clock, hm⟩ := hm
  obtain ⟨a, cap, h1, h2, h3, h4, h5⟩ := h
  refine ⟨a, cap, h1, h2, h3, h4, ?_⟩
  rcases h5 with h5 | ⟨b, off, e, hlt, hc⟩
  · exact .inl h5
  · refine .inr ⟨b, off, e, Nat.lt_of_lt_of_le hlt hg.size, fun i hi => ?_⟩
    have hbB : b ≠ B := by
      rintro rfl
      have := (hc i hi).1
      simp [World.cell?, hm] at this
    have hb := hg.block b hlt (fun e => hbB (by injection e))
    have key : ∀ j u, w.cell? ⟨b, j, none⟩ = some u → w'.cell? ⟨b, j, none⟩ = some u := by
      intro j u hu
      simp only [World.cell?, hb] at hu ⊢
      exact hu
    obtain ⟨g0, g1, g2, g3, g4, g5, g6⟩ := hc i hi
    exact ⟨key _ _ g0, key _ _ g1, key _ _ g2, key _ _ g3, key _ _ g4, key _ _ g5, key _ _ g6⟩

theorem roDo_two {l m : List Ent} {k : Int} {u o : List UInt8} (h : roDo l k u o = (m, 0)) :
    ∃ a b, suAct (roIt l u o) (roIt l o u) k = (a, b, 0) ∧ roIt m u o = a ∧ roIt m o u = b := by
  have hrm := (roDo_rises h).2
  obtain ⟨hm, _, _, huo, _, _, a, b, hab, _, he⟩ := roDo_ok h
  have hr : Rise l := hm.1
  refine ⟨a, b, hab, ?_, ?_⟩
  · cases hk : (!(suEmpty a && suEmpty b)) with
    | true =>
      rw [hk] at he
      have : (⟨u, o, a⟩ : Ent) ∈ m := by rw [he]; exact (roSet_mem hr huo a b true _).2 (.inl ⟨rfl, .inl rfl⟩)
      exact roIt_mem hrm this
    | false =>
      rw [hk] at he
      have hz : a = It.zero := by
        apply suEmpty_iff.1
        cases ha : suEmpty a with
        | true => rfl
        | false => rw [ha] at hk; cases hk
      rw [hz]
      refine roIt_none fun e hem hc => ?_
      rw [he] at hem
      rcases (roSet_mem hr huo a b false e).1 hem with ⟨h1, _⟩ | ⟨_, h1, _⟩
      · cases h1
      · exact h1 hc
  · cases hk : (!(suEmpty a && suEmpty b)) with
    | true =>
      rw [hk] at he
      have : (⟨o, u, b⟩ : Ent) ∈ m := by rw [he]; exact (roSet_mem hr huo a b true _).2 (.inl ⟨rfl, .inr rfl⟩)
      exact roIt_mem hrm this
    | false =>
      rw [hk] at he
      have hz : b = It.zero := by
        apply suEmpty_iff.1
        cases hb : suEmpty b with
        | true => rfl
        | false => rw [hb, Bool.and_false] at hk; cases hk
      rw [hz]
      refine roIt_none fun e hem hc => ?_
      rw [he] at hem
      rcases (roSet_mem hr huo a b false e).1 hem with ⟨h1, _⟩ | ⟨_, _, h1⟩
      · cases h1
      · exact h1 hc

theorem roDo_lay {l m : List Ent} {k : Int} {u o : List UInt8} (h : roDo l k u o = (m, 0)) {a b : It} (ha : roIt m u o = a) (hb : roIt m o u = b) :
    layI (layI (roIt l) u o a) o u b = roIt m := by
  funext x y
  unfold layI
  by_cases h1 : x = o ∧ y = u
  · rw [if_pos h1, h1.1, h1.2, hb]
  · rw [if_neg h1]
    by_cases h2 : x = u ∧ y = o
    · rw [if_pos h2, h2.1, h2.2, ha]
    · rw [if_neg h2]
      exact (roDo_other h h2 h1).symm

theorem roM_short {l : List Ent} (h : RoM l) : ShortE l := fun e he => by
  have h1 := (h.2 e he).1
  have h2 := (h.2 e he).2.1
  have k1 := (idIs_parts h1).2.1
  have k2 := (idIs_parts h2).2.1
  exact ⟨by omega, by omega⟩

theorem roM_nil : RoM [] := ⟨List.Pairwise.nil, fun e he => by simp at he⟩

theorem roDo_len2 {l m : List Ent} {k : Int} {u o : List UInt8} (h : roDo l k u o = (m, 0)) : m.length ≤ l.length + 2 := by
  obtain ⟨hm, _, _, _, _, _, a, b, _, _, rfl⟩ := roDo_ok h
  have hr : Rise l := hm.1
  have key : ∀ (t : List Ent) (x : Ent) (keep : Bool), Rise t → (roSet t x keep).length ≤ t.length + 1 := by
    intro t x keep ht
    cases keep with
    | true => rw [roSet_keep ht]; exact putO_le t x
    | false => rw [roSet_drop]; exact Nat.le_trans (dropO_le t x) (Nat.le_succ _)
  have h1 := key l ⟨u, o, a⟩ (!(suEmpty a && suEmpty b)) hr
  have h2 := key (roSet l ⟨u, o, a⟩ (!(suEmpty a && suEmpty b))) ⟨o, u, b⟩ (!(suEmpty a && suEmpty b)) (roSet_rise hr _ _)
  omega

end Go.Proofs.Ytfkadkopolenbaa

end
