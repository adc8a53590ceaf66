/-
  LAYER 10: a heap in memory: its slots, and where each id's slot stands.
-/
import Derived.Test.YtkmbnpjnjlcjmaaProg
import Derived.Test.YtkmbnpjnjlcjmaaAid
import Derived.Test.YtkmbnpjnjlcjmaaHeaPure
import Derived.Maps.OwnSet
import Derived.BigRegion
import Derived.Deep.RegionHeld
import Derived.Deep.QuietTactic
import Derived.BigQuiet
import Derived.StillTailTactics
namespace Go.Proofs.Ytkmbnpjnjlcjmaa
open Go.RowKit Go.ChangeMaps Go.MapKept

def slVals (s : Sl) : List Value := [.int .i64 s.id, .int .i64 s.r0, .int .i64 s.r1, .int .i64 s.r2]

/-- Numbers that an int holds. -/
def SlFit (s : Sl) : Prop := (Lit.int .i64 s.id).wf = true

theorem slOK : RowOK Try.prog slVals 4 Sl.zero 92 152 (.agg #[.int .i64 0, .int .i64 0, .int .i64 0, .int .i64 0]) 32 where
  len _ := rfl
  one a u hu := by
    simp only [slVals, List.mem_cons, List.not_mem_nil, or_false] at hu
    rcases hu with rfl | rfl | rfl | rfl <;> rfl
  pos := by decide
  small := by decide
  under := Try.underlying152
  info := by kernel_rfl
  zvals := rfl
  fits := by decide

abbrev OwnSl (w : World) (base : Nat) (v : Value) (l : List Sl) : Prop := OwnS slVals 4 92 w base v l

theorem cells4 {w : World} {b o : Nat} {s : Sl} (h : CellsAt w b o (slVals s)) :
    w.cell? ⟨b, o, none⟩ = some (.int .i64 s.id) ∧ w.cell? ⟨b, o + 1, none⟩ = some (.int .i64 s.r0) ∧ w.cell? ⟨b, o + 2, none⟩ = some (.int .i64 s.r1) ∧ w.cell? ⟨b, o + 3, none⟩ = some (.int .i64 s.r2) :=
  ⟨h 0 _ rfl, h 1 _ rfl, h 2 _ rfl, h 3 _ rfl⟩

/-- A map of the call's own, from ids to places; k ids. -/
def PlacesAt (w : World) (M : Nat) (f : Int → Option Nat) (k : Nat) : Prop :=
  ∃ D : DataW Unit, w.ownsMap Try.prog 3 (plainElem Try.prog 3) M k D ∧ Maps.size D = k ∧
    ∀ id : Int, Maps.has D (.int .i64 id) = (f id).isSome ∧ D.atKey (.int .i64 id) (.lit (.int .i64 0)) = .lit (.int .i64 (((f id).getD 0 : Nat) : Int))

theorem ownsMap_tight {w : World} {P : Program} {k : TypeId} {R : Value → Option (DataW Unit × List MemPlace)} {b n : Nat} {D : DataW Unit} (h : w.ownsMap P k R b n D) : w.ownsMap P k R b (Maps.size D) D := by
  obtain ⟨es, clock, h1, h2, _, rfl⟩ := h
  refine ⟨es, clock, h1, h2, ?_, rfl⟩
  rw [Maps.size_eq, length_sorted]
  simp

theorem placesAt_made (w : World) : PlacesAt (w.alloc (.map #[] 0)) w.heap.size (fun _ => none) 0 :=
  ⟨.map [], World.ownsMap_made w _ _ _, rfl, fun _ => ⟨rfl, rfl⟩⟩

theorem PlacesAt.kept {w w' : World} {M : Nat} {f : Int → Option Nat} {k : Nat} (h : PlacesAt w M f k) (hb : w'.heap[M]? = w.heap[M]?) : PlacesAt w' M f k := by
  obtain ⟨D, ⟨es, clock, h2, h3, h4, h5⟩, h6⟩ := h
  exact ⟨D, ⟨es, clock, hb.trans h2, h3, h4, h5⟩, h6⟩

theorem PlacesAt.lt {w : World} {M : Nat} {f : Int → Option Nat} {k : Nat} (h : PlacesAt w M f k) : M < w.heap.size := by
  obtain ⟨D, h1, _⟩ := h
  exact h1.lt

theorem PlacesAt.isMap {w : World} {M : Nat} {f : Int → Option Nat} {k : Nat} (h : PlacesAt w M f k) : ∃ es clock, w.heap[M]? = some (.map es clock) := by
  obtain ⟨D, ⟨es, clock, h2, _⟩, _⟩ := h
  exact ⟨es, clock, h2⟩

/-- An id laid at a place. -/
def layF (f : Int → Option Nat) (id : Int) (a : Option Nat) : Int → Option Nat := fun x => if x = id then a else f x

theorem zeroInt (w : World) : (zeroValue 3).run Try.prog w = .ok (.int .i64 0) w := by kernel_rfl

theorem key_int (id : Int) (h : (Lit.int .i64 id).wf = true) : keyOf Try.prog 3 (.int .i64 id) = some (.int .i64 id) := Maps.keyOf_int_mk Try.underlying3 h

theorem PlacesAt.look {w : World} {M : Nat} {f : Int → Option Nat} {k : Nat} (h : PlacesAt w M f k) (id : Int) (hid : (Lit.int .i64 id).wf = true) {a : Nat} {r : Bool} (hr : (f id).isSome = r) (ha : (f id).getD 0 = a) :
    (Instr.lookup 151 (.map (some M)) (.int .i64 id) true).run Try.prog w = .ok (.tuple #[.int .i64 a, .bool r]) w := by
  obtain ⟨D, h1, h2, h3⟩ := h
  obtain ⟨v, ps, hrun, hv⟩ := h1.look_ok (Maps.int_keyed Try.underlying3) Try.underlying151 (zeroInt w) (plainElem_int (H := Unit) Try.underlying3 (show (Lit.int .i64 0).wf = true by decide)) (key_int id hid)
  obtain ⟨g1, g2⟩ := h3 id
  rw [g2, ha] at hv
  rw [g1, hr] at hrun
  obtain ⟨c, rfl, hc, _⟩ := plainElem_int_inv Try.underlying3 hv
  simp only [Prod.mk.injEq, DataW.lit.injEq, Lit.int.injEq, true_and] at hc
  rw [hc.1]
  exact hrun

theorem intFit (a : Nat) (h : a < 1000000) : (Lit.int .i64 (a : Int)).wf = true := by
  have h1 : IntKind.i64.min = -9223372036854775808 := by decide
  have h2 : IntKind.i64.max = 9223372036854775807 := by decide
  simp only [Lit.wf, h1, h2]
  simp
  omega

theorem PlacesAt.put {w : World} {M : Nat} {f : Int → Option Nat} {k : Nat} (h : PlacesAt w M f k) (hk : k < 1000000) (id : Int) (hid : (Lit.int .i64 id).wf = true) (a : Nat) (ha : a < 1000000) :
    ∃ w', (Instr.mapUpdate 151 (.map (some M)) (.int .i64 id) (.int .i64 a)).run Try.prog w = .ok () w' ∧ PlacesAt w' M (layF f id (some a)) (if (f id).isSome then k else k + 1) ∧ w.mapTurned w' M := by
  obtain ⟨D, h1, h2, h3⟩ := h
  have hT := h1.tidy (Maps.int_keyed Try.underlying3)
  obtain ⟨w', hrun, hown, hturn⟩ := h1.store (Maps.int_keyed Try.underlying3) Try.underlying151 (by unfold maxLen; omega) (key_int id hid) (plainElem_int (H := Unit) Try.underlying3 (intFit a ha))
  have hsz : Maps.size (D.put (.int .i64 id) (.lit (.int .i64 a))) = if (f id).isSome then k else k + 1 := by
    rw [Maps.size_put hT, (h3 id).1, h2]
  refine ⟨w', hrun, ⟨_, by have := ownsMap_tight hown; rwa [hsz] at this, hsz, fun x => ?_⟩, hturn⟩
  unfold layF
  by_cases e : x = id
  · subst e
    rw [Maps.has_put_same hT.isMap (show WideAt.IsKeyLit (.int .i64 x) from True.intro), Maps.atKey_put_same hT.isMap (show WideAt.IsKeyLit (.int .i64 x) from True.intro)]
    simp
  · have hne : (Lit.int .i64 x) ≠ .int .i64 id := fun h => e (by injection h)
    rw [Maps.has_put_other hne, Maps.atKey_put_other hne, if_neg e]
    exact h3 x

theorem PlacesAt.del {w : World} {M : Nat} {f : Int → Option Nat} {k : Nat} (h : PlacesAt w M f k) (id : Int) (hid : (Lit.int .i64 id).wf = true) (ty : TypeId) :
    ∃ w', (Builtin.delete_ #[151, 3] ty #[.map (some M), .int .i64 id]).run Try.prog w = .ok (.tuple #[]) w' ∧ PlacesAt w' M (layF f id none) (if (f id).isSome then k - 1 else k) ∧ w.mapTurned w' M := by
  obtain ⟨D, h1, h2, h3⟩ := h
  have hT := h1.tidy (Maps.int_keyed Try.underlying3)
  obtain ⟨w', hrun, hown, hturn⟩ := h1.drop (Maps.int_keyed Try.underlying3) Try.underlying151 (key_int id hid) ty
  have hsz : Maps.size (D.del (.int .i64 id)) = if (f id).isSome then k - 1 else k := by
    have := Maps.size_del hT (k := .int .i64 id)
    rw [(h3 id).1, h2] at this
    cases hs : (f id).isSome with
    | true => rw [hs] at this; simp only [if_true] at this ⊢; omega
    | false => rw [hs] at this; simp only [Bool.false_eq_true, if_false] at this ⊢; omega
  refine ⟨w', hrun, ⟨_, by have := ownsMap_tight hown; rwa [hsz] at this, hsz, fun x => ?_⟩, hturn⟩
  unfold layF
  by_cases e : x = id
  · subst e
    rw [Maps.has_del_same, Maps.atKey_del_same]
    simp
  · have hne : (Lit.int .i64 x) ≠ .int .i64 id := fun h => e (by injection h)
    rw [Maps.has_del_other hne, Maps.atKey_del_other hne, if_neg e]
    exact h3 x

/-- A heap in memory: block B holds its slots' slice v, and its map M. -/
structure HAt (w : World) (base B : Nat) (v : Value) (M : Nat) (l : List Sl) (f : Int → Option Nat) (k : Nat) : Prop where
  le : base ≤ B
  leM : base ≤ M
  head : w.heap[B]? = some (.cells #[v, .map (some M)] 154 (0, 0))
  own : OwnSl w base v l
  places : PlacesAt w M f k

theorem HAt.lt {w : World} {base B : Nat} {v : Value} {M : Nat} {l : List Sl} {f : Int → Option Nat} {k : Nat} (h : HAt w base B v M l f k) : B < w.heap.size := (Array.getElem?_eq_some_iff.1 h.head).1

theorem HAt.cells {w : World} {base B : Nat} {v : Value} {M : Nat} {l : List Sl} {f : Int → Option Nat} {k : Nat} (h : HAt w base B v M l f k) :
    w.cell? ⟨B, 0, none⟩ = some v ∧ w.cell? ⟨B, 1, none⟩ = some (.map (some M)) ∧ w.frozen? ⟨B, 0, none⟩ = false ∧ w.frozen? ⟨B, 1, none⟩ = false :=
  ⟨cell_of_row w B 0 _ _ (0, 0) h.head, cell_of_row w B 1 _ _ (0, 0) h.head, frozen_of_row w B 0 _ _ h.head, frozen_of_row w B 1 _ _ h.head⟩

/-- Worlds that differ from w in what is no block of a heap alone. -/
def Spared (w w' : World) (B M : Nat) (v : Value) : Prop := w'.heap[B]? = w.heap[B]? ∧ w'.heap[M]? = w.heap[M]? ∧ ∀ g n c, v = .slice (some ⟨g, 0, none⟩) n c → w'.heap[g]? = w.heap[g]?

theorem OwnS.blocks {α : Type} {vals : α → List Value} {sz : Nat} {T : TypeId} {w w' : World} {base : Nat} {v : Value} {t : List α} (h : OwnS vals sz T w base v t) (hb : ∀ g n c, v = .slice (some ⟨g, 0, none⟩) n c → w'.heap[g]? = w.heap[g]?) : OwnS vals sz T w' base v t := by
  refine ⟨h.1, ?_⟩
  rcases h.2 with h' | ⟨g, cap, cur, h1, h2, h3, h4⟩
  · exact .inl h'
  · exact .inr ⟨g, cap, cur, h1, h2, (hb g _ _ h1).trans h3, h4⟩

theorem HAt.spared {w w' : World} {base B : Nat} {v : Value} {M : Nat} {l : List Sl} {f : Int → Option Nat} {k : Nat} (h : HAt w base B v M l f k) (hs : Spared w w' B M v) : HAt w' base B v M l f k :=
  ⟨h.le, h.leM, hs.1.trans h.head, h.own.blocks hs.2.2, h.places.kept hs.2.1⟩

theorem OwnS.gblock {α : Type} {vals : α → List Value} {sz : Nat} {T : TypeId} {w : World} {base : Nat} {v : Value} {t : List α} (h : OwnS vals sz T w base v t) {g n c : Nat} (hv : v = .slice (some ⟨g, 0, none⟩) n c) : g < w.heap.size ∧ base ≤ g ∧ ∃ cur, w.heap[g]? = some (.cells cur T (0, 0)) := by
  subst hv
  obtain ⟨_, h2, h3, _, _, cur, h4, _⟩ := h.head
  exact ⟨h3, h2, cur, h4⟩

theorem HAt.later {w w' : World} {base B : Nat} {v : Value} {M : Nat} {l : List Sl} {f : Int → Option Nat} {k : Nat} (h : HAt w base B v M l f k) (hb : Below w.heap.size w w') : HAt w' base B v M l f k :=
  h.spared ⟨hb.block _ h.lt, hb.block _ h.places.lt, fun _ _ _ hv => hb.block _ (h.own.gblock hv).1⟩

/-- The blocks of a heap are three. -/
theorem HAt.apart {w : World} {base B : Nat} {v : Value} {M : Nat} {l : List Sl} {f : Int → Option Nat} {k : Nat} (h : HAt w base B v M l f k) : B ≠ M ∧ ∀ g n c, v = .slice (some ⟨g, 0, none⟩) n c → g ≠ B ∧ g ≠ M := by
  obtain ⟨es, clock, hm⟩ := h.places.isMap
  refine ⟨fun e => ?_, fun g n c hv => ?_⟩
  · rw [← e, h.head] at hm
    simp at hm
  · obtain ⟨_, _, cur, hg⟩ := h.own.gblock hv
    constructor
    · intro e
      rw [e, h.head] at hg
      simp at hg
    · intro e
      rw [e, hm] at hg
      simp at hg

/-- The blocks that a heap's call may turn. -/
def Foot (B M : Nat) (v : Value) (b : Nat) : Prop := b = B ∨ b = M ∨ ∃ n c, v = .slice (some ⟨b, 0, none⟩) n c

/-- All other blocks are as they were. -/
def Beside (w w' : World) (S : Nat → Prop) : Prop := ∀ b, b < w.heap.size → ¬ S b → w'.heap[b]? = w.heap[b]?

theorem Beside.refl (w : World) (S : Nat → Prop) : Beside w w S := fun _ _ _ => rfl

theorem beside_below {w w' : World} (h : Below w.heap.size w w') (S : Nat → Prop) : Beside w w' S := fun b hb _ => h.block b hb

theorem Beside.trans {a b c : World} {S : Nat → Prop} (h1 : Beside a b S) (hs : a.heap.size ≤ b.heap.size) (h2 : Beside b c S) : Beside a c S :=
  fun x hx hn => (h2 x (Nat.lt_of_lt_of_le hx hs) hn).trans (h1 x hx hn)

end Go.Proofs.Ytkmbnpjnjlcjmaa
