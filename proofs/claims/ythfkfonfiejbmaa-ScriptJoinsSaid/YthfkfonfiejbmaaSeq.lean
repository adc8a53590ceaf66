/-
  ROWS OF STRUCTS, OVER ANY PROGRAM AND ANY ELEMENT OF A FEW CELLS: slices that are read, or owned, appended to, copied, cleared, grown by zero rows.
-/
import Derived.Test.YthfkfonfiejbmaaKit
import Derived.Laws.IdiomCopy
import Derived.Laws.AppendOwnNone
import Derived.Lib.AppendZerosOnto
import Derived.Lib.Overlaps
import Derived.Deep.RegionLaw
import Derived.Laws.Externs
import Derived.Lib.SliceRun
namespace Go.Proofs.Ythfkfonfiejbmaa
open Go.RowKit

/-- The cells of elements, one behind the other. -/
def cellsS {α : Type} (vals : α → List Value) (t : List α) : List Value := (t.map vals).flatten

/-- What is to be known of an element's type T, and of its slice's S. -/
structure RowOK {α : Type} (P : Program) (vals : α → List Value) (sz : Nat) (zero : α) (T S : TypeId) (Z : Value) (bytes : Nat) : Prop where
  len : ∀ a, (vals a).length = sz
  one : ∀ a, ∀ u ∈ vals a, u.oneCell' = true
  pos : 0 < sz
  small : sz ≤ 100
  under : P.underlying S = some (.slice T)
  info : (P.info? T).map (fun i => (i.zero, i.size, i.bytes)) = some (some Z, sz, bytes)
  zvals : Z.cells.toList = vals zero
  fits : bytes ≤ 4096

section pure
variable {α : Type} {vals : α → List Value} {sz : Nat}

theorem cellsS_nil : cellsS vals [] = [] := rfl
theorem cellsS_cons (r : α) (t : List α) : cellsS vals (r :: t) = vals r ++ cellsS vals t := rfl
theorem cellsS_append (a b : List α) : cellsS vals (a ++ b) = cellsS vals a ++ cellsS vals b := by simp [cellsS]
theorem cellsS_one (r : α) : cellsS vals [r] = vals r := by simp [cellsS]

theorem cellsS_len (hl : ∀ a, (vals a).length = sz) : ∀ t : List α, (cellsS vals t).length = t.length * sz
  | [] => by simp [cellsS]
  | r :: t => by rw [cellsS_cons, List.length_append, hl, cellsS_len hl t, List.length_cons, Nat.add_mul, Nat.one_mul, Nat.add_comm]

theorem cellsS_at (hl : ∀ a, (vals a).length = sz) (zero : α) : ∀ (t : List α) (i j : Nat), i < t.length → j < sz → (cellsS vals t)[i * sz + j]? = (vals (t.getD i zero))[j]?
  | [], i, j, h, _ => by simp at h
  | r :: t, 0, j, _, hj => by
    rw [cellsS_cons, Nat.zero_mul, Nat.zero_add, List.getElem?_append_left (by rw [hl]; exact hj)]
    rfl
  | r :: t, i + 1, j, h, hj => by
    rw [cellsS_cons, List.getElem?_append_right (by rw [hl, Nat.add_mul]; omega), hl, show (i + 1) * sz + j - sz = i * sz + j by rw [Nat.add_mul]; omega, cellsS_at hl zero t i j (by simpa using h) hj]
    rfl

theorem cellsS_single (ho : ∀ a, ∀ u ∈ vals a, u.oneCell' = true) (t : List α) : ∀ u ∈ cellsS vals t, u.oneCell' = true := by
  intro u hu
  obtain ⟨l, hl, hu⟩ := List.mem_flatten.1 hu
  obtain ⟨r, _, rfl⟩ := List.mem_map.1 hl
  exact ho r u hu

theorem cellsS_take (hl : ∀ a, (vals a).length = sz) (u : List α) (o : Nat) : (cellsS vals u).take (o * sz) = cellsS vals (u.take o) := by
  have h := cellsS_append (vals := vals) (u.take o) (u.drop o)
  rw [List.take_append_drop] at h
  rw [h]
  by_cases ho : o ≤ u.length
  · rw [List.take_left' (by rw [cellsS_len hl, List.length_take, Nat.min_eq_left ho])]
  · have e1 : u.drop o = [] := List.drop_of_length_le (by omega)
    have e2 : u.take o = u := List.take_of_length_le (by omega)
    rw [e1, e2, cellsS_nil, List.append_nil, List.take_of_length_le (by rw [cellsS_len hl]; exact Nat.mul_le_mul_right _ (by omega))]

theorem cellsS_drop (hl : ∀ a, (vals a).length = sz) (u : List α) (o : Nat) : (cellsS vals u).drop (o * sz) = cellsS vals (u.drop o) := by
  have h := cellsS_append (vals := vals) (u.take o) (u.drop o)
  rw [List.take_append_drop] at h
  by_cases ho : o ≤ u.length
  · rw [h, List.drop_left' (by rw [cellsS_len hl, List.length_take, Nat.min_eq_left ho])]
  · have e1 : u.drop o = [] := List.drop_of_length_le (by omega)
    rw [e1, cellsS_nil, List.drop_of_length_le (by rw [cellsS_len hl]; exact Nat.mul_le_mul_right _ (by omega))]

/-- 'ms' laid over 'u' from place 'o' on. -/
def layS {β : Type} (u : List β) (o : Nat) (ms : List β) : List β := u.take o ++ (ms ++ u.drop (o + ms.length))

theorem layS_len {β : Type} {u : List β} {o : Nat} {ms : List β} (h : o + ms.length ≤ u.length) : (layS u o ms).length = u.length := by
  unfold layS
  simp
  omega

theorem layS_nil {β : Type} (u : List β) (o : Nat) : layS u o [] = u := by simp [layS]

theorem layS_cons {β : Type} (u : List β) (o : Nat) (x : β) (r : List β) (h : o < u.length) : layS (u.set o x) (o + 1) r = layS u o (x :: r) := by
  unfold layS
  have h1 : (u.set o x).take (o + 1) = u.take o ++ [x] := by
    rw [List.take_set, List.set_eq_take_append_cons_drop]
    rw [if_pos (by rw [List.length_take]; omega)]
    rw [List.take_take, List.drop_of_length_le (by rw [List.length_take]; omega), show min o (o + 1) = o by omega]
  have h2 : (u.set o x).drop (o + 1 + r.length) = u.drop (o + (x :: r).length) := by
    rw [List.drop_set, if_pos (by omega)]
    congr 1
    simp only [List.length_cons]
    omega
  rw [h1, h2]
  simp

theorem layS_one {β : Type} {u : List β} {i : Nat} (hi : i < u.length) (r : β) : layS u i [r] = u.set i r := by
  unfold layS
  rw [List.set_eq_take_append_cons_drop, if_pos hi]
  rfl

theorem cellsS_lay (hl : ∀ a, (vals a).length = sz) (u : List α) (o : Nat) (ms : List α) : layS (cellsS vals u) (o * sz) (cellsS vals ms) = cellsS vals (layS u o ms) := by
  unfold layS
  rw [cellsS_append, cellsS_append, cellsS_take hl, cellsS_len hl, ← Nat.add_mul, cellsS_drop hl]

/-- One put in at i. -/
def putS {β : Type} (t : List β) (i : Nat) (r : β) : List β := t.take i ++ ([r] ++ t.drop i)

theorem putS_len {β : Type} (t : List β) (i : Nat) (r : β) : (putS t i r).length = t.length + 1 := by
  unfold putS
  rw [List.length_append, List.length_append, List.length_singleton, List.length_take, List.length_drop]
  omega

theorem layS_grow {β : Type} (z : β) {t : List β} {i : Nat} (hi : i < t.length) (r : β) :
    layS (layS (t.take i ++ List.replicate (t.length + 1 - i) z) i [r]) (i + 1) (t.drop i) = putS t i r := by
  have h1 : (t.take i).length = i := by rw [List.length_take]; omega
  have e2 : (t.take i ++ List.replicate (t.length + 1 - i) z).drop (i + 1) = List.replicate (t.length - i) z := by
    rw [List.drop_append, List.drop_of_length_le (by omega), h1, show i + 1 - i = 1 by omega, List.drop_replicate, List.nil_append]
    congr 1
    omega
  have e3 : layS (t.take i ++ List.replicate (t.length + 1 - i) z) i [r] = (t.take i ++ [r]) ++ List.replicate (t.length - i) z := by
    unfold layS
    rw [List.take_left' h1, List.length_singleton, e2]
    simp
  have h4 : (t.take i ++ [r]).length = i + 1 := by rw [List.length_append, h1]; rfl
  have h5 : ((t.take i ++ [r]) ++ List.replicate (t.length - i) z).length ≤ i + 1 + (t.drop i).length := by
    rw [List.length_append, h4, List.length_replicate, List.length_drop]
    omega
  rw [e3]
  unfold layS putS
  rw [List.take_left' h4, List.drop_of_length_le h5]
  simp

theorem layS_room (hl : ∀ a, (vals a).length = sz) {t : List α} {i : Nat} (hi : i < t.length) (r : α) (z : List Value) (hz : z.length = sz) :
    layS (layS (cellsS vals t ++ z) ((i + 1) * sz) (cellsS vals (t.drop i))) (i * sz) (cellsS vals [r]) = cellsS vals (putS t i r) := by
  have hi' : i * sz + (t.length - i) * sz = t.length * sz := by rw [← Nat.add_mul]; congr 1; omega
  have e1 : (cellsS vals t ++ z).drop ((i + 1) * sz + (cellsS vals (t.drop i)).length) = [] := by
    apply List.drop_of_length_le
    rw [List.length_append, cellsS_len hl, cellsS_len hl, List.length_drop, hz, Nat.add_mul]
    omega
  have e2 : layS (cellsS vals t ++ z) ((i + 1) * sz) (cellsS vals (t.drop i)) = (cellsS vals t ++ z).take ((i + 1) * sz) ++ cellsS vals (t.drop i) := by
    unfold layS
    rw [e1, List.append_nil]
  have hle : (i + 1) * sz ≤ t.length * sz + sz := by rw [Nat.add_mul, Nat.one_mul]; have := Nat.mul_le_mul_right sz (show i ≤ t.length by omega); omega
  have hlt : ((cellsS vals t ++ z).take ((i + 1) * sz)).length = (i + 1) * sz := by
    rw [List.length_take, List.length_append, cellsS_len hl, hz]
    omega
  have e3 : ((cellsS vals t ++ z).take ((i + 1) * sz)).take (i * sz) = cellsS vals (t.take i) := by
    rw [List.take_take, show min (i * sz) ((i + 1) * sz) = i * sz by rw [Nat.add_mul]; omega, List.take_append_of_le_length (by rw [cellsS_len hl]; exact Nat.mul_le_mul_right _ (by omega)), cellsS_take hl]
  rw [e2]
  unfold layS putS
  rw [List.take_append_of_le_length (by rw [hlt]; exact Nat.mul_le_mul_right _ (by omega)), e3, List.drop_left' (by rw [hlt, cellsS_len hl, List.length_singleton, Nat.add_mul, Nat.one_mul])]
  rw [cellsS_append, cellsS_append]

end pure

theorem own_setCellsS {e size base g n cap : Nat} : ∀ (vs : List Value) (o : Nat) (w : World) (xs : List Value), w.ownsRow base e size (.slice (some ⟨g, 0, none⟩) n cap) n xs → o + vs.length ≤ xs.length →
    (w.setCells g o vs).ownsRow base e size (.slice (some ⟨g, 0, none⟩) n cap) n (layS xs o vs)
  | [], o, w, xs, h, _ => by rw [layS_nil]; exact h
  | v :: r, o, w, xs, h, hl => by
    rw [World.setCells, ← layS_cons xs o v r (by simp at hl; omega)]
    exact own_setCellsS r (o + 1) _ _ (h.stored o v).1 (by simp at hl ⊢; omega)

theorem below_setCellsS {B g : Nat} {w0 : World} (hB : B ≤ g) : ∀ (vs : List Value) (o : Nat) (w : World), Below B w0 w → Below B w0 (w.setCells g o vs)
  | [], _, _, h => h
  | v :: r, o, w, h => by
    rw [World.setCells]
    exact below_setCellsS hB r (o + 1) _ (h.setCell hB v)

section rows
variable {α : Type} {P : Program} {vals : α → List Value} {sz : Nat} {zero : α} {T S : TypeId} {Z : Value} {bytes : Nat}

/-- A slice of the call's own. -/
def OwnS (vals : α → List Value) (sz : Nat) (T : TypeId) (w : World) (base : Nat) (v : Value) (t : List α) : Prop := w.ownsRow base T sz v t.length (cellsS vals t)

/-- Its cells, whatever they hold. -/
def OwnCS (sz : Nat) (T : TypeId) (w : World) (base g n cap : Nat) (xs : List Value) : Prop := w.ownsRow base T sz (.slice (some ⟨g, 0, none⟩) n cap) n xs

/-- The cells that a slice reads. -/
def SrcS (vals : α → List Value) (w : World) (ad : Addr) (ms : List α) : Prop := ∀ j u, (cellsS vals ms)[j]? = some u → w.cell? (ad.add j) = some u

/-- The cells of one element. -/
def CellsAt (w : World) (b o : Nat) (vs : List Value) : Prop := ∀ j u, vs[j]? = some u → w.cell? ⟨b, o + j, none⟩ = some u

theorem CellsAt.later {w w' : World} {b o : Nat} {vs : List Value} (h : CellsAt w b o vs) (hb : Below w.heap.size w w') : CellsAt w' b o vs := by
  intro j u hu
  have := h j u hu
  rw [hb.cell (World.block_lt_of_cell? w _ this)]
  exact this

/-- A slice that may be read. -/
def RdS (vals : α → List Value) (sz : Nat) (zero : α) (w : World) (v : Value) (l : List α) : Prop :=
  ∃ a cap, v = .slice a l.length cap ∧ l.length ≤ cap ∧ cap ≤ maxLen ∧ (a = none → cap = 0) ∧
    (l = [] ∨ ∃ b off, a = some ⟨b, off, none⟩ ∧ b < w.heap.size ∧ ∀ i, i < l.length → CellsAt w b (off + i * sz) (vals (l.getD i zero)))

theorem RdS.later {w w' : World} {v : Value} {l : List α} (h : RdS vals sz zero w v l) (hb : Below w.heap.size w w') : RdS vals sz zero w' v l := by
  obtain ⟨a, cap, h1, h2, h3, h4, h5⟩ := h
  refine ⟨a, cap, h1, h2, h3, h4, ?_⟩
  rcases h5 with h5 | ⟨b, off, e, hlt, hc⟩
  · exact .inl h5
  · exact .inr ⟨b, off, e, Nat.lt_of_lt_of_le hlt hb.size, fun i hi => (hc i hi).later hb⟩

theorem rdS_nil (w : World) : RdS vals sz zero w (.slice none 0 0) [] := ⟨none, 0, rfl, by simp, by simp, fun _ => rfl, .inl rfl⟩

theorem RdS.row {w wr : World} {a : Option Addr} {n cap : Nat} {l : List α} (h : RdS vals sz zero w (.slice a n cap) l) (hb : Below w.heap.size w wr) (k : Nat) (hk : k < l.length) :
    ∃ b off, a = some ⟨b, off, none⟩ ∧ CellsAt wr b (off + k * sz) (vals (l.getD k zero)) := by
  obtain ⟨a', cap', e, _, _, _, h⟩ := h.later hb
  simp only [Value.slice.injEq] at e
  rcases h with h | ⟨b, off, e', _, hc⟩
  · rw [h] at hk; simp at hk
  · exact ⟨b, off, e.1.trans e', hc k hk⟩

theorem RdS.open' {w : World} {v : Value} {l : List α} (h : RdS vals sz zero w v l) : ∃ a cap, v = .slice a l.length cap ∧ l.length ≤ 9223372036854775807 := by
  obtain ⟨a, cap, e, h1, h2, _⟩ := h
  unfold maxLen at h2
  exact ⟨a, cap, e, by omega⟩

theorem OwnS.alloc {w : World} {base : Nat} {v : Value} {t : List α} (h : OwnS vals sz T w base v t) (o : Obj) : OwnS vals sz T (w.alloc o) base v t := World.ownsRow.alloc h o

theorem OwnS.drew {w : World} {base : Nat} {v : Value} {t : List α} (h : OwnS vals sz T w base v t) : OwnS vals sz T w.drew base v t := World.ownsRow.drew h

theorem ownS_nil (w : World) (base : Nat) : OwnS vals sz T w base (.slice none 0 0) [] := World.ownsRow_nil w base _ _

theorem ownS_made (w : World) : OwnS vals sz T (w.alloc (.cells #[] T)) w.heap.size (.slice (some ⟨w.heap.size, 0, none⟩) 0 0) [] :=
  World.ownsRow_made w #[] 0 (Nat.le_refl _) (by decide) (by simp)

theorem OwnS.later {w w' : World} {base : Nat} {v : Value} {t : List α} (h : OwnS vals sz T w base v t) (hb : Below w.heap.size w w') : OwnS vals sz T w' base v t := by
  refine ⟨h.1, ?_⟩
  rcases h.2 with h' | ⟨g, cap, cur, h1, h2, h3, h4⟩
  · exact .inl h'
  · exact .inr ⟨g, cap, cur, h1, h2, by rw [hb.block g (Array.getElem?_eq_some_iff.1 h3).1]; exact h3, h4⟩

theorem ownS_low {w : World} {base base' : Nat} {v : Value} {t : List α} (h : OwnS vals sz T w base v t) (hb : base' ≤ base) : OwnS vals sz T w base' v t := by
  refine ⟨h.1, ?_⟩
  rcases h.2 with h' | ⟨g, cap, cur, h1, h2, h3⟩
  · exact .inl h'
  · exact .inr ⟨g, cap, cur, h1, by omega, h3⟩

theorem ltS {i n j sz : Nat} (hi : i < n) (hj : j < sz) : i * sz + j < n * sz := by
  have := Nat.mul_le_mul_right sz (show i + 1 ≤ n by omega)
  rw [Nat.add_mul, Nat.one_mul] at this
  omega

theorem OwnS.rd (D : RowOK P vals sz zero T S Z bytes) {w : World} {base : Nat} {v : Value} {t : List α} (h : OwnS vals sz T w base v t) : RdS vals sz zero w v t := by
  rcases h with ⟨_, ⟨rfl, h0⟩ | ⟨g, cap, cur, rfl, hb, hg, hn, hc, hsz, htk⟩⟩
  · obtain rfl : t = [] := List.length_eq_zero_iff.1 h0
    exact rdS_nil w
  · refine ⟨some ⟨g, 0, none⟩, cap, rfl, hn, hc, (fun e => by cases e), .inr ⟨g, 0, rfl, (Array.getElem?_eq_some_iff.1 hg).1, fun i hi => ?_⟩⟩
    intro j u hu
    have hj : j < sz := by have := (List.getElem?_eq_some_iff.1 hu).1; rwa [D.len] at this
    rw [Nat.zero_add, cell_of_row w g (i * sz + j) cur _ (0, 0) hg]
    have h1 : cur.toList[i * sz + j]? = (cellsS vals t)[i * sz + j]? := by
      rw [← htk, List.getElem?_take, if_pos (ltS hi hj)]
    rw [← hu, ← cellsS_at D.len zero t i j hi hj, ← h1]
    simp

theorem OwnS.head {w : World} {base g n cap : Nat} {u : List α} (h : OwnS vals sz T w base (.slice (some ⟨g, 0, none⟩) n cap) u) : n = u.length ∧ base ≤ g ∧ g < w.heap.size ∧ n ≤ cap ∧ cap ≤ maxLen ∧ ∃ cur : Array Value, w.heap[g]? = some (.cells cur T (0, 0)) ∧ cur.size = cap * sz := by
  rcases h with ⟨_, ⟨h', _⟩ | ⟨g', cap', cur, h', hb, hg, hnc, hcm, hcs, _⟩⟩
  · simp at h'
  · simp only [Value.slice.injEq, Option.some.injEq, Addr.mk.injEq, and_true] at h'
    obtain ⟨rfl, h2, rfl⟩ := h'
    exact ⟨h2, hb, (Array.getElem?_eq_some_iff.1 hg).1, by omega, hcm, cur, hg, hcs⟩

theorem OwnS.cellAt (_D : RowOK P vals sz zero T S Z bytes) {w : World} {base g n cap : Nat} {u : List α} (h : OwnS vals sz T w base (.slice (some ⟨g, 0, none⟩) n cap) u) (j : Nat) (hj : j < u.length * sz) : w.cell? ⟨g, j, none⟩ = (cellsS vals u)[j]? := by
  have hn := h.head.1
  subst hn
  exact World.ownsRow.cellAt h j hj

theorem OwnS.frozenAt {w : World} {base g n cap : Nat} {u : List α} (h : OwnS vals sz T w base (.slice (some ⟨g, 0, none⟩) n cap) u) (j : Nat) : w.frozen? ⟨g, j, none⟩ = false := by
  have hn := h.head.1
  subst hn
  exact World.ownsRow.frozenAt h j

theorem OwnS.someAt (D : RowOK P vals sz zero T S Z bytes) {w : World} {base g n cap : Nat} {u : List α} (h : OwnS vals sz T w base (.slice (some ⟨g, 0, none⟩) n cap) u) (j : Nat) (hj : j < u.length * sz) : (w.cell? ⟨g, j, none⟩).isSome = true := by
  rw [h.cellAt D j hj, List.getElem?_eq_getElem (by rw [cellsS_len D.len]; exact hj)]
  rfl

/-- What an element of the call's own slice holds, at its cells. -/
theorem OwnS.row (D : RowOK P vals sz zero T S Z bytes) {w : World} {base g n cap : Nat} {u : List α} (h : OwnS vals sz T w base (.slice (some ⟨g, 0, none⟩) n cap) u) {k : Nat} (hk : k < u.length) : CellsAt w g (k * sz) (vals (u.getD k zero)) := by
  intro j x hx
  have hj : j < sz := by have := (List.getElem?_eq_some_iff.1 hx).1; rwa [D.len] at this
  rw [h.cellAt D _ (ltS hk hj), cellsS_at D.len zero u k j hk hj, hx]

/-- Elements laid over a slice of the call's own. -/
theorem ownS_lay (D : RowOK P vals sz zero T S Z bytes) {w : World} {base g n cap : Nat} {u : List α} (h : OwnS vals sz T w base (.slice (some ⟨g, 0, none⟩) n cap) u) (o : Nat) (ms : List α) (ho : o + ms.length ≤ u.length) :
    OwnS vals sz T (w.setCells g (o * sz) (cellsS vals ms)) base (.slice (some ⟨g, 0, none⟩) n cap) (layS u o ms) := by
  have hn := h.head.1
  subst hn
  unfold OwnS at h ⊢
  rw [layS_len ho, ← cellsS_lay D.len]
  exact own_setCellsS _ _ _ _ h (by rw [cellsS_len D.len, cellsS_len D.len, ← Nat.add_mul]; exact Nat.mul_le_mul_right _ ho)

/-- One stored, whole. -/
theorem ownS_set (D : RowOK P vals sz zero T S Z bytes) {w : World} {base g n cap : Nat} {u : List α} (h : OwnS vals sz T w base (.slice (some ⟨g, 0, none⟩) n cap) u) {i : Nat} (hi : i < u.length) (r : α) :
    OwnS vals sz T (w.setCells g (i * sz) (vals r)) base (.slice (some ⟨g, 0, none⟩) n cap) (u.set i r) := by
  have := ownS_lay D h i [r] (by simp; omega)
  rwa [cellsS_one, layS_one hi] at this

theorem OwnS.src (D : RowOK P vals sz zero T S Z bytes) {w : World} {base g n cap : Nat} {u : List α} (h : OwnS vals sz T w base (.slice (some ⟨g, 0, none⟩) n cap) u) (o k : Nat) (hk : o + k ≤ u.length) : SrcS vals w ⟨g, o * sz, none⟩ ((u.drop o).take k) := by
  intro j x hx
  have hj := (List.getElem?_eq_some_iff.1 hx).1
  rw [cellsS_len D.len, List.length_take, List.length_drop] at hj
  have h1 : min k (u.length - o) * sz ≤ k * sz := Nat.mul_le_mul_right _ (Nat.min_le_left _ _)
  have h2 : o * sz + k * sz ≤ u.length * sz := by rw [← Nat.add_mul]; exact Nat.mul_le_mul_right _ hk
  rw [Addr.add_lit, h.cellAt D _ (by omega), ← hx]
  rw [← cellsS_take D.len, ← cellsS_drop D.len, List.getElem?_take, if_pos (by omega), List.getElem?_drop]

/-- The cells of a slice, at its address. -/
theorem RdS.src (D : RowOK P vals sz zero T S Z bytes) {w : World} {ad : Addr} {n cap : Nat} {t : List α} (h : RdS vals sz zero w (.slice (some ad) n cap) t) : SrcS vals w ad t := by
  obtain ⟨a', cap', e, _, _, _, h⟩ := h
  simp only [Value.slice.injEq] at e
  intro j u hu
  have hj := (List.getElem?_eq_some_iff.1 hu).1
  rw [cellsS_len D.len] at hj
  rcases h with h | ⟨b, off, e', _, hc⟩
  · rw [h] at hj; simp at hj
  · have e2 := e.1.trans e'
    injection e2 with e2
    subst e2
    have hm : j % sz < sz := Nat.mod_lt _ D.pos
    have hd : j = j / sz * sz + j % sz := by have := Nat.div_add_mod j sz; rw [Nat.mul_comm] at this; omega
    have hq : j / sz < t.length := (Nat.div_lt_iff_lt_mul D.pos).2 hj
    rw [hd, cellsS_at D.len zero t (j / sz) (j % sz) hq hm] at hu
    have := hc (j / sz) hq (j % sz) u hu
    rw [Addr.add_lit, hd, ← Nat.add_assoc]
    exact this

theorem ownS_cut (D : RowOK P vals sz zero T S Z bytes) {w : World} {base g n cap : Nat} {u : List α} (h : OwnS vals sz T w base (.slice (some ⟨g, 0, none⟩) n cap) u) {i : Nat} (hi : i ≤ u.length) : OwnS vals sz T w base (.slice (some ⟨g, 0, none⟩) i cap) (u.take i) := by
  rcases h with ⟨h1, ⟨h', _⟩ | ⟨g', cap', cur, h', hb, hg, hnc, hcm, hcs, htk⟩⟩
  · simp at h'
  · simp only [Value.slice.injEq, Option.some.injEq, Addr.mk.injEq, and_true] at h'
    obtain ⟨rfl, h2, rfl⟩ := h'
    have hl : (u.take i).length = i := by rw [List.length_take]; omega
    refine ⟨by rw [cellsS_len D.len], .inr ⟨g, cap, cur, by rw [hl], hb, hg, by omega, hcm, hcs, ?_⟩⟩
    rw [hl, ← cellsS_take D.len, ← htk, List.take_take, show min (i * sz) (u.length * sz) = i * sz from Nat.min_eq_left (Nat.mul_le_mul_right _ hi)]

/-- 'out = append(out, src...)', out nil or of the call's own, src whatever. -/
theorem wpList_append_S (D : RowOK P vals sz zero T S Z bytes) {w : World} {ops : Array Oper} {rest : List Oper} {o : Oper} {a : Act} {Q : Exit → Act → World → Prop}
    (hgd : o.guard = none) (s x : Operand) (ho : o.op = .call { callee := .builtin .append, args := #[s, x], argTypes := #[S, S] })
    (base : Nat) (v : Value) (t : List α) (hs : a.eval s = v) (hown : OwnS vals sz T w base v t)
    (ao : Option Addr) (m c : Nat) (ms : List α) (hx : a.eval x = .slice ao m c) (hm : m = ms.length) (hnone : ao = none → c = 0 ∧ ms = [])
    (hsome : ∀ ad, ao = some ad → SrcS vals w ad ms)
    (hlen : t.length + ms.length < 4294967296) (hbase : base ≤ w.heap.size)
    (h : ∀ v' w', OwnS vals sz T w' base v' (t ++ ms) → Below base w w' → wpList P ops Q rest (a.put o.dst v') w') :
    wpList P ops Q (o :: rest) a w := by
  obtain ⟨i, hi, hz, hsize, hby⟩ := info_parts D.info
  cases ao with
  | none =>
    obtain ⟨rfl, rfl⟩ := hnone rfl
    simp only [List.length_nil] at hm
    subst hm
    exact wpList_append_own_none hgd s x S ho base T i sz D.under hi v t.length (cellsS vals t) hs hown hx (h v w (by simpa using hown) (Below.refl _ _))
  | some ad =>
    subst hm
    have hzl : Z.cells.size = sz := by have := congrArg List.length D.zvals; rwa [Array.length_toList, D.len] at this
    refine wpList_append_own _ hgd s x S ho base T i _ sz bytes D.under hi hz hsize hby hzl D.pos v t.length (cellsS vals t) hs hown ad ms.length c (cellsS vals ms) hx (cellsS_len D.len ms) (hsome ad rfl) (cellsS_single D.one ms)
      (by unfold maxLen; omega) (Nat.le_trans (Nat.mul_le_mul (show t.length + ms.length ≤ 4294967296 by omega) D.fits) (by decide)) hbase ?_
    intro v' w' hown' hgrow _
    refine h v' w' ?_ ((Below.refl base w).grown hgrow hbase (fun k hk => (World.ownsRow.lt hown k hk).1))
    unfold OwnS
    rw [cellsS_append, List.length_append]
    exact hown'

/-- A new block of one element. -/
theorem srcS_new {w : World} {r : α} {cs : Array Value} (hcs : cs.toList = vals r) {e : TypeId} {B : Nat} (hB : B = w.heap.size) : ∀ ad, some (⟨B, 0, none⟩ : Addr) = some ad → SrcS vals (w.alloc (.cells cs e)) ad [r] := by
  intro ad had j u hu
  subst hB
  obtain rfl := Option.some.inj had
  rw [cellsS_one, ← hcs] at hu
  rw [Addr.add_lit, Nat.zero_add, World.cell?_alloc_at _ _ _ _ rfl, ← hu]
  simp

theorem run_copy_S (D : RowOK P vals sz zero T S Z bytes) {w : World} (base g n cap : Nat) (xs : List Value) (h : OwnCS sz T w base g n cap xs) (o dl dc : Nat) (ad : Addr) (sl sc : Nat) (ms : List α) (hn : ms.length = Nat.min sl dl) (hsrc : SrcS vals w ad ms) (ho : o + ms.length ≤ n) (ty : TypeId) :
    (Builtin.copy_ #[S, S] ty #[.slice (some ⟨g, o * sz, none⟩) dl dc, .slice (some ad) sl sc]).run P w = .ok (goInt ms.length) (w.setCells g (o * sz) (cellsS vals ms)) := by
  obtain ⟨i, hi, hz, hsize, hby⟩ := info_parts D.info
  have hl := run_loadCells_list (P := P) w ad (cellsS vals ms) hsrc
  rw [cellsS_len D.len] at hl
  have hxl : xs.length = n * sz := h.1
  have hle : o * sz + ms.length * sz ≤ n * sz := by rw [← Nat.add_mul]; exact Nat.mul_le_mul_right _ ho
  have hst := run_storeCells_cells (P := P) g (o * sz) (cellsS vals ms) 0 w (fun j hj => by
    rw [cellsS_len D.len] at hj
    rw [Nat.add_zero, World.ownsRow.cellAt h _ (by omega), List.getElem?_eq_getElem (by omega)]
    rfl) (fun j _ => World.ownsRow.frozenAt h _) (cellsS_single D.one ms)
  rw [Nat.add_zero] at hst
  simp [Builtin.copy_, run_underlying D.under, Builtin.lenOf, Builtin.firstCells, sizeOf, typeInfo, hi, hsize, ← hn, hl, hst]

/-- 'copy(dst, src)', dst within a slice of the call's own: the cells. -/
theorem wp_copy_C (D : RowOK P vals sz zero T S Z bytes) {w : World} {o : Oper} {a : Act} {K : Act → World → Prop} {Q : Exit → Act → World → Prop} (d s : Operand)
    (ho : o.op = .call { callee := .builtin .copy, args := #[d, s], argTypes := #[S, S] })
    (base g n cap : Nat) (xs : List Value) (h : OwnCS sz T w base g n cap xs) (p dl dc : Nat) (ad : Addr) (sl sc : Nat)
    (hd : a.eval d = .slice (some ⟨g, p * sz, none⟩) dl dc) (hs : a.eval s = .slice (some ad) sl sc) (ms : List α) (hn : ms.length = Nat.min sl dl) (hsrc : SrcS vals w ad ms) (hp : p + ms.length ≤ n)
    (hK : ∀ w', OwnCS sz T w' base g n cap (layS xs (p * sz) (cellsS vals ms)) → Below g w w' → (∀ x : Addr, x.block ≠ g → w'.cell? x = w.cell? x) → K (a.put o.dst (goInt ms.length)) w') : o.wp P a w K Q := by
  have hr := run_copy_S D base g n cap xs h p dl dc ad sl sc ms hn hsrc hp o.type
  have hxl : xs.length = n * sz := h.1
  unfold Oper.wp execOp
  simp only [ho, resolve, invoke, builtin, Sem.run_bind, Sem.run_pure, Result.andThen_ok, List.map_toArray, List.map_cons, List.map_nil, hd, hs, hr]
  refine hK _ (own_setCellsS _ _ _ _ h (by rw [cellsS_len D.len, hxl, ← Nat.add_mul]; exact Nat.mul_le_mul_right _ hp)) (below_setCellsS (Nat.le_refl _) _ _ _ (Below.refl _ _)) (fun x hx => ?_)
  exact World.cell?_setCells_out g _ _ _ _ (fun hb _ => absurd hb hx)

theorem wpList_copy_C (D : RowOK P vals sz zero T S Z bytes) {w : World} {ops : Array Oper} {rest : List Oper} {o : Oper} {a : Act} {Q : Exit → Act → World → Prop} (hgd : o.guard = none) (d s : Operand)
    (ho : o.op = .call { callee := .builtin .copy, args := #[d, s], argTypes := #[S, S] })
    (base g n cap : Nat) (xs : List Value) (h : OwnCS sz T w base g n cap xs) (p dl dc : Nat) (ad : Addr) (sl sc : Nat)
    (hd : a.eval d = .slice (some ⟨g, p * sz, none⟩) dl dc) (hs : a.eval s = .slice (some ad) sl sc) (ms : List α) (hn : ms.length = Nat.min sl dl) (hsrc : SrcS vals w ad ms) (hp : p + ms.length ≤ n)
    (hK : ∀ w', OwnCS sz T w' base g n cap (layS xs (p * sz) (cellsS vals ms)) → Below g w w' → (∀ x : Addr, x.block ≠ g → w'.cell? x = w.cell? x) → wpList P ops Q rest (a.put o.dst (goInt ms.length)) w') : wpList P ops Q (o :: rest) a w :=
  wpList_plain hgd fun _ hK' => wp_copy_C D d s ho base g n cap xs h p dl dc ad sl sc hd hs ms hn hsrc hp fun w' h1 h2 h3 => hK' _ _ (hK w' h1 h2 h3)

theorem step_copy_C (D : RowOK P vals sz zero T S Z bytes) {w : World} {ops : Array Oper} {o : Oper} {a : Act} {K : Act → World → Prop} {Q : Exit → Act → World → Prop} {E : Prop} (hgd : o.guard = none) (d s : Operand)
    (ho : o.op = .call { callee := .builtin .copy, args := #[d, s], argTypes := #[S, S] })
    (base g n cap : Nat) (xs : List Value) (h : OwnCS sz T w base g n cap xs) (p dl dc : Nat) (ad : Addr) (sl sc : Nat)
    (hd : a.eval d = .slice (some ⟨g, p * sz, none⟩) dl dc) (hs : a.eval s = .slice (some ad) sl sc) (ms : List α) (hn : ms.length = Nat.min sl dl) (hsrc : SrcS vals w ad ms) (hp : p + ms.length ≤ n)
    (hK : ∀ w', OwnCS sz T w' base g n cap (layS xs (p * sz) (cellsS vals ms)) → Below g w w' → (∀ x : Addr, x.block ≠ g → w'.cell? x = w.cell? x) → K (a.put o.dst (goInt ms.length)) w') :
    if Region.wanted o (yielded ops a.tmps) = true then Oper.wp P o a w K Q else E := by
  have hw : Region.wanted o (yielded ops a.tmps) = true := by simp [Region.wanted, hgd]
  rw [if_pos hw]
  exact wp_copy_C D d s ho base g n cap xs h p dl dc ad sl sc hd hs ms hn hsrc hp hK

theorem OwnCS.drew {w : World} {base g n cap : Nat} {xs : List Value} (h : OwnCS sz T w base g n cap xs) : OwnCS sz T w.drew base g n cap xs := World.ownsRow.drew h

theorem OwnS.raw {w : World} {base g n cap : Nat} {t : List α} (h : OwnS vals sz T w base (.slice (some ⟨g, 0, none⟩) n cap) t) : OwnCS sz T w base g n cap (cellsS vals t) := by
  have hn := h.head.1
  subst hn
  exact h

theorem OwnCS.rows {w : World} {base g cap n : Nat} {t : List α} (h : OwnCS sz T w base g n cap (cellsS vals t)) (hn : n = t.length) : OwnS vals sz T w base (.slice (some ⟨g, 0, none⟩) n cap) t := by
  subst hn
  exact h

/-- The row behind the last one, taken in. -/
theorem ownS_wider {w : World} {base g cap : Nat} {t : List α} (h : OwnS vals sz T w base (.slice (some ⟨g, 0, none⟩) t.length cap) t) (hc : t.length < cap) : ∃ z : List Value, z.length = sz ∧ OwnCS sz T w base g (t.length + 1) cap (cellsS vals t ++ z) := by
  rcases h with ⟨h0, ⟨h', _⟩ | ⟨g', cap', cur, h', hb, hg, hnc, hcm, hcs, htk⟩⟩
  · simp at h'
  · simp only [Value.slice.injEq, Option.some.injEq, Addr.mk.injEq, and_true, true_and] at h'
    obtain ⟨rfl, rfl⟩ := h'
    have hlen : cur.toList.length = cap * sz := by rw [Array.length_toList]; exact hcs
    have hm : t.length * sz + sz ≤ cap * sz := by have := Nat.mul_le_mul_right sz (show t.length + 1 ≤ cap by omega); rwa [Nat.add_mul, Nat.one_mul] at this
    have e : cur.toList.take ((t.length + 1) * sz) = cellsS vals t ++ (cur.toList.drop (t.length * sz)).take sz := by
      rw [← htk, show (t.length + 1) * sz = t.length * sz + sz by rw [Nat.add_mul, Nat.one_mul], List.take_add]
    refine ⟨(cur.toList.drop (t.length * sz)).take sz, by rw [List.length_take, List.length_drop, hlen]; omega, ?_, .inr ⟨g, cap, cur, rfl, hb, hg, by omega, hcm, hcs, e⟩⟩
    rw [← e, List.length_take, hlen, Nat.add_mul, Nat.one_mul]
    omega

theorem zeroS (D : RowOK P vals sz zero T S Z bytes) (n : Nat) : (Builtin.zeroCells Z.cells n).toList = cellsS vals (List.replicate n zero) := by
  have hzl : Z.cells.size = sz := by have := congrArg List.length D.zvals; rwa [Array.length_toList, D.len] at this
  apply List.ext_getElem?
  intro j
  by_cases hj : j < n * sz
  · have hm : j % sz < sz := Nat.mod_lt _ D.pos
    have hd : j = j / sz * sz + j % sz := by have := Nat.div_add_mod j sz; rw [Nat.mul_comm] at this; omega
    have hq : j / sz < n := (Nat.div_lt_iff_lt_mul D.pos).2 hj
    have h1 : (cellsS vals (List.replicate n zero))[j]? = (vals zero)[j % sz]? := by
      conv => lhs; rw [hd]
      rw [cellsS_at D.len zero _ _ _ (by rw [List.length_replicate]; exact hq) hm]
      simp [List.getD, hq]
    rw [h1, ← D.zvals]
    simp [Builtin.zeroCells, hzl, hj, hm]
  · rw [List.getElem?_eq_none (by simp [Builtin.zeroCells, hzl]; omega), List.getElem?_eq_none (by rw [cellsS_len D.len, List.length_replicate]; omega)]

/-- 'append(s[:i], make([]E, k)...)' where there is no room for k more. -/
theorem wpList_append_zero_S (D : RowOK P vals sz zero T S Z bytes) {TI : TypeId} (hI : P.underlying TI = some (.int .i64)) {w : World} {ops : Array Oper} {rest : List Oper} {o : Oper} {a : Act} {Q : Exit → Act → World → Prop} (hgd : o.guard = none) (s x : Operand)
    (ho : o.op = .call { callee := .builtin .append, args := #[s, x], argTypes := #[S, TI] })
    (base g n cap : Nat) (u : List α) (h : OwnS vals sz T w base (.slice (some ⟨g, 0, none⟩) n cap) u) (i k L : Nat) (K : Int) (hs : a.eval s = .slice (some ⟨g, 0, none⟩) i cap) (hx : a.eval x = .int .i64 K) (hKk : K = (k : Int)) (hL : L = i + k) (hi : i ≤ u.length) (h0 : 0 < k) (hno : cap < i + k) (hsm : i + k ≤ 4294967)
    (hK : ∀ w' G, OwnS vals sz T w' w.heap.size (.slice (some ⟨w.heap.size, 0, none⟩) L G) (u.take i ++ List.replicate k zero) → L ≤ G → G ≤ 9223372036854775807 → Below w.heap.size w w' → wpList P ops Q rest (a.put o.dst (.slice (some ⟨w.heap.size, 0, none⟩) L G)) w') :
    wpList P ops Q (o :: rest) a w := by
  obtain ⟨i0, hi0, hz0, hzs, hzb⟩ := info_parts D.info
  subst hKk
  subst hL
  have hzc : Z.cells.size = sz := by have := congrArg List.length D.zvals; rwa [Array.length_toList, D.len] at this
  have hold : (Builtin.firstCells i0.size i (.slice (some ⟨g, 0, none⟩) i cap)).run P w.drew = .ok (cellsS vals (u.take i)).toArray w.drew := by
    rw [hzs]
    refine run_firstCells_some w.drew sz i ⟨g, 0, none⟩ i cap (cellsS vals (u.take i)) (by rw [cellsS_len D.len, List.length_take, Nat.min_eq_left hi]) (fun j v hj => ?_)
    have := (h.src D 0 i (by omega)) j v (by simpa using hj)
    rw [Nat.zero_mul] at this
    exact this
  have hbig : (i + k) * bytes ≤ 4294967 * 4096 := Nat.mul_le_mul hsm D.fits
  have hbig2 : k * bytes ≤ 4294967 * 4096 := Nat.mul_le_mul (by omega) D.fits
  have hr := Lib.run_append_grow_zeros w S TI o.type T i0 _ .i64 .i64 D.under hI hi0 hz0 (some ⟨g, 0, none⟩) i cap (cellsS vals (u.take i)) hold k h0 (by rw [hzs]; exact D.pos) hno (by omega) (by rw [hzb]; omega) (by rw [hzb]; exact growslice_fits hno (by omega))
  have hG := grownCap_ge w (i + k) cap T
  have hGm := grownCap_le_maxLen w (i + k) cap T (by unfold maxLen; omega)
  refine Lib.wpList_append_run w hgd s x _ _ ho _ _ hs hx _ _ hr ?_
  obtain ⟨G, hG'⟩ : ∃ G, G = grownCap w (i + k) cap T := ⟨_, rfl⟩
  rw [← hG'] at hG hGm ⊢
  have hb : Below w.heap.size w (w.drew.alloc (.cells ((cellsS vals (u.take i)).toArray ++ Builtin.zeroCells Z.cells k ++ Builtin.zeroCells Z.cells (G - (i + k))) T)) := ((Below.refl _ _).drew).alloc (by simp) _
  refine hK _ G ?_ hG (by unfold maxLen at hGm; omega) hb
  have hl1 : (u.take i ++ List.replicate k zero).length = i + k := by rw [List.length_append, List.length_take, List.length_replicate]; omega
  have hzl : ∀ m, (Builtin.zeroCells Z.cells m).size = m * sz := fun m => by simp [Builtin.zeroCells, hzc]
  have hsum : i * sz + k * sz + (G - (i + k)) * sz = G * sz := by rw [← Nat.add_mul, ← Nat.add_mul]; congr 1; omega
  refine ⟨by rw [cellsS_len D.len], .inr ⟨w.heap.size, G, _, by rw [hl1], Nat.le_refl _, heap_alloc_new w.drew _, by rw [hl1]; exact hG, hGm, ?_, ?_⟩⟩
  · rw [Array.size_append, Array.size_append, hzl, hzl, List.size_toArray, cellsS_len D.len, List.length_take, Nat.min_eq_left hi]
    omega
  · have e0 : (cellsS vals (u.take i)).toArray.toList = cellsS vals (u.take i) := rfl
    rw [hl1, Array.toList_append, Array.toList_append, zeroS D, cellsS_append, e0]
    have e : (cellsS vals (u.take i)).length + (cellsS vals (List.replicate k zero)).length = (i + k) * sz := by rw [cellsS_len D.len, cellsS_len D.len, List.length_take, List.length_replicate, Nat.min_eq_left hi, Nat.add_mul]
    rw [List.take_append_of_le_length (by rw [List.length_append]; omega)]
    rw [List.take_of_length_le (by rw [List.length_append]; omega)]

theorem layS_front {β : Type} {A B : List β} {o : Nat} {ms : List β} (h : o + ms.length ≤ A.length) : layS (A ++ B) o ms = layS A o ms ++ B := by
  unfold layS
  rw [List.take_append_of_le_length (by omega), List.drop_append_of_le_length h]
  simp

theorem layS_take {β : Type} {u : List β} {o N : Nat} {ms : List β} (h : o + ms.length ≤ N) (hN : N ≤ u.length) : (layS u o ms).take N = layS (u.take N) o ms := by
  have hl : (u.take N).length = N := by rw [List.length_take]; omega
  conv => lhs; rw [← List.take_append_drop N u]
  rw [layS_front (by rw [hl]; exact h), List.take_left' (by rw [layS_len (by rw [hl]; exact h), hl])]

/-- 'append(s[:i], src...)' where what is appended lies within s. -/
theorem run_append_in_S (D : RowOK P vals sz zero T S Z bytes) {w : World} (base g n cap : Nat) (t : List α) (h : OwnS vals sz T w base (.slice (some ⟨g, 0, none⟩) n cap) t) (i m c : Nat) (ad : Addr) (ms : List α) (hm : m = ms.length) (hsrc : SrcS vals w ad ms) (hin : i + ms.length ≤ n) (ty : TypeId) :
    ∃ w', (Builtin.append_ #[S, S] ty #[.slice (some ⟨g, 0, none⟩) i cap, .slice (some ad) m c]).run P w = .ok (.slice (some ⟨g, 0, none⟩) (i + m) cap) w' ∧ OwnS vals sz T w' base (.slice (some ⟨g, 0, none⟩) n cap) (layS t i ms) ∧ w.grownBy w' (some g) := by
  obtain ⟨i0, hi0, hz, hsize, hby⟩ := info_parts D.info
  have hn := h.head.1
  subst hn
  subst hm
  rcases h with ⟨h0, ⟨h', _⟩ | ⟨g', cap', cur, h', hb, hg, hnc, hcm, hcs, htk⟩⟩
  · simp at h'
  · simp only [Value.slice.injEq, Option.some.injEq, Addr.mk.injEq, and_true, true_and] at h'
    obtain ⟨rfl, rfl⟩ := h'
    have hlm := cellsS_len D.len ms
    have hle : i * sz + ms.length * sz ≤ t.length * sz := by rw [← Nat.add_mul]; exact Nat.mul_le_mul_right _ hin
    have hle2 : t.length * sz ≤ cap * sz := Nat.mul_le_mul_right _ hnc
    have hr := run_append_room (P := P) w S ty T i0 D.under hi0 g i cap cur hg ad ms.length c (cellsS vals ms) (by rw [hlm, hsize]) hsrc (cellsS_single D.one ms) (by omega) (by rw [hsize, hlm, hcs]; omega)
    rw [hsize, hlm] at hr
    refine ⟨_, hr, ⟨by rw [cellsS_len D.len], .inr ⟨g, cap, _, by rw [layS_len hin], hb, setRow_heap w g cur _ T _ hg, by rw [layS_len hin]; exact hnc, hcm, ?_, ?_⟩⟩, ⟨rfl, rfl, rfl, by simp, fun k _ hk => setRow_other w g k _ (fun e => hk (by simp [e]))⟩⟩
    · simp only [List.size_toArray, List.length_append, List.length_take, List.length_drop, Array.length_toList, hlm, hcs]
      omega
    · rw [layS_len hin, ← cellsS_lay D.len, ← htk, ← layS_take (by rw [hlm]; exact hle) (by show _ ≤ cur.size; rw [hcs]; exact hle2)]
      unfold layS
      rw [hlm, List.append_assoc]

theorem wp_append_in_S (D : RowOK P vals sz zero T S Z bytes) {w : World} {o : Oper} {a : Act} {K : Act → World → Prop} {Q : Exit → Act → World → Prop} (s x : Operand)
    (ho : o.op = .call { callee := .builtin .append, args := #[s, x], argTypes := #[S, S] })
    (base g n cap : Nat) (t : List α) (h : OwnS vals sz T w base (.slice (some ⟨g, 0, none⟩) n cap) t) (i m c : Nat) (ad : Addr) (hs : a.eval s = .slice (some ⟨g, 0, none⟩) i cap) (hx : a.eval x = .slice (some ad) m c) (ms : List α) (hm : m = ms.length) (hsrc : SrcS vals w ad ms) (hin : i + ms.length ≤ n)
    (hK : ∀ w', OwnS vals sz T w' base (.slice (some ⟨g, 0, none⟩) n cap) (layS t i ms) → Below g w w' → (∀ x : Addr, x.block < w.heap.size → x.block ≠ g → w'.cell? x = w.cell? x) → K (a.put o.dst (.slice (some ⟨g, 0, none⟩) (i + m) cap)) w') : o.wp P a w K Q := by
  obtain ⟨w', hr, h1, h2⟩ := run_append_in_S D base g n cap t h i m c ad ms hm hsrc hin o.type
  have hgw := h.head.2.2.1
  unfold Oper.wp execOp
  simp only [ho, resolve, invoke, builtin, Sem.run_bind, Sem.run_pure, Result.andThen_ok, List.map_toArray, List.map_cons, List.map_nil, hs, hx, hr]
  refine hK _ h1 ((Below.refl g w).grown h2 (by omega) (fun k hk => by obtain rfl := Option.some.inj hk; exact Nat.le_refl _)) (fun x hl hx => World.cell?_of_block (h2.block x.block hl (fun e => hx (Option.some.inj e))))

theorem wpList_append_in_S (D : RowOK P vals sz zero T S Z bytes) {w : World} {ops : Array Oper} {rest : List Oper} {o : Oper} {a : Act} {Q : Exit → Act → World → Prop} (hgd : o.guard = none) (s x : Operand)
    (ho : o.op = .call { callee := .builtin .append, args := #[s, x], argTypes := #[S, S] })
    (base g n cap : Nat) (t : List α) (h : OwnS vals sz T w base (.slice (some ⟨g, 0, none⟩) n cap) t) (i m c : Nat) (ad : Addr) (hs : a.eval s = .slice (some ⟨g, 0, none⟩) i cap) (hx : a.eval x = .slice (some ad) m c) (ms : List α) (hm : m = ms.length) (hsrc : SrcS vals w ad ms) (hin : i + ms.length ≤ n)
    (hK : ∀ w', OwnS vals sz T w' base (.slice (some ⟨g, 0, none⟩) n cap) (layS t i ms) → Below g w w' → (∀ x : Addr, x.block < w.heap.size → x.block ≠ g → w'.cell? x = w.cell? x) → wpList P ops Q rest (a.put o.dst (.slice (some ⟨g, 0, none⟩) (i + m) cap)) w') : wpList P ops Q (o :: rest) a w :=
  wpList_plain hgd fun _ hK' => wp_append_in_S D s x ho base g n cap t h i m c ad hs hx ms hm hsrc hin fun w' h1 h2 h3 => hK' _ _ (hK w' h1 h2 h3)

theorem step_append_in_S (D : RowOK P vals sz zero T S Z bytes) {w : World} {ops : Array Oper} {o : Oper} {a : Act} {K : Act → World → Prop} {Q : Exit → Act → World → Prop} {E : Prop} (hgd : o.guard = none) (s x : Operand)
    (ho : o.op = .call { callee := .builtin .append, args := #[s, x], argTypes := #[S, S] })
    (base g n cap : Nat) (t : List α) (h : OwnS vals sz T w base (.slice (some ⟨g, 0, none⟩) n cap) t) (i m c : Nat) (ad : Addr) (hs : a.eval s = .slice (some ⟨g, 0, none⟩) i cap) (hx : a.eval x = .slice (some ad) m c) (ms : List α) (hm : m = ms.length) (hsrc : SrcS vals w ad ms) (hin : i + ms.length ≤ n)
    (hK : ∀ w', OwnS vals sz T w' base (.slice (some ⟨g, 0, none⟩) n cap) (layS t i ms) → Below g w w' → (∀ x : Addr, x.block < w.heap.size → x.block ≠ g → w'.cell? x = w.cell? x) → K (a.put o.dst (.slice (some ⟨g, 0, none⟩) (i + m) cap)) w') :
    if Region.wanted o (yielded ops a.tmps) = true then Oper.wp P o a w K Q else E := by
  have hw : Region.wanted o (yielded ops a.tmps) = true := by simp [Region.wanted, hgd]
  rw [if_pos hw]
  exact wp_append_in_S D s x ho base g n cap t h i m c ad hs hx ms hm hsrc hin hK

/-- 'clear(s[p:])' of a slice of the call's own. -/
theorem wpList_clear_S (D : RowOK P vals sz zero T S Z bytes) {w : World} {ops : Array Oper} {rest : List Oper} {o : Oper} {a : Act} {Q : Exit → Act → World → Prop} (hgd : o.guard = none) (x : Operand)
    (ho : o.op = .call { callee := .builtin .clear, args := #[x], argTypes := #[S] })
    (base g n cap : Nat) (u : List α) (h : OwnS vals sz T w base (.slice (some ⟨g, 0, none⟩) n cap) u) (p : Nat) (ad : Option Addr) (m c : Nat) (hx : a.eval x = .slice ad m c) (hpos : 0 < m → ad = some ⟨g, p * sz, none⟩) (hm : p + m = u.length)
    (hK : ∀ w', OwnS vals sz T w' base (.slice (some ⟨g, 0, none⟩) n cap) (u.take p ++ List.replicate m zero) → Below g w w' → wpList P ops Q rest (a.put o.dst (.tuple #[])) w') : wpList P ops Q (o :: rest) a w := by
  refine wpList_plain hgd fun K hK' => ?_
  rcases Nat.eq_zero_or_pos m with rfl | hp
  · have hrun : (Builtin.clear_ #[S] o.type #[.slice ad 0 c]).run P w = .ok (.tuple #[]) w := by
      cases ad <;> simp [Builtin.clear_, run_underlying D.under]
    unfold Oper.wp
    simp [execOp, ho, resolve, invoke, builtin, hx, hrun, Result.andThen]
    refine hK' _ _ (hK w ?_ (Below.refl _ _))
    rw [List.take_of_length_le (by omega)]
    simpa using h
  · obtain rfl := hpos hp
    obtain ⟨i0, hi0, hz0, hzs, hzb⟩ := info_parts D.info
    have hle : p * sz + m * sz = u.length * sz := by rw [← Nat.add_mul, hm]
    have hst := run_storeCells_cells (P := P) g (p * sz) (cellsS vals (List.replicate m zero)) 0 w (fun j hj => by
      rw [cellsS_len D.len, List.length_replicate] at hj
      exact h.someAt D _ (by omega)) (fun j _ => h.frozenAt _) (cellsS_single D.one _)
    rw [Nat.add_zero, ← zeroS D] at hst
    have hrun : (Builtin.clear_ #[S] o.type #[.slice (some ⟨g, p * sz, none⟩) m c]).run P w = .ok (.tuple #[]) (w.setCells g (p * sz) (cellsS vals (List.replicate m zero))) := by
      obtain ⟨m', rfl⟩ : ∃ m', m = m' + 1 := ⟨m - 1, by omega⟩
      rw [← zeroS D]
      simp [Builtin.clear_, run_underlying D.under, zeroValue, typeInfo, hi0, hz0, hst]
    unfold Oper.wp
    simp [execOp, ho, resolve, invoke, builtin, hx, hrun, Result.andThen]
    refine hK' _ _ (hK _ ?_ (below_setCellsS (Nat.le_refl _) _ _ _ (Below.refl _ _)))
    have := ownS_lay D h p (List.replicate m zero) (by rw [List.length_replicate]; omega)
    have e : layS u p (List.replicate m zero) = u.take p ++ List.replicate m zero := by
      unfold layS
      rw [List.length_replicate, List.drop_of_length_le (by omega), List.append_nil]
    rwa [e] at this

/-- Block B holds one element, and nothing else. -/
def LoneS (vals : α → List Value) (T : TypeId) (w : World) (B : Nat) (r : α) : Prop := ∃ cs : Array Value, cs.toList = vals r ∧ w.heap[B]? = some (.cells cs T (0, 0))

theorem LoneS.later {w w' : World} {B : Nat} {r : α} (h : LoneS vals T w B r) (hb : Below w.heap.size w w') : LoneS vals T w' B r := by
  obtain ⟨cs, h1, h2⟩ := h
  exact ⟨cs, h1, (hb.block B (Array.getElem?_eq_some_iff.1 h2).1).trans h2⟩

theorem LoneS.lt {w : World} {B : Nat} {r : α} (h : LoneS vals T w B r) : B < w.heap.size := by
  obtain ⟨cs, h1, h2⟩ := h
  exact (Array.getElem?_eq_some_iff.1 h2).1

theorem LoneS.src {w : World} {B : Nat} {r : α} (h : LoneS vals T w B r) : SrcS vals w ⟨B, 0, none⟩ [r] := by
  obtain ⟨cs, h1, h2⟩ := h
  intro j u hu
  rw [cellsS_one, ← h1] at hu
  rw [Addr.add_lit, Nat.zero_add, cell_of_row w B j _ _ (0, 0) h2, ← hu]
  simp

theorem LoneS.free {w : World} {B : Nat} {r : α} (h : LoneS vals T w B r) (j : Nat) : w.frozen? ⟨B, j, none⟩ = false := by
  obtain ⟨cs, h1, h2⟩ := h
  exact frozen_of_row w B j _ _ h2

theorem LoneS.shape (hl : ∀ a, (vals a).length = sz) {w : World} {B : Nat} {r : α} (h : LoneS vals T w B r) : w.shape? B = some (T, sz) := by
  obtain ⟨cs, h1, h2⟩ := h
  have hs : cs.size = sz := by rw [← Array.length_toList, h1, hl]
  simp only [World.shape?, h2, hs]

theorem ownS_shape {w : World} {g : Nat} {cur : Array Value} (h : w.heap[g]? = some (.cells cur T (0, 0))) : w.shape? g = some (T, cur.size) := by
  simp only [World.shape?, h]

theorem loneS_new {w : World} {r : α} {cs : Array Value} (hcs : cs.toList = vals r) {B : Nat} (hB : B = w.heap.size) : LoneS vals T (w.alloc (.cells cs T)) B r := by
  subst hB
  exact ⟨cs, hcs, heap_alloc_new w _⟩

theorem sizeS (D : RowOK P vals sz zero T S Z bytes) (w : World) : (Go.sizeOf T).run P w = .ok sz w := by
  obtain ⟨i, hi, hz, hsize, hby⟩ := info_parts D.info
  simp [sizeOf, typeInfo, hi, hsize]

theorem eqlS_nil_some (D : RowOK P vals sz zero T S Z bytes) (w : World) (x : Addr) (n c : Nat) : (binOp .eql S (.slice (some x) n c) (.slice none 0 0)).run P w = .ok (.bool false) w := by
  rw [Lib.run_eql_slice_nil w _ _ _ _ _ _ _ D.under]
  rfl

theorem eqlS_nil_nil (D : RowOK P vals sz zero T S Z bytes) (w : World) (n c : Nat) : (binOp .eql S (.slice none n c) (.slice none 0 0)).run P w = .ok (.bool true) w := by
  rw [Lib.run_eql_slice_nil w _ _ _ _ _ _ _ D.under]
  rfl

end rows

end Go.Proofs.Ythfkfonfiejbmaa
