/-
  ROWS OF A TABLE OF THE CALL'S OWN: stored into, copied, cleared, grown by zero rows.
-/
import Derived.Test.YtocjeehoghfnmaaDigOwn
import Derived.Laws.IdiomCopy
import Derived.Lib.AppendZerosOnto
import Derived.Lib.Overlaps
import Derived.Deep.RegionLaw
namespace Go.Proofs.Ytocjeehoghfnmaa
open Go.RowKit

/-- 'ms' laid over 'u' from place 'o' on. -/
def lay {α : Type} (u : List α) (o : Nat) (ms : List α) : List α := u.take o ++ (ms ++ u.drop (o + ms.length))

theorem lay_len {α : Type} {u : List α} {o : Nat} {ms : List α} (h : o + ms.length ≤ u.length) : (lay u o ms).length = u.length := by
  unfold lay
  simp
  omega

theorem lay_nil {α : Type} (u : List α) (o : Nat) : lay u o [] = u := by simp [lay]

theorem lay_cons {α : Type} (u : List α) (o : Nat) (x : α) (r : List α) (h : o < u.length) : lay (u.set o x) (o + 1) r = lay u o (x :: r) := by
  unfold lay
  have h1 : (u.set o x).take (o + 1) = u.take o ++ [x] := by
    rw [List.take_set, List.set_eq_take_append_cons_drop]
    rw [if_pos (by rw [List.length_take]; omega)]
    rw [List.take_take, List.drop_of_length_le (by rw [List.length_take]; omega), show min o (o + 1) = o by omega]
  have h2 : (u.set o x).drop (o + 1 + r.length) = u.drop (o + (x :: r).length) := by
    rw [List.drop_set, if_pos (by omega)]
    congr 1
    simp only [List.length_cons]
    omega
  rw [h1, h2]
  simp

theorem own_setCells {e size base g n cap : Nat} : ∀ (vs : List Value) (o : Nat) (w : World) (xs : List Value), w.ownsRow base e size (.slice (some ⟨g, 0, none⟩) n cap) n xs → o + vs.length ≤ xs.length →
    (w.setCells g o vs).ownsRow base e size (.slice (some ⟨g, 0, none⟩) n cap) n (lay xs o vs)
  | [], o, w, xs, h, _ => by rw [lay_nil]; exact h
  | v :: r, o, w, xs, h, hl => by
    rw [World.setCells, ← lay_cons xs o v r (by simp at hl; omega)]
    exact own_setCells r (o + 1) _ _ (h.stored o v).1 (by simp at hl ⊢; omega)

theorem below_setCells {B g : Nat} {w0 : World} (hB : B ≤ g) : ∀ (vs : List Value) (o : Nat) (w : World), Below B w0 w → Below B w0 (w.setCells g o vs)
  | [], _, _, h => h
  | v :: r, o, w, h => by
    rw [World.setCells]
    exact below_setCells hB r (o + 1) _ (h.setCell hB v)

theorem cellsOf_take (u : List Row) (o : Nat) : (cellsOf u).take (o * 5) = cellsOf (u.take o) := by
  have h := cellsOf_append (u.take o) (u.drop o)
  rw [List.take_append_drop] at h
  rw [h]
  by_cases ho : o ≤ u.length
  · rw [List.take_left' (by rw [cellsOf_len, List.length_take]; omega)]
  · have e1 : u.drop o = [] := List.drop_of_length_le (by omega)
    have e2 : u.take o = u := List.take_of_length_le (by omega)
    rw [e1, e2, cellsOf_nil, List.append_nil, List.take_of_length_le (by rw [cellsOf_len]; omega)]

theorem cellsOf_drop (u : List Row) (o : Nat) : (cellsOf u).drop (o * 5) = cellsOf (u.drop o) := by
  have h := cellsOf_append (u.take o) (u.drop o)
  rw [List.take_append_drop] at h
  by_cases ho : o ≤ u.length
  · rw [h, List.drop_left' (by rw [cellsOf_len, List.length_take]; omega)]
  · have e1 : u.drop o = [] := List.drop_of_length_le (by omega)
    rw [e1, cellsOf_nil, List.drop_of_length_le (by rw [cellsOf_len]; omega)]

theorem cellsOf_lay (u : List Row) (o : Nat) (ms : List Row) : lay (cellsOf u) (o * 5) (cellsOf ms) = cellsOf (lay u o ms) := by
  unfold lay
  rw [cellsOf_append, cellsOf_append, cellsOf_take, cellsOf_len, ← Nat.add_mul, cellsOf_drop]

/-- Rows laid over a table of the call's own. -/
theorem ownR_lay {w : World} {base g n cap : Nat} {u : List Row} (h : OwnR w base (.slice (some ⟨g, 0, none⟩) n cap) u) (hn : n = u.length) (o : Nat) (ms : List Row) (ho : o + ms.length ≤ u.length) :
    OwnR (w.setCells g (o * 5) (cellsOf ms)) base (.slice (some ⟨g, 0, none⟩) n cap) (lay u o ms) := by
  subst hn
  unfold OwnR at h ⊢
  rw [lay_len ho, ← cellsOf_lay]
  exact own_setCells _ _ _ _ h (by rw [cellsOf_len, cellsOf_len, ← Nat.add_mul]; exact Nat.mul_le_mul_right _ ho)

theorem OwnR.head {w : World} {base g n cap : Nat} {u : List Row} (h : OwnR w base (.slice (some ⟨g, 0, none⟩) n cap) u) : n = u.length ∧ base ≤ g ∧ g < w.heap.size ∧ n ≤ cap ∧ cap ≤ maxLen ∧ ∃ cur : Array Value, w.heap[g]? = some (.cells cur 48 (0, 0)) ∧ cur.size = cap * 5 := by
  rcases h with ⟨_, ⟨h', _⟩ | ⟨g', cap', cur, h', hb, hg, hnc, hcm, hcs, _⟩⟩
  · simp at h'
  · simp only [Value.slice.injEq, Option.some.injEq, Addr.mk.injEq, and_true] at h'
    obtain ⟨rfl, h2, rfl⟩ := h'
    exact ⟨h2, hb, (Array.getElem?_eq_some_iff.1 hg).1, by omega, hcm, cur, hg, hcs⟩

theorem OwnR.cellAt {w : World} {base g n cap : Nat} {u : List Row} (h : OwnR w base (.slice (some ⟨g, 0, none⟩) n cap) u) (j : Nat) (hj : j < u.length * 5) : w.cell? ⟨g, j, none⟩ = (cellsOf u)[j]? := by
  have hn := h.head.1
  subst hn
  exact World.ownsRow.cellAt h j hj

theorem OwnR.frozenAt {w : World} {base g n cap : Nat} {u : List Row} (h : OwnR w base (.slice (some ⟨g, 0, none⟩) n cap) u) (j : Nat) : w.frozen? ⟨g, j, none⟩ = false := by
  have hn := h.head.1
  subst hn
  exact World.ownsRow.frozenAt h j

theorem OwnR.someAt {w : World} {base g n cap : Nat} {u : List Row} (h : OwnR w base (.slice (some ⟨g, 0, none⟩) n cap) u) (j : Nat) (hj : j < u.length * 5) : (w.cell? ⟨g, j, none⟩).isSome = true := by
  rw [h.cellAt j hj, List.getElem?_eq_getElem (by rw [cellsOf_len]; exact hj)]
  rfl

/-- One row stored. -/
theorem ownR_store {w : World} {base g n cap : Nat} {u : List Row} (h : OwnR w base (.slice (some ⟨g, 0, none⟩) n cap) u) (i : Nat) (hi : i < u.length) (r : Row) :
    OwnR (((((w.setCell ⟨g, i * 5, none⟩ (.string ⟨r.c.toArray⟩)).setCell ⟨g, i * 5 + 1, none⟩ (.int .i64 r.v.sh)).setCell ⟨g, i * 5 + 2, none⟩ (.int .i64 r.v.pr)).setCell ⟨g, i * 5 + 3, none⟩ (.int .i64 r.v.si)).setCell ⟨g, i * 5 + 4, none⟩ (.string ⟨r.v.st.toArray⟩)) base (.slice (some ⟨g, 0, none⟩) n cap) (u.set i r) := by
  have := ownR_lay h h.head.1 i [r] (by simp; omega)
  rw [cellsOf_one] at this
  have e : lay u i [r] = u.set i r := by
    unfold lay
    rw [List.set_eq_take_append_cons_drop, if_pos hi]
    rfl
  rw [e] at this
  exact this

/-- The cells that a slice of rows reads. -/
def SrcR (w : World) (ad : Addr) (ms : List Row) : Prop := ∀ j u, (cellsOf ms)[j]? = some u → w.cell? (ad.add j) = some u

theorem OwnR.src {w : World} {base g n cap : Nat} {u : List Row} (h : OwnR w base (.slice (some ⟨g, 0, none⟩) n cap) u) (o k : Nat) (hk : o + k ≤ u.length) : SrcR w ⟨g, o * 5, none⟩ ((u.drop o).take k) := by
  intro j x hx
  have hj := (List.getElem?_eq_some_iff.1 hx).1
  rw [cellsOf_len, List.length_take, List.length_drop] at hj
  rw [Addr.add_lit, h.cellAt _ (by omega), ← hx]
  rw [← cellsOf_take, ← cellsOf_drop, List.getElem?_take, if_pos (by omega), List.getElem?_drop]

theorem run_copy_rows {w : World} (base g n cap : Nat) (u : List Row) (h : OwnR w base (.slice (some ⟨g, 0, none⟩) n cap) u) (o dl dc : Nat) (ad : Addr) (sl sc : Nat) (ms : List Row) (hn : ms.length = Nat.min sl dl) (hsrc : SrcR w ad ms) (ho : o + ms.length ≤ u.length) (ty : TypeId) :
    (Builtin.copy_ #[22, 22] ty #[.slice (some ⟨g, o * 5, none⟩) dl dc, .slice (some ad) sl sc]).run Try.prog w = .ok (goInt ms.length) (w.setCells g (o * 5) (cellsOf ms)) := by
  obtain ⟨i, hi, hz, hsize, hby⟩ := info_parts Try.infoSeen
  have hl := run_loadCells_list (P := Try.prog) w ad (cellsOf ms) hsrc
  rw [cellsOf_len] at hl
  have hst := run_storeCells_cells (P := Try.prog) g (o * 5) (cellsOf ms) 0 w (fun j hj => by
    rw [cellsOf_len] at hj
    exact h.someAt _ (by omega)) (fun j _ => h.frozenAt _) (cellsOf_single ms)
  rw [Nat.add_zero] at hst
  simp [Builtin.copy_, run_underlying Try.underlying22, Builtin.lenOf, Builtin.firstCells, sizeOf, typeInfo, hi, hsize, ← hn, hl, hst]

/-- 'copy(dst, src)', dst within a table of the call's own. -/
theorem wp_copy_rows {w : World} {o : Oper} {a : Act} {K : Act → World → Prop} {Q : Exit → Act → World → Prop} (d s : Operand)
    (ho : o.op = .call { callee := .builtin .copy, args := #[d, s], argTypes := #[22, 22] })
    (base g n cap : Nat) (u : List Row) (h : OwnR w base (.slice (some ⟨g, 0, none⟩) n cap) u) (p dl dc : Nat) (ad : Addr) (sl sc : Nat)
    (hd : a.eval d = .slice (some ⟨g, p * 5, none⟩) dl dc) (hs : a.eval s = .slice (some ad) sl sc) (ms : List Row) (hn : ms.length = Nat.min sl dl) (hsrc : SrcR w ad ms) (hp : p + ms.length ≤ u.length)
    (hK : ∀ w', OwnR w' base (.slice (some ⟨g, 0, none⟩) n cap) (lay u p ms) → Below g w w' → (∀ x : Addr, x.block ≠ g → w'.cell? x = w.cell? x) → K (a.put o.dst (goInt ms.length)) w') : o.wp Try.prog a w K Q := by
  have hr := run_copy_rows base g n cap u h p dl dc ad sl sc ms hn hsrc hp o.type
  unfold Oper.wp execOp
  simp only [ho, resolve, invoke, builtin, Sem.run_bind, Sem.run_pure, Result.andThen_ok, List.map_toArray, List.map_cons, List.map_nil, hd, hs, hr]
  refine hK _ (ownR_lay h h.head.1 p ms hp) (below_setCells (Nat.le_refl _) _ _ _ (Below.refl _ _)) (fun x hx => ?_)
  exact World.cell?_setCells_out g _ _ _ _ (fun hb _ => absurd hb hx)

theorem wpList_copy_rows {w : World} {ops : Array Oper} {rest : List Oper} {o : Oper} {a : Act} {Q : Exit → Act → World → Prop} (hgd : o.guard = none) (d s : Operand)
    (ho : o.op = .call { callee := .builtin .copy, args := #[d, s], argTypes := #[22, 22] })
    (base g n cap : Nat) (u : List Row) (h : OwnR w base (.slice (some ⟨g, 0, none⟩) n cap) u) (p dl dc : Nat) (ad : Addr) (sl sc : Nat)
    (hd : a.eval d = .slice (some ⟨g, p * 5, none⟩) dl dc) (hs : a.eval s = .slice (some ad) sl sc) (ms : List Row) (hn : ms.length = Nat.min sl dl) (hsrc : SrcR w ad ms) (hp : p + ms.length ≤ u.length)
    (hK : ∀ w', OwnR w' base (.slice (some ⟨g, 0, none⟩) n cap) (lay u p ms) → Below g w w' → (∀ x : Addr, x.block ≠ g → w'.cell? x = w.cell? x) → wpList Try.prog ops Q rest (a.put o.dst (goInt ms.length)) w') : wpList Try.prog ops Q (o :: rest) a w :=
  wpList_plain hgd fun _ hK' => wp_copy_rows d s ho base g n cap u h p dl dc ad sl sc hd hs ms hn hsrc hp fun w' h1 h2 h3 => hK' _ _ (hK w' h1 h2 h3)

theorem step_copy_rows {w : World} {ops : Array Oper} {o : Oper} {a : Act} {K : Act → World → Prop} {Q : Exit → Act → World → Prop} {E : Prop} (hgd : o.guard = none) (d s : Operand)
    (ho : o.op = .call { callee := .builtin .copy, args := #[d, s], argTypes := #[22, 22] })
    (base g n cap : Nat) (u : List Row) (h : OwnR w base (.slice (some ⟨g, 0, none⟩) n cap) u) (p dl dc : Nat) (ad : Addr) (sl sc : Nat)
    (hd : a.eval d = .slice (some ⟨g, p * 5, none⟩) dl dc) (hs : a.eval s = .slice (some ad) sl sc) (ms : List Row) (hn : ms.length = Nat.min sl dl) (hsrc : SrcR w ad ms) (hp : p + ms.length ≤ u.length)
    (hK : ∀ w', OwnR w' base (.slice (some ⟨g, 0, none⟩) n cap) (lay u p ms) → Below g w w' → (∀ x : Addr, x.block ≠ g → w'.cell? x = w.cell? x) → K (a.put o.dst (goInt ms.length)) w') :
    if Region.wanted o (yielded ops a.tmps) = true then Oper.wp Try.prog o a w K Q else E := by
  have hw : Region.wanted o (yielded ops a.tmps) = true := by simp [Region.wanted, hgd]
  rw [if_pos hw]
  exact wp_copy_rows d s ho base g n cap u h p dl dc ad sl sc hd hs ms hn hsrc hp hK

theorem zeroRows (n : Nat) : (Builtin.zeroCells (Value.agg #[.string ⟨#[]⟩, .int .i64 0, .int .i64 0, .int .i64 0, .string ⟨#[]⟩]).cells n).toList = cellsOf (List.replicate n Row.zero) := by
  apply List.ext_getElem?
  intro j
  by_cases hj : j < n * 5
  · have e : j = j / 5 * 5 + j % 5 := by omega
    have h1 : (cellsOf (List.replicate n Row.zero))[j]? = (rowVals Row.zero)[j % 5]? := by
      conv => lhs; rw [e]
      rw [cellsOf_at _ _ _ (by rw [List.length_replicate]; omega) (by omega)]
      simp [List.getD, show j / 5 < n by omega]
    rw [h1]
    have h5 : j % 5 = 0 ∨ j % 5 = 1 ∨ j % 5 = 2 ∨ j % 5 = 3 ∨ j % 5 = 4 := by omega
    simp only [Builtin.zeroCells, Value.cells]
    rcases h5 with h | h | h | h | h <;> simp [hj, h, rowVals, Row.zero, Val.zero]
  · rw [List.getElem?_eq_none (by simp [Builtin.zeroCells, Value.cells]; omega), List.getElem?_eq_none (by rw [cellsOf_len, List.length_replicate]; omega)]

/-- 'append(s[:i], make([]Seen, k)...)' where there is no room for k more. -/
theorem wpList_append_zero_rows {w : World} {ops : Array Oper} {rest : List Oper} {o : Oper} {a : Act} {Q : Exit → Act → World → Prop} (hgd : o.guard = none) (s x : Operand)
    (ho : o.op = .call { callee := .builtin .append, args := #[s, x], argTypes := #[22, 3] })
    (base g n cap : Nat) (u : List Row) (h : OwnR w base (.slice (some ⟨g, 0, none⟩) n cap) u) (i k L : Nat) (K : Int) (hs : a.eval s = .slice (some ⟨g, 0, none⟩) i cap) (hx : a.eval x = .int .i64 K) (hKk : K = (k : Int)) (hL : L = i + k) (hi : i ≤ u.length) (h0 : 0 < k) (hno : cap < i + k) (hsm : i + k ≤ 4294967)
    (hK : ∀ w' G, OwnR w' w.heap.size (.slice (some ⟨w.heap.size, 0, none⟩) L G) (u.take i ++ List.replicate k Row.zero) → L ≤ G → G ≤ 9223372036854775807 → Below w.heap.size w w' → wpList Try.prog ops Q rest (a.put o.dst (.slice (some ⟨w.heap.size, 0, none⟩) L G)) w') :
    wpList Try.prog ops Q (o :: rest) a w := by
  obtain ⟨i0, hi0, hz0, hzs, hzb⟩ := info_parts Try.infoSeen
  subst hKk
  subst hL
  have hold : (Builtin.firstCells i0.size i (.slice (some ⟨g, 0, none⟩) i cap)).run Try.prog w.drew = .ok (cellsOf (u.take i)).toArray w.drew := by
    rw [hzs]
    refine run_firstCells_some w.drew 5 i ⟨g, 0, none⟩ i cap (cellsOf (u.take i)) (by rw [cellsOf_len, List.length_take]; omega) (fun j v hj => ?_)
    have := (h.src 0 i (by omega)) j v (by simpa using hj)
    rw [Nat.zero_mul] at this
    exact this
  have hr := Lib.run_append_grow_zeros w 22 3 o.type 48 i0 _ .i64 .i64 Try.underlying22 Try.underlying3 hi0 hz0 (some ⟨g, 0, none⟩) i cap (cellsOf (u.take i)) hold k h0 (by omega) hno (by omega) (by rw [hzb]; omega) (by rw [hzb]; exact growslice_fits hno (by omega))
  have hG := grownCap_ge w (i + k) cap 48
  have hGm := grownCap_le_maxLen w (i + k) cap 48 (by unfold maxLen; omega)
  refine Lib.wpList_append_run w hgd s x _ _ ho _ _ hs hx _ _ hr ?_
  obtain ⟨G, hG'⟩ : ∃ G, G = grownCap w (i + k) cap 48 := ⟨_, rfl⟩
  rw [← hG'] at hG hGm ⊢
  have hb : Below w.heap.size w (w.drew.alloc (.cells ((cellsOf (u.take i)).toArray ++ Builtin.zeroCells (Value.agg #[.string ⟨#[]⟩, .int .i64 0, .int .i64 0, .int .i64 0, .string ⟨#[]⟩]).cells k ++ Builtin.zeroCells (Value.agg #[.string ⟨#[]⟩, .int .i64 0, .int .i64 0, .int .i64 0, .string ⟨#[]⟩]).cells (G - (i + k))) 48)) := (Below.refl _ w).drew.alloc (Nat.le_refl _) _
  refine hK _ G ?_ hG (by unfold maxLen at hGm; omega) hb
  have hl1 : (u.take i ++ List.replicate k Row.zero).length = i + k := by rw [List.length_append, List.length_take, List.length_replicate]; omega
  have hzl : ∀ m, (Builtin.zeroCells (Value.agg #[.string ⟨#[]⟩, .int .i64 0, .int .i64 0, .int .i64 0, .string ⟨#[]⟩]).cells m).size = m * 5 := fun m => by simp [Builtin.zeroCells, Value.cells]
  refine ⟨by rw [cellsOf_len], .inr ⟨w.heap.size, G, _, by rw [hl1], Nat.le_refl _, heap_alloc_new w.drew _, by rw [hl1]; exact hG, hGm, ?_, ?_⟩⟩
  · rw [Array.size_append, Array.size_append, hzl, hzl, List.size_toArray, cellsOf_len, List.length_take]
    omega
  · rw [hl1, Array.toList_append, Array.toList_append, zeroRows, cellsOf_append]
    rw [List.take_append_of_le_length (by rw [List.length_append, cellsOf_len, cellsOf_len, List.length_take, List.length_replicate]; omega)]
    rw [List.take_of_length_le (by rw [List.length_append, cellsOf_len, List.length_take, List.size_toArray.symm, List.size_toArray, cellsOf_len, List.length_replicate]; omega)]

/-- 'clear(s[o:])' of a table of the call's own. -/
theorem wpList_clear_rows {w : World} {ops : Array Oper} {rest : List Oper} {o : Oper} {a : Act} {Q : Exit → Act → World → Prop} (hgd : o.guard = none) (x : Operand)
    (ho : o.op = .call { callee := .builtin .clear, args := #[x], argTypes := #[22] })
    (base g n cap : Nat) (u : List Row) (h : OwnR w base (.slice (some ⟨g, 0, none⟩) n cap) u) (p : Nat) (ad : Option Addr) (m c : Nat) (hx : a.eval x = .slice ad m c) (hpos : 0 < m → ad = some ⟨g, p * 5, none⟩) (hm : p + m = u.length)
    (hK : ∀ w', OwnR w' base (.slice (some ⟨g, 0, none⟩) n cap) (u.take p ++ List.replicate m Row.zero) → Below g w w' → wpList Try.prog ops Q rest (a.put o.dst (.tuple #[])) w') : wpList Try.prog ops Q (o :: rest) a w := by
  refine wpList_plain hgd fun K hK' => ?_
  rcases Nat.eq_zero_or_pos m with rfl | hp
  · have hrun : (Builtin.clear_ #[22] o.type #[.slice ad 0 c]).run Try.prog w = .ok (.tuple #[]) w := by
      cases ad <;> simp [Builtin.clear_, run_underlying Try.underlying22]
    unfold Oper.wp
    simp [execOp, ho, resolve, invoke, builtin, hx, hrun, Result.andThen]
    refine hK' _ _ (hK w ?_ (Below.refl _ _))
    rw [List.take_of_length_le (by omega)]
    simpa using h
  · obtain rfl := hpos hp
    obtain ⟨i0, hi0, hz0, hzs, hzb⟩ := info_parts Try.infoSeen
    have hst := run_storeCells_cells (P := Try.prog) g (p * 5) (cellsOf (List.replicate m Row.zero)) 0 w (fun j hj => by
      rw [cellsOf_len, List.length_replicate] at hj
      exact h.someAt _ (by omega)) (fun j _ => h.frozenAt _) (cellsOf_single _)
    rw [Nat.add_zero, ← zeroRows] at hst
    have hrun : (Builtin.clear_ #[22] o.type #[.slice (some ⟨g, p * 5, none⟩) m c]).run Try.prog w = .ok (.tuple #[]) (w.setCells g (p * 5) (cellsOf (List.replicate m Row.zero))) := by
      obtain ⟨m', rfl⟩ : ∃ m', m = m' + 1 := ⟨m - 1, by omega⟩
      rw [← zeroRows]
      simp [Builtin.clear_, run_underlying Try.underlying22, zeroValue, typeInfo, hi0, hz0, hst]
    unfold Oper.wp
    simp [execOp, ho, resolve, invoke, builtin, hx, hrun, Result.andThen]
    refine hK' _ _ (hK _ ?_ (below_setCells (Nat.le_refl _) _ _ _ (Below.refl _ _)))
    have := ownR_lay h h.head.1 p (List.replicate m Row.zero) (by rw [List.length_replicate]; omega)
    have e : lay u p (List.replicate m Row.zero) = u.take p ++ List.replicate m Row.zero := by
      unfold lay
      rw [List.length_replicate, List.drop_of_length_le (by omega), List.append_nil]
    rwa [e] at this

end Go.Proofs.Ytocjeehoghfnmaa
