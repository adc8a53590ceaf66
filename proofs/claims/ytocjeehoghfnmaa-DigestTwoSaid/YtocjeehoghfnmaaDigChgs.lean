/-
  LISTS OF CHANGES IN MEMORY: rows of six cells.
-/
import Derived.Test.YtocjeehoghfnmaaDigMap
namespace Go.Proofs.Ytocjeehoghfnmaa
open Go.RowKit

def Chg.zero : Chg := ⟨[], false, Val.zero⟩

def chgVals (r : Chg) : List Value := [.string ⟨r.c.toArray⟩, .bool r.on, .int .i64 r.v.sh, .int .i64 r.v.pr, .int .i64 r.v.si, .string ⟨r.v.st.toArray⟩]

def Cells6 (w : World) (b o : Nat) (r : Chg) : Prop :=
  w.cell? ⟨b, o, none⟩ = some (.string ⟨r.c.toArray⟩) ∧ w.cell? ⟨b, o + 1, none⟩ = some (.bool r.on) ∧ w.cell? ⟨b, o + 2, none⟩ = some (.int .i64 r.v.sh) ∧ w.cell? ⟨b, o + 3, none⟩ = some (.int .i64 r.v.pr) ∧
    w.cell? ⟨b, o + 4, none⟩ = some (.int .i64 r.v.si) ∧ w.cell? ⟨b, o + 5, none⟩ = some (.string ⟨r.v.st.toArray⟩)

theorem Cells6.later {w w' : World} {b o : Nat} {r : Chg} (h : Cells6 w b o r) (hb : Below w.heap.size w w') (hlt : b < w.heap.size) : Cells6 w' b o r := by
  obtain ⟨h0, h1, h2, h3, h4, h5⟩ := h
  have k : ∀ o, w'.cell? ⟨b, o, none⟩ = w.cell? ⟨b, o, none⟩ := fun o => hb.cell (p := ⟨b, o, none⟩) hlt
  exact ⟨(k _).trans h0, (k _).trans h1, (k _).trans h2, (k _).trans h3, (k _).trans h4, (k _).trans h5⟩

/-- Which changes a slice holds. -/
def Chgs (w : World) (v : Value) (t : List Chg) : Prop :=
  ∃ a cap, v = .slice a t.length cap ∧ t.length ≤ cap ∧ cap ≤ maxLen ∧ (a = none → cap = 0) ∧
    (t = [] ∨ ∃ b off, a = some ⟨b, off, none⟩ ∧ b < w.heap.size ∧ ∀ i, i < t.length → Cells6 w b (off + i * 6) (t.getD i Chg.zero))

theorem Chgs.later {w w' : World} {v : Value} {t : List Chg} (h : Chgs w v t) (hb : Below w.heap.size w w') : Chgs w' v t := by
  obtain ⟨a, cap, h1, h2, h3, h4, h5⟩ := h
  refine ⟨a, cap, h1, h2, h3, h4, ?_⟩
  rcases h5 with h5 | ⟨b, off, e, hlt, hc⟩
  · exact .inl h5
  · exact .inr ⟨b, off, e, Nat.lt_of_lt_of_le hlt hb.size, fun i hi => (hc i hi).later hb hlt⟩

theorem chgs_nil (w : World) : Chgs w (.slice none 0 0) [] := ⟨none, 0, rfl, by simp, by simp, fun _ => rfl, .inl rfl⟩

/-- A change of a list, in a later world. -/
theorem Chgs.row {w wr : World} {a : Option Addr} {n cap : Nat} {t : List Chg} (h : Chgs w (.slice a n cap) t) (hb : Below w.heap.size w wr) (k : Nat) (hk : k < t.length) :
    ∃ b off, a = some ⟨b, off, none⟩ ∧ Cells6 wr b (off + k * 6) (t.getD k Chg.zero) := by
  obtain ⟨a', cap', e, _, _, _, h⟩ := h.later hb
  simp only [Value.slice.injEq] at e
  rcases h with h | ⟨b, off, e', _, hc⟩
  · rw [h] at hk; simp at hk
  · exact ⟨b, off, e.1.trans e', hc k hk⟩

theorem Chgs.open' {w : World} {v : Value} {t : List Chg} (h : Chgs w v t) : ∃ a cap, v = .slice a t.length cap ∧ t.length ≤ 9223372036854775807 := by
  obtain ⟨a, cap, e, h1, h2, _⟩ := h
  unfold maxLen at h2
  exact ⟨a, cap, e, by omega⟩

theorem chg_at {t : List Chg} {k : Nat} (h : k < t.length) : t[k]? = some (t.getD k Chg.zero) := by simp [List.getD, List.getElem?_eq_getElem h]
theorem chg_get' {t : List Chg} {k : Nat} (h : k < t.length) : t[k] = t.getD k Chg.zero := by simp [List.getD, List.getElem?_eq_getElem h]

/-- The cells of rows, one row behind the other. -/
def cellsOfC (t : List Chg) : List Value := (t.map chgVals).flatten

theorem cellsOfC_nil : cellsOfC [] = [] := rfl
theorem cellsOfC_cons (r : Chg) (t : List Chg) : cellsOfC (r :: t) = chgVals r ++ cellsOfC t := rfl
theorem cellsOfC_append (a b : List Chg) : cellsOfC (a ++ b) = cellsOfC a ++ cellsOfC b := by simp [cellsOfC]
theorem cellsOfC_one (r : Chg) : cellsOfC [r] = chgVals r := by simp [cellsOfC]

theorem chgVals_len (r : Chg) : (chgVals r).length = 6 := rfl

theorem cellsOfC_len : ∀ t : List Chg, (cellsOfC t).length = t.length * 6
  | [] => rfl
  | r :: t => by rw [cellsOfC_cons, List.length_append, chgVals_len, cellsOfC_len t, List.length_cons]; omega

theorem cellsOfC_at : ∀ (t : List Chg) (i j : Nat), i < t.length → j < 6 → (cellsOfC t)[i * 6 + j]? = (chgVals (t.getD i Chg.zero))[j]?
  | [], i, j, h, _ => by simp at h
  | r :: t, 0, j, _, hj => by
    rw [cellsOfC_cons, Nat.zero_mul, Nat.zero_add, List.getElem?_append_left (by rw [chgVals_len]; exact hj)]
    rfl
  | r :: t, i + 1, j, h, hj => by
    rw [cellsOfC_cons, List.getElem?_append_right (by rw [chgVals_len]; omega), chgVals_len, show (i + 1) * 6 + j - 6 = i * 6 + j by omega, cellsOfC_at t i j (by simpa using h) hj]
    rfl

theorem cellsOfC_single (t : List Chg) : ∀ u ∈ cellsOfC t, u.oneCell' = true := by
  intro u hu
  obtain ⟨l, hl, hu⟩ := List.mem_flatten.1 hu
  obtain ⟨r, _, rfl⟩ := List.mem_map.1 hl
  simp only [chgVals, List.mem_cons, List.not_mem_nil, or_false] at hu
  rcases hu with rfl | rfl | rfl | rfl | rfl | rfl <;> rfl

theorem cells6_of {w : World} {b o : Nat} {r : Chg} (h : ∀ j u, (chgVals r)[j]? = some u → w.cell? ⟨b, o + j, none⟩ = some u) : Cells6 w b o r :=
  ⟨h 0 _ rfl, h 1 _ rfl, h 2 _ rfl, h 3 _ rfl, h 4 _ rfl, h 5 _ rfl⟩

/-- A list of changes of the call's own. -/
def OwnC (w : World) (base : Nat) (v : Value) (t : List Chg) : Prop := w.ownsRow base 37 6 v t.length (cellsOfC t)

theorem OwnC.alloc {w : World} {base : Nat} {v : Value} {t : List Chg} (h : OwnC w base v t) (o : Obj) : OwnC (w.alloc o) base v t := World.ownsRow.alloc h o

theorem ownC_nil (w : World) (base : Nat) : OwnC w base (.slice none 0 0) [] := World.ownsRow_nil w base _ _

theorem ownC_made (w : World) : OwnC (w.alloc (.cells #[] 37)) w.heap.size (.slice (some ⟨w.heap.size, 0, none⟩) 0 0) [] := World.ownsRow_made w #[] 0 (Nat.le_refl _) (by decide) rfl

theorem OwnC.later {w w' : World} {base : Nat} {v : Value} {t : List Chg} (h : OwnC w base v t) (hb : Below w.heap.size w w') : OwnC w' base v t := by
  refine ⟨h.1, ?_⟩
  rcases h.2 with h' | ⟨g, cap, cur, h1, h2, h3, h4⟩
  · exact .inl h'
  · exact .inr ⟨g, cap, cur, h1, h2, by rw [hb.block g (Array.getElem?_eq_some_iff.1 h3).1]; exact h3, h4⟩

theorem OwnC.chgs {w : World} {base : Nat} {v : Value} {t : List Chg} (h : OwnC w base v t) : Chgs w v t := by
  rcases h with ⟨_, ⟨rfl, h0⟩ | ⟨g, cap, cur, rfl, hb, hg, hn, hc, hsz, htk⟩⟩
  · obtain rfl : t = [] := List.length_eq_zero_iff.1 h0
    exact chgs_nil w
  · refine ⟨some ⟨g, 0, none⟩, cap, rfl, hn, hc, (fun e => by cases e), .inr ⟨g, 0, rfl, (Array.getElem?_eq_some_iff.1 hg).1, fun i hi => ?_⟩⟩
    refine cells6_of fun j u hu => ?_
    have hj : j < 6 := by have := (List.getElem?_eq_some_iff.1 hu).1; rwa [chgVals_len] at this
    rw [Nat.zero_add, cell_of_row w g (i * 6 + j) cur _ (0, 0) hg]
    have h1 : cur.toList[i * 6 + j]? = (cellsOfC t)[i * 6 + j]? := by
      rw [← htk, List.getElem?_take, if_pos (by omega)]
    rw [← hu, ← cellsOfC_at t i j hi hj, ← h1]
    simp

theorem Try.infoChange : (Try.prog.info? 37).map (fun i => (i.zero, i.size, i.bytes)) = some (some (.agg #[.string ⟨#[]⟩, .bool false, .int .i64 0, .int .i64 0, .int .i64 0, .string ⟨#[]⟩]), 6, 64) := by kernel_rfl

/-- 'out = append(out, src...)', out nil or a table of the call's own, src whatever. -/
theorem wpList_append_chgs {w : World} {ops : Array Oper} {rest : List Oper} {o : Oper} {a : Act} {Q : Exit → Act → World → Prop}
    (hgd : o.guard = none) (s x : Operand) (ho : o.op = .call { callee := .builtin .append, args := #[s, x], argTypes := #[42, 42] })
    (base : Nat) (v : Value) (t : List Chg) (hs : a.eval s = v) (hown : OwnC w base v t)
    (ao : Option Addr) (m c : Nat) (ms : List Chg) (hx : a.eval x = .slice ao m c) (hm : m = ms.length) (hnone : ao = none → c = 0 ∧ ms = [])
    (hsome : ∀ ad, ao = some ad → ∀ j u, (cellsOfC ms)[j]? = some u → w.cell? (ad.add j) = some u)
    (hlen : t.length + ms.length < 4294967296) (hbase : base ≤ w.heap.size)
    (h : ∀ v' w', OwnC w' base v' (t ++ ms) → Below base w w' → wpList Try.prog ops Q rest (a.put o.dst v') w') :
    wpList Try.prog ops Q (o :: rest) a w := by
  obtain ⟨i, hi, hz, hsize, hby⟩ := info_parts Try.infoChange
  cases ao with
  | none =>
    obtain ⟨rfl, rfl⟩ := hnone rfl
    simp only [List.length_nil] at hm
    subst hm
    exact wpList_append_own_none hgd s x 42 ho base 37 i 6 Try.underlying42 hi v t.length (cellsOfC t) hs hown hx (h v w (by simpa using hown) (Below.refl _ _))
  | some ad =>
    subst hm
    refine wpList_append_own _ hgd s x 42 ho base 37 i _ 6 64 Try.underlying42 hi hz hsize hby rfl (by decide) v t.length (cellsOfC t) hs hown ad ms.length c (cellsOfC ms) hx (cellsOfC_len ms) (hsome ad rfl) (cellsOfC_single ms)
      (by unfold maxLen; omega) (by omega) hbase ?_
    intro v' w' hown' hgrow _
    refine h v' w' ?_ ((Below.refl base w).grown hgrow hbase (fun k hk => (World.ownsRow.lt hown k hk).1))
    unfold OwnC
    rw [cellsOfC_append, List.length_append]
    exact hown'

/-- A new block of one row. -/
theorem new_chg {w : World} {r : Chg} {e : TypeId} {B : Nat} (hB : B = w.heap.size) : ∀ ad, some (⟨B, 0, none⟩ : Addr) = some ad → ∀ j u, (cellsOfC [r])[j]? = some u → (w.alloc (.cells #[.string ⟨r.c.toArray⟩, .bool r.on, .int .i64 r.v.sh, .int .i64 r.v.pr, .int .i64 r.v.si, .string ⟨r.v.st.toArray⟩] e)).cell? (ad.add j) = some u := by
  intro ad had j u hu
  subst hB
  obtain rfl := Option.some.inj had
  rw [cellsOfC_one] at hu
  rw [Addr.add_lit, Nat.zero_add, World.cell?_alloc_at _ _ _ _ rfl, ← hu]
  simp [chgVals]

end Go.Proofs.Ytocjeehoghfnmaa
