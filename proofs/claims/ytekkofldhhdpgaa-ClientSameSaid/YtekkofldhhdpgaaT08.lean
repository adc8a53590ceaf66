/-
  TEXTS OF THE PROOF, one behind the other: DigInsR, IdRow, IdDoc, IdRput, IdRmerge, IdConcat, IdMerge, DigCts, DigSet, DigFrame, CrcPure.
-/
import Derived.Test.YtekkofldhhdpgaaT07
import Derived.Laws.Externs
import Derived.Test.YtekkofldhhdpgaaT01
import Derived.Laws.AppendOwnNone
import Derived.Laws.OwnMore
import Derived.Test.YtekkofldhhdpgaaProg
import Derived.Lib.Hide
import Derived.Test.YtekkofldhhdpgaaT02
import Derived.Lib.AppendZeros
import Derived.OwnWalk
import Derived.BigQuiet
import Derived.Deep.DeepMust
import Derived.Lib.OwnBridge
import Derived.ProofKit
import Derived.OpenShut
import Derived.Lib.SmallJoins
import Derived.Deep.Slices
import Derived.Deep.Fields
import Derived.ChangeSame

section

/-
  THE CONTRACT OF slices.Insert WHERE THERE IS ROOM; the contract whole.
-/
namespace Go.Proofs.Ytekkofldhhdpgaa
open Go.RowKit

theorem Try.sizeSeen (w : World) : (Go.sizeOf 57).run Try.prog w = .ok 5 w := by
  obtain ⟨i, hi, hz, hsize, hby⟩ := info_parts Try.infoSeen
  simp [sizeOf, typeInfo, hi, hsize]

/-- Cells of a table of the call's own, whatever they hold. -/
def OwnC5 (w : World) (base g n cap : Nat) (xs : List Value) : Prop := w.ownsRow base 57 5 (.slice (some ⟨g, 0, none⟩) n cap) n xs

theorem OwnC5.head {w : World} {base g n cap : Nat} {xs : List Value} (h : OwnC5 w base g n cap xs) : base ≤ g ∧ xs.length = n * 5 ∧ ∃ cur : Array Value, w.heap[g]? = some (.cells cur 57 (0, 0)) ∧ cur.size = cap * 5 := by
  rcases h with ⟨h0, ⟨h', _⟩ | ⟨g', cap', cur, h', hb, hg, hnc, hcm, hcs, _⟩⟩
  · simp at h'
  · simp only [Value.slice.injEq, Option.some.injEq, Addr.mk.injEq, and_true, true_and] at h'
    obtain ⟨rfl, rfl⟩ := h'
    exact ⟨hb, h0, cur, hg, hcs⟩

theorem OwnC5.someAt {w : World} {base g n cap : Nat} {xs : List Value} (h : OwnC5 w base g n cap xs) (j : Nat) (hj : j < n * 5) : (w.cell? ⟨g, j, none⟩).isSome = true := by
  rw [World.ownsRow.cellAt h j hj, List.getElem?_eq_getElem (by rw [h.head.2.1]; exact hj)]
  rfl

theorem run_copy_raw {w : World} (base g n cap : Nat) (xs : List Value) (h : OwnC5 w base g n cap xs) (o dl dc : Nat) (ad : Addr) (sl sc : Nat) (ms : List Row) (hn : ms.length = Nat.min sl dl) (hsrc : SrcR w ad ms) (ho : o + ms.length ≤ n) (ty : TypeId) :
    (Builtin.copy_ #[25, 25] ty #[.slice (some ⟨g, o * 5, none⟩) dl dc, .slice (some ad) sl sc]).run Try.prog w = .ok (goInt ms.length) (w.setCells g (o * 5) (cellsOf ms)) := by
  obtain ⟨i, hi, hz, hsize, hby⟩ := info_parts Try.infoSeen
  have hl := run_loadCells_list (P := Try.prog) w ad (cellsOf ms) hsrc
  rw [cellsOf_len] at hl
  have hst := run_storeCells_cells (P := Try.prog) g (o * 5) (cellsOf ms) 0 w (fun j hj => by
    rw [cellsOf_len] at hj
    exact h.someAt _ (by omega)) (fun j _ => World.ownsRow.frozenAt h _) (cellsOf_single ms)
  rw [Nat.add_zero] at hst
  simp [Builtin.copy_, run_underlying Try.underlying25, Builtin.lenOf, Builtin.firstCells, sizeOf, typeInfo, hi, hsize, ← hn, hl, hst]

theorem wp_copy_raw {w : World} {o : Oper} {a : Act} {K : Act → World → Prop} {Q : Exit → Act → World → Prop} (d s : Operand)
    (ho : o.op = .call { callee := .builtin .copy, args := #[d, s], argTypes := #[25, 25] })
    (base g n cap : Nat) (xs : List Value) (h : OwnC5 w base g n cap xs) (p dl dc : Nat) (ad : Addr) (sl sc : Nat)
    (hd : a.eval d = .slice (some ⟨g, p * 5, none⟩) dl dc) (hs : a.eval s = .slice (some ad) sl sc) (ms : List Row) (hn : ms.length = Nat.min sl dl) (hsrc : SrcR w ad ms) (hp : p + ms.length ≤ n)
    (hK : ∀ w', OwnC5 w' base g n cap (lay xs (p * 5) (cellsOf ms)) → Below g w w' → (∀ x : Addr, x.block ≠ g → w'.cell? x = w.cell? x) → K (a.put o.dst (goInt ms.length)) w') : o.wp Try.prog a w K Q := by
  have hr := run_copy_raw base g n cap xs h p dl dc ad sl sc ms hn hsrc hp o.type
  unfold Oper.wp execOp
  simp only [ho, resolve, invoke, builtin, Sem.run_bind, Sem.run_pure, Result.andThen_ok, List.map_toArray, List.map_cons, List.map_nil, hd, hs, hr]
  refine hK _ (own_setCells _ _ _ _ h (by rw [cellsOf_len, h.head.2.1, ← Nat.add_mul]; exact Nat.mul_le_mul_right _ hp)) (below_setCells (Nat.le_refl _) _ _ _ (Below.refl _ _)) (fun x hx => ?_)
  exact World.cell?_setCells_out g _ _ _ _ (fun hb _ => absurd hb hx)

theorem wpList_copy_raw {w : World} {ops : Array Oper} {rest : List Oper} {o : Oper} {a : Act} {Q : Exit → Act → World → Prop} (hgd : o.guard = none) (d s : Operand)
    (ho : o.op = .call { callee := .builtin .copy, args := #[d, s], argTypes := #[25, 25] })
    (base g n cap : Nat) (xs : List Value) (h : OwnC5 w base g n cap xs) (p dl dc : Nat) (ad : Addr) (sl sc : Nat)
    (hd : a.eval d = .slice (some ⟨g, p * 5, none⟩) dl dc) (hs : a.eval s = .slice (some ad) sl sc) (ms : List Row) (hn : ms.length = Nat.min sl dl) (hsrc : SrcR w ad ms) (hp : p + ms.length ≤ n)
    (hK : ∀ w', OwnC5 w' base g n cap (lay xs (p * 5) (cellsOf ms)) → Below g w w' → (∀ x : Addr, x.block ≠ g → w'.cell? x = w.cell? x) → wpList Try.prog ops Q rest (a.put o.dst (goInt ms.length)) w') : wpList Try.prog ops Q (o :: rest) a w :=
  wpList_plain hgd fun _ hK' => wp_copy_raw d s ho base g n cap xs h p dl dc ad sl sc hd hs ms hn hsrc hp fun w' h1 h2 h3 => hK' _ _ (hK w' h1 h2 h3)

theorem step_copy_raw {w : World} {ops : Array Oper} {o : Oper} {a : Act} {K : Act → World → Prop} {Q : Exit → Act → World → Prop} {E : Prop} (hgd : o.guard = none) (d s : Operand)
    (ho : o.op = .call { callee := .builtin .copy, args := #[d, s], argTypes := #[25, 25] })
    (base g n cap : Nat) (xs : List Value) (h : OwnC5 w base g n cap xs) (p dl dc : Nat) (ad : Addr) (sl sc : Nat)
    (hd : a.eval d = .slice (some ⟨g, p * 5, none⟩) dl dc) (hs : a.eval s = .slice (some ad) sl sc) (ms : List Row) (hn : ms.length = Nat.min sl dl) (hsrc : SrcR w ad ms) (hp : p + ms.length ≤ n)
    (hK : ∀ w', OwnC5 w' base g n cap (lay xs (p * 5) (cellsOf ms)) → Below g w w' → (∀ x : Addr, x.block ≠ g → w'.cell? x = w.cell? x) → K (a.put o.dst (goInt ms.length)) w') :
    if Region.wanted o (yielded ops a.tmps) = true then Oper.wp Try.prog o a w K Q else E := by
  have hw : Region.wanted o (yielded ops a.tmps) = true := by simp [Region.wanted, hgd]
  rw [if_pos hw]
  exact wp_copy_raw d s ho base g n cap xs h p dl dc ad sl sc hd hs ms hn hsrc hp hK

theorem OwnC5.drew {w : World} {base g n cap : Nat} {xs : List Value} (h : OwnC5 w base g n cap xs) : OwnC5 w.drew base g n cap xs := World.ownsRow.drew h

/-- The row behind the last one, taken in. -/
theorem own_wider {w : World} {base g cap : Nat} {t : List Row} (h : OwnR w base (.slice (some ⟨g, 0, none⟩) t.length cap) t) (hc : t.length < cap) : ∃ z : List Value, z.length = 5 ∧ OwnC5 w base g (t.length + 1) cap (cellsOf t ++ z) := by
  rcases h with ⟨h0, ⟨h', _⟩ | ⟨g', cap', cur, h', hb, hg, hnc, hcm, hcs, htk⟩⟩
  · simp at h'
  · simp only [Value.slice.injEq, Option.some.injEq, Addr.mk.injEq, and_true, true_and] at h'
    obtain ⟨rfl, rfl⟩ := h'
    have hlen : cur.toList.length = cap * 5 := by rw [Array.length_toList]; exact hcs
    have e : cur.toList.take ((t.length + 1) * 5) = cellsOf t ++ (cur.toList.drop (t.length * 5)).take 5 := by
      rw [← htk, show (t.length + 1) * 5 = t.length * 5 + 5 by omega, List.take_add]
    refine ⟨(cur.toList.drop (t.length * 5)).take 5, by rw [List.length_take, List.length_drop, hlen]; omega, ?_, .inr ⟨g, cap, cur, rfl, hb, hg, by omega, hcm, hcs, e⟩⟩
    rw [← e, List.length_take, hlen]
    omega

theorem lay_room {t : List Row} {i : Nat} (hi : i < t.length) (r : Row) (z : List Value) (hz : z.length = 5) :
    lay (lay (cellsOf t ++ z) ((i + 1) * 5) (cellsOf (t.drop i))) (i * 5) (cellsOf [r]) = cellsOf (put1 t i r) := by
  have e1 : (cellsOf t ++ z).drop ((i + 1) * 5 + (cellsOf (t.drop i)).length) = [] := by
    apply List.drop_of_length_le
    rw [List.length_append, cellsOf_len, cellsOf_len, List.length_drop, hz]
    omega
  have e2 : lay (cellsOf t ++ z) ((i + 1) * 5) (cellsOf (t.drop i)) = (cellsOf t ++ z).take ((i + 1) * 5) ++ cellsOf (t.drop i) := by
    unfold lay
    rw [e1, List.append_nil]
  have hl : ((cellsOf t ++ z).take ((i + 1) * 5)).length = (i + 1) * 5 := by
    rw [List.length_take, List.length_append, cellsOf_len, hz]
    omega
  have e3 : ((cellsOf t ++ z).take ((i + 1) * 5)).take (i * 5) = cellsOf (t.take i) := by
    rw [List.take_take, show min (i * 5) ((i + 1) * 5) = i * 5 by omega, List.take_append_of_le_length (by rw [cellsOf_len]; omega), cellsOf_take]
  rw [e2]
  unfold lay put1
  rw [List.take_append_of_le_length (by rw [hl]; omega), e3, List.drop_left' (by rw [hl, cellsOf_len]; simp only [List.length_singleton]; omega)]
  rw [cellsOf_append, cellsOf_append]

theorem put1_len (t : List Row) (i : Nat) (r : Row) : (put1 t i r).length = t.length + 1 := by
  unfold put1
  rw [List.length_append, List.length_append, List.length_singleton, List.length_take, List.length_drop]
  omega

theorem OwnC5.rows {w : World} {base g cap n : Nat} {t : List Row} (h : OwnC5 w base g n cap (cellsOf t)) (hn : n = t.length) : OwnR w base (.slice (some ⟨g, 0, none⟩) n cap) t := by
  subst hn
  exact h

set_option maxHeartbeats 3200000 in
set_option maxRecDepth 100000 in
theorem insert_room {w : World} {base g cap : Nat} {t : List Row} (ho : OwnR w base (.slice (some ⟨g, 0, none⟩) t.length cap) t) (hl : t.length ≤ 1000) {i : Nat} (hi : i < t.length) (hc : t.length < cap) (hcm : cap ≤ 9223372036854775807) {B : Nat} {r : Row} (hr : Lone w B r) (hne : B ≠ g) :
    Calls Try.prog 32 #[.slice (some ⟨g, 0, none⟩) t.length cap, .int .i64 i, .slice (some ⟨B, 0, none⟩) 1 1] w fun e w' => ∃ u, e = .returned u ∧ OwnR w' base u (put1 t i r) ∧ Below base w w' := by
  obtain ⟨z, hz, hw⟩ := own_wider ho hc
  have HO := Lib.hid hw
  have HS := Lib.hid hr.src
  have hin2 : (i : Int) ≤ (t.length : Int) + 1 := by omega
  have S0 : Hid (SrcR w.drew ⟨g, i * 5, none⟩ (t.drop i)) := by
    show SrcR _ _ _
    intro j x hx
    exact ho.src i (t.length - i) (by omega) j x (by rw [List.take_of_length_le (by rw [List.length_drop]; omega)]; exact hx)
  have HE := Lib.hid (lay_room hi r z hz)
  have HG := Lib.hid ho.head.2.1
  have t0 : ((i : Int) == (t.length : Int)) = false := by simp; omega
  have t1 : ¬ cap = i := by omega
  have t2 : ¬ cap = i + 1 := by omega
  have hw1 : IntKind.i64.wrap ((i : Int) + 1) = (i : Int) + 1 := IntWalk.i64_in _ (by omega)
  have htn : ((i : Int) + 1).toNat = i + 1 := by omega
  have hb0 : (0 : Int) ≤ (i : Int) + 1 := by omega
  have hin : i ≤ t.length := by omega
  have hov : ∀ lb cb, (callFunc 56 #[.slice (some ⟨B, 0, none⟩) 1 1, .slice (some ⟨g, (i + 1) * 5, none⟩) lb cb]).run Try.prog w = .ok (.value (.bool false)) w := fun lb cb => by
    obtain ⟨_, _, cur, hg, hcs⟩ := hw.head
    rw [run_callFunc_extern Try.func56 (by kernel_rfl) (by kernel_rfl) (by kernel_rfl) (e := Extern.SlicesOverlaps.overlaps #[25, 25] #[4]) (by kernel_rfl),
      Lib.run_overlaps_apart w 25 4 57 Try.underlying25 5 Try.sizeSeen ⟨B, 0, none⟩ ⟨g, (i + 1) * 5, none⟩ 1 1 lb cb hne _ _ _ _ hr.shape (own_shape hg) (by omega) (hr.free _) (hr.free _)]
    rfl
  clear ho hr hw
  go_enter Try.func32, Try.ntmps32
  go_wp2_with (simp only [hov])
  go_region_law (refine step_copy_raw rfl (.tmp 73) (.tmp 76) rfl base g (t.length + 1) cap _ HO.out.drew (i + 1) (t.length - i) (cap - (i + 1)) ⟨g, i * 5, none⟩ (t.length + 1 - i) (cap - i) (by simp [Act.eval, Act.put]) (by simp [Act.eval, Act.put]) (t.drop i) (by simp only [List.length_drop, Nat.min_def]; split <;> omega) S0.out (by rw [List.length_drop]; omega) ?_; intro w1 h1 hb1 hk1)
  all_goals
    have O1 := Lib.hid h1
    have B1 := Lib.hid ((Below.refl base w).drew.trans (hb1.mono HG.out))
    have S1 : Hid (SrcR w1 ⟨B, 0, none⟩ [r]) := by
      show SrcR _ _ _
      intro j x hx
      exact (hk1 _ (by rw [Addr.add_lit]; exact hne)).trans (HS.out j x hx)
    clear h1 hb1 hk1
    go_wp2_with (with_reducible refine wpList_copy_raw rfl (.tmp 80) (.tmp 81) rfl base g (t.length + 1) cap _ O1.out i (t.length + 1 - i) (cap - i) ⟨B, 0, none⟩ 1 1 rfl rfl [r] (by simp only [List.length_singleton, Nat.min_def]; split <;> omega) S1.out (by simp only [List.length_singleton]; omega) ?_)
    intro w2 h2 hb2 hk2
    rw [HE.out] at h2
    have O2 := Lib.hid (h2.rows (put1_len t i r).symm)
    have B2 := Lib.hid (B1.out.trans (hb2.mono HG.out))
    clear h2 hb2 hk2
    go_wp2_with fail
    go_ret
    exact ⟨_, rfl, O2.out, B2.out⟩

end Go.Proofs.Ytekkofldhhdpgaa

end

section

/-
  ROWS OF TEXTS IN MEMORY, over any program: what they hold, and what append makes of them.
-/
namespace Go.Proofs.Ytekkofldhhdpgaa
open Go.RowKit

/-- A text as a cell's value. -/
def encS (l : List UInt8) : Value := .string ⟨l.toArray⟩

/-- Which list of texts a slice holds. -/
def Texts (w : World) (v : Value) (ls : List (List UInt8)) : Prop :=
  ∃ a cap, v = .slice a ls.length cap ∧ ls.length ≤ cap ∧ cap ≤ maxLen ∧ (a = none → cap = 0) ∧
    (ls = [] ∨ ∃ b off, a = some ⟨b, off, none⟩ ∧ b < w.heap.size ∧ ∀ i, i < ls.length → w.cell? ⟨b, off + i, none⟩ = some (encS (ls.getD i [])))

theorem Texts.later {w w' : World} {v : Value} {ls : List (List UInt8)} (h : Texts w v ls) (hb : Below w.heap.size w w') : Texts w' v ls := by
  obtain ⟨a, cap, h1, h2, h3, h4, h5⟩ := h
  refine ⟨a, cap, h1, h2, h3, h4, ?_⟩
  rcases h5 with h5 | ⟨b, off, e, hlt, hc⟩
  · exact .inl h5
  · exact .inr ⟨b, off, e, Nat.lt_of_lt_of_le hlt hb.size, fun i hi => (hb.cell (p := ⟨b, off + i, none⟩) hlt).trans (hc i hi)⟩

theorem texts_nil (w : World) : Texts w (.slice none 0 0) [] := ⟨none, 0, rfl, by simp, by simp, fun _ => rfl, .inl rfl⟩

/-- A row of the call's own. -/
theorem texts_of_own {w : World} {base e : Nat} {v : Value} {ls : List (List UInt8)} (h : w.ownsRow base e 1 v ls.length (ls.map encS)) : Texts w v ls := by
  rcases h with ⟨_, ⟨rfl, h0⟩ | ⟨g, cap, cur, rfl, hb, hg, hn, hc, hsz, htk⟩⟩
  · obtain rfl : ls = [] := List.length_eq_zero_iff.1 h0
    exact texts_nil w
  · refine ⟨some ⟨g, 0, none⟩, cap, rfl, hn, hc, (fun e => by cases e), ?_⟩
    refine .inr ⟨g, 0, rfl, (Array.getElem?_eq_some_iff.1 hg).1, fun i hi => ?_⟩
    rw [Nat.zero_add, cell_of_row w g i cur e (0, 0) hg]
    have h1 : cur.toList[i]? = (ls.map encS)[i]? := by
      rw [← htk, List.getElem?_take, if_pos (by omega)]
    have h2 : (ls.map encS)[i]? = some (encS (ls.getD i [])) := by
      simp [List.getD, List.getElem?_eq_getElem hi]
    rw [← h2, ← h1]
    simp

/-- A row of texts of the call's own. -/
def OwnT (w : World) (base e : Nat) (v : Value) (ls : List (List UInt8)) : Prop := w.ownsRow base e 1 v ls.length (ls.map encS)

theorem OwnT.alloc {w : World} {base e : Nat} {v : Value} {ls : List (List UInt8)} (h : OwnT w base e v ls) (o : Obj) : OwnT (w.alloc o) base e v ls := World.ownsRow.alloc h o
theorem OwnT.texts {w : World} {base e : Nat} {v : Value} {ls : List (List UInt8)} (h : OwnT w base e v ls) : Texts w v ls := texts_of_own h
end Go.Proofs.Ytekkofldhhdpgaa

end

section

/-
  THE CONTRACTS OF THE DOCUMENT'S Few AND Same.
-/
namespace Go.Proofs.Ytekkofldhhdpgaa
open Go.RowKit

def fewB (ls : List (List UInt8)) : Bool := decide (ls.length ≤ 30) && ls.all fun t => decide (t.length ≤ 30)

theorem getD_some {ls : List (List UInt8)} {k : Nat} (h : k < ls.length) : ls[k]? = some (ls.getD k []) := by simp [List.getD, List.getElem?_eq_getElem h]

end Go.Proofs.Ytekkofldhhdpgaa

end

section

/-
  THE CONTRACTS OF THE DOCUMENT'S put AND Merge.
-/
namespace Go.Proofs.Ytekkofldhhdpgaa
open Go.RowKit

/-- What Merge hands to put: nil, or a row that is not empty. -/
def Heaped (w : World) (v : Value) (ls : List (List UInt8)) : Prop := Texts w v ls ∧ (ls = [] → v = .slice none 0 0)

end Go.Proofs.Ytekkofldhhdpgaa

end

section

/-
  THE CONTRACT OF THE DOCUMENT'S Merge.
-/
namespace Go.Proofs.Ytekkofldhhdpgaa
open Go.RowKit

theorem Heaped.later {w w' : World} {v : Value} {ls : List (List UInt8)} (h : Heaped w v ls) (hb : Below w.heap.size w w') : Heaped w' v ls := ⟨h.1.later hb, h.2⟩

/-- A cell of a row, in a later world. -/
theorem Texts.cell {w wr : World} {a : Option Addr} {n cap : Nat} {ls : List (List UInt8)} (h : Texts w (.slice a n cap) ls) (hb : Below w.heap.size w wr) (k : Nat) (hk : k < ls.length) :
    ∃ b off, a = some ⟨b, off, none⟩ ∧ wr.cell? ⟨b, off + k, none⟩ = some (.string ⟨(ls.getD k []).toArray⟩) := by
  obtain ⟨a', cap', e, _, _, _, h⟩ := h.later hb
  simp only [Value.slice.injEq] at e
  rcases h with h | ⟨b, off, e', _, hc⟩
  · rw [h] at hk; simp at hk
  · exact ⟨b, off, e.1.trans e', hc k hk⟩

end Go.Proofs.Ytekkofldhhdpgaa

end

section

/-
  THE CONTRACTS OF slices.Grow (of nil) AND slices.Concat (of two rows of texts), AT THIS PROGRAM.
-/
namespace Go.Proofs.Ytekkofldhhdpgaa
open Go.RowKit

end Go.Proofs.Ytekkofldhhdpgaa

end

section

/-
  THE CONTRACT OF ident.Merge: the lists as one, sorted, each text once.
-/
namespace Go.Proofs.Ytekkofldhhdpgaa
open Go.RowKit Go.Lib Go.Sort

end Go.Proofs.Ytekkofldhhdpgaa

end

section

/-
  THE CONTRACTS OF digest.place, digest.contacts AND OF THE DOCUMENT'S contacts.
-/
namespace Go.Proofs.Ytekkofldhhdpgaa
open Go.RowKit

set_option maxHeartbeats 1600000 in
set_option maxRecDepth 100000 in
theorem diplace_any {w : World} {v : Value} {t : List Row} (hv : Tab w v t) (key : List UInt8) :
    Calls Try.prog 33 #[v, .string ⟨key.toArray⟩] w fun e w' => e = .returned (.int .i64 (diPlace t key)) ∧ Below w.heap.size w w' := by
  have HV := Lib.hid hv
  obtain ⟨a, cap, rfl, hm⟩ := hv.open'
  clear hv
  go_enter Try.func33, Try.ntmps33
  go_wp2_with fail
  go_loopw [5] (fun i wr => ∃ k : Nat, k ≤ t.length ∧ i = .int .i64 k ∧ Hid (Below w.heap.size w wr) ∧ Hid (plc t key k = diPlace t key)) (fun i _ => (intOf i).toNat)
  case atStart => exact ⟨t.length, by omega, rfl, Below.refl _ _, rfl⟩
  case round =>
    obtain ⟨k, hk, rfl, HN, HA⟩ := hrel
    rcases Nat.eq_zero_or_pos k with rfl | hpos
    · have HR : Hid (diPlace t key = 0) := by show _ = _; rw [← HA.out]; rfl
      go_wp2_with fail
      go_ret
      exact ⟨by rw [HR.out]; rfl, HN.out⟩
    · obtain ⟨j, rfl⟩ : ∃ j, k = j + 1 := ⟨k - 1, by omega⟩
      obtain ⟨b, off, rfl, h0, _, _, _, _⟩ := HV.out.row HN.out j (by omega)
      obtain ⟨yy, hy⟩ : ∃ yy, (t.getD j Row.zero).c = yy := ⟨_, rfl⟩
      rw [hy] at h0
      have ha := HA.out
      unfold plc at ha
      rw [hy] at ha
      cases hle : idLess yy key with
      | true =>
        rw [if_pos hle] at ha
        have HR := Lib.hid ha
        have HLe := Lib.hid (less_eq yy key (r := true) (Lib.hid hle))
        clear hle ha hy hpos
        go_wp2_with fail
        refine (HLe.out _).mono ?_
        rintro e w1 ⟨rfl, hb1⟩
        have N1 := Lib.hid (below2' HN.out hb1)
        clear hb1 h0
        go_wp2_with fail
        go_ret
        exact ⟨by rw [← HR.out]; rfl, N1.out⟩
      | false =>
        rw [if_neg (by rw [hle]; decide)] at ha
        have HA2 := Lib.hid ha
        have HLe := Lib.hid (less_eq yy key (r := false) (Lib.hid hle))
        clear hle ha hy hpos
        go_wp2_with fail
        refine (HLe.out _).mono ?_
        rintro e w1 ⟨rfl, hb1⟩
        have N1 := Lib.hid (below2' HN.out hb1)
        clear hb1 h0
        go_wp2_with fail
        go_roundw
        case rel => exact ⟨j, by omega, by go_num, N1, HA2⟩
        case measure => first | (simp [intOf]; done) | (simp [intOf]; omega)

/-- A row of texts that may be written. -/
def RowT (w : World) (B : Nat) (u : List (List UInt8)) : Prop := ∀ j, j < u.length → w.cell? ⟨B, j, none⟩ = some (encS (u.getD j [])) ∧ w.frozen? ⟨B, j, none⟩ = false

theorem RowT.set {w : World} {B : Nat} {u : List (List UInt8)} (h : RowT w B u) (j : Nat) (x : List UInt8) (hj : j < u.length) : RowT (w.setCell ⟨B, j, none⟩ (encS x)) B (u.set j x) := by
  intro i hi
  have hi' : i < u.length := by simpa using hi
  refine ⟨?_, (World.frozen?_setCell w _ _ _).trans (h i hi').2⟩
  by_cases hij : i = j
  · subst hij
    rw [World.cell?_setCell_same _ _ _ (h i hj).1]
    simp [List.getD, hj]
  · rw [World.cell?_setCell_other _ _ _ _ (by simp), (h i hi').1]
    simp [List.getD, show ¬ j = i by omega]

theorem RowT.later {w w' : World} {B : Nat} {u : List (List UInt8)} (h : RowT w B u) (hB : B < w.heap.size) (hb : Below w.heap.size w w') : RowT w' B u := fun j hj =>
  ⟨(hb.cell (p := ⟨B, j, none⟩) hB).trans (h j hj).1, (hb.frozen (p := ⟨B, j, none⟩) hB).trans (h j hj).2⟩

theorem RowT.texts {w : World} {B : Nat} {u : List (List UInt8)} (h : RowT w B u) (hB : B < w.heap.size) (hl : u.length ≤ 4294967296) : Texts w (.slice (some ⟨B, 0, none⟩) u.length u.length) u :=
  ⟨_, u.length, rfl, Nat.le_refl _, by unfold maxLen; omega, (fun e => by cases e), .inr ⟨B, 0, rfl, hB, fun i hi => by rw [Nat.zero_add]; exact (h i hi).1⟩⟩

/-- The contacts up to k, and nothing yet behind. -/
def ctsAt (t : List Row) (k : Nat) : List (List UInt8) := (cts t).take k ++ List.replicate (t.length - k) []

end Go.Proofs.Ytekkofldhhdpgaa

end

section

/-
  THE CONTRACT OF digest.Set.
-/
namespace Go.Proofs.Ytekkofldhhdpgaa
open Go.RowKit

theorem OwnR.drew {w : World} {base : Nat} {v : Value} {t : List Row} (h : OwnR w base v t) : OwnR w.drew base v t := World.ownsRow.drew h

theorem own_apart {w : World} {base B : Nat} {v : Value} {t : List Row} (h : OwnR w base v t) (hB : w.heap.size ≤ B) : ∀ g n c, v = .slice (some ⟨g, 0, none⟩) n c → B ≠ g := by
  intro g n c e
  subst e
  have := h.head.2.2.1
  omega

theorem insert_any {w : World} {base : Nat} {v : Value} {t : List Row} (ho : OwnR w base v t) (hbase : base ≤ w.heap.size) (hl : t.length ≤ 1000) {i : Nat} (hi : i ≤ t.length) {B : Nat} {r : Row} (hr : Lone w B r) (hne : ∀ g n c, v = .slice (some ⟨g, 0, none⟩) n c → B ≠ g) :
    Calls Try.prog 32 #[v, .int .i64 i, .slice (some ⟨B, 0, none⟩) 1 1] w fun e w' => ∃ u, e = .returned u ∧ OwnR w' base u (put1 t i r) ∧ Below base w w' := by
  by_cases h : i = t.length
  · subst h
    exact insert_end ho hbase hl hr
  · have hi' : i < t.length := by omega
    rcases ho.2 with ⟨rfl, h0⟩ | ⟨g, cap, cur, rfl, _, _, hnc, hcm, _⟩
    · omega
    · by_cases hc : cap = t.length
      · exact insert_grow ho hbase hl hi' hc hr
      · unfold maxLen at hcm
        exact insert_room ho hl hi' (by omega) (by omega) hr (hne _ _ _ rfl)

def chgAgg (c : Chg) : Value := .agg #[.string ⟨c.c.toArray⟩, .bool c.on, .int .i64 c.v.sh, .int .i64 c.v.pr, .int .i64 c.v.si, .string ⟨c.v.st.toArray⟩]

theorem six_cells (w : World) (a b c d e f : Value) (t : TypeId) : (w.alloc (.cells #[a, b, c, d, e, f] t)).cell? ⟨w.heap.size, 0, none⟩ = some a ∧ (w.alloc (.cells #[a, b, c, d, e, f] t)).cell? ⟨w.heap.size, 1, none⟩ = some b ∧ (w.alloc (.cells #[a, b, c, d, e, f] t)).cell? ⟨w.heap.size, 2, none⟩ = some c ∧ (w.alloc (.cells #[a, b, c, d, e, f] t)).cell? ⟨w.heap.size, 3, none⟩ = some d ∧ (w.alloc (.cells #[a, b, c, d, e, f] t)).cell? ⟨w.heap.size, 4, none⟩ = some e ∧ (w.alloc (.cells #[a, b, c, d, e, f] t)).cell? ⟨w.heap.size, 5, none⟩ = some f :=
  ⟨by rw [World.cell?_alloc_at _ _ _ _ rfl]; rfl, by rw [World.cell?_alloc_at _ _ _ _ rfl]; rfl, by rw [World.cell?_alloc_at _ _ _ _ rfl]; rfl, by rw [World.cell?_alloc_at _ _ _ _ rfl]; rfl, by rw [World.cell?_alloc_at _ _ _ _ rfl]; rfl, by rw [World.cell?_alloc_at _ _ _ _ rfl]; rfl⟩

/-- Five cells of a block below a bound, in a later world. -/
theorem keep5b {w w' : World} {B C : Nat} {a b c d e : Value} (hb : Below B w w') (hC : C < B)
    (h : w.cell? ⟨C, 0, none⟩ = some a ∧ w.cell? ⟨C, 2, none⟩ = some b ∧ w.cell? ⟨C, 3, none⟩ = some c ∧ w.cell? ⟨C, 4, none⟩ = some d ∧ w.cell? ⟨C, 5, none⟩ = some e) :
    w'.cell? ⟨C, 0, none⟩ = some a ∧ w'.cell? ⟨C, 2, none⟩ = some b ∧ w'.cell? ⟨C, 3, none⟩ = some c ∧ w'.cell? ⟨C, 4, none⟩ = some d ∧ w'.cell? ⟨C, 5, none⟩ = some e :=
  ⟨(hb.cell (p := ⟨C, 0, none⟩) hC).trans h.1, (hb.cell (p := ⟨C, 2, none⟩) hC).trans h.2.1, (hb.cell (p := ⟨C, 3, none⟩) hC).trans h.2.2.1, (hb.cell (p := ⟨C, 4, none⟩) hC).trans h.2.2.2.1, (hb.cell (p := ⟨C, 5, none⟩) hC).trans h.2.2.2.2⟩

theorem diSet_off {t : List Row} {c : Chg} (h : c.on = false) : diSet t c = diRest t c.c := by unfold diSet; rw [if_neg (by rw [h]; decide)]
theorem diSet_on {t : List Row} {c : Chg} (h : c.on = true) : diSet t c = put1 (diRest t c.c) (diPlace (diRest t c.c) c.c) ⟨c.c, c.v⟩ := by unfold diSet; rw [if_pos h]; rfl

theorem diRest_len (t : List Row) (x : List UInt8) : (diRest t x).length ≤ t.length := by unfold diRest; exact List.length_filter_le _ _

set_option maxHeartbeats 3200000 in
set_option maxRecDepth 1000000 in
theorem set_any {w : World} {v : Value} {t : List Row} (hv : Tab w v t) (hl : t.length ≤ 1000) (c : Chg) :
    Calls Try.prog 15 #[v, chgAgg c] w fun e w' => ∃ u, e = .returned u ∧ OwnR w' w.heap.size u (diSet t c) ∧ Below w.heap.size w w' := by
  obtain ⟨x, on, sh, pr, si, st⟩ := c
  have HW := Lib.hid (without_any (hv.later ((Below.refl _ _).alloc (Nat.le_refl _) (.cells #[.string ⟨x.toArray⟩, .bool on, .int .i64 sh, .int .i64 pr, .int .i64 si, .string ⟨st.toArray⟩] 45))) (by omega) x)
  have hrl := diRest_len t x
  obtain ⟨a, cap, rfl, _⟩ := hv.open'
  unfold chgAgg
  obtain ⟨k0, k1, k2, k3, k4, k5⟩ := six_cells w (.string ⟨x.toArray⟩) (.bool on) (.int .i64 sh) (.int .i64 pr) (.int .i64 si) (.string ⟨st.toArray⟩) 45
  have K0 := Lib.hid k0
  have K1 := Lib.hid k1
  have K2 := Lib.hid k2
  have K3 := Lib.hid k3
  have K4 := Lib.hid k4
  have K5 := Lib.hid k5
  clear hv k0 k1 k2 k3 k4 k5
  go_enter Try.func15, Try.ntmps15
  go_wp2_with fail
  refine HW.out.mono ?_
  rintro e w1 ⟨u, rfl, ho1, hb1, hz1⟩
  have k0 := cell_later K0.out hb1
  have k1 := cell_later K1.out hb1
  have k2 := cell_later K2.out hb1
  have k3 := cell_later K3.out hb1
  have k4 := cell_later K4.out hb1
  have k5 := cell_later K5.out hb1
  have hsz : w.heap.size + 1 < w1.heap.size := by simpa using hz1
  have B1 : Hid (Below w.heap.size w w1) := below2' ((Below.refl _ _).alloc (Nat.le_refl _) _) hb1
  have O1 : Hid (OwnR w1 (w.heap.size + 1) u (diRest t x)) := ownR_low ho1 (by simp)
  clear HW K0 K1 K2 K3 K4 K5 hb1 ho1 hz1
  cases on with
  | false =>
    have HE := Lib.hid (diSet_off (t := t) (c := ⟨x, false, ⟨sh, pr, si, st⟩⟩) rfl)
    go_wp2_with fail
    go_ret
    exact ⟨_, rfl, by rw [HE.out]; exact ownR_low O1.out (Nat.le_succ _), B1.out⟩
  | true =>
    have HE := Lib.hid (diSet_on (t := t) (c := ⟨x, true, ⟨sh, pr, si, st⟩⟩) rfl)
    have hpl : diPlace (diRest t x) x ≤ (diRest t x).length := plc_le _ _ _
    go_wp2_with fail
    go_region_held (fun W => W.cell? ⟨w.heap.size, 0, none⟩ = some (.string ⟨x.toArray⟩) ∧ W.cell? ⟨w.heap.size, 2, none⟩ = some (.int .i64 sh) ∧ W.cell? ⟨w.heap.size, 3, none⟩ = some (.int .i64 pr) ∧ W.cell? ⟨w.heap.size, 4, none⟩ = some (.int .i64 si) ∧ W.cell? ⟨w.heap.size, 5, none⟩ = some (.string ⟨st.toArray⟩))
      (first | (with_reducible exact keep5b (by assumption) (Nat.lt_succ_self _) (by assumption)) | go_keep)
      ((first
        | (go_at_call 33; go_loud (refine (diplace_any (v := u) (t := diRest t x) (by first | exact O1.out.drew.tab | exact (O1.out.drew.alloc _).tab) x).mono ?_; rintro e w2 ⟨rfl, hb2⟩; (have O2 : Hid (OwnR w2 (w.heap.size + 1) u (diRest t x)) := Lib.hid (by first | exact O1.out.drew.later hb2 | exact (O1.out.drew.alloc _).later hb2)); (have hs2 : w.heap.size + 1 < w2.heap.size := by (have := hb2.size; first | exact Nat.lt_of_lt_of_le hsz this | (simp at this; omega))); (try (refine mpr2 (p := Lone w2 w1.heap.size ⟨x, ⟨sh, pr, si, st⟩⟩) ?_ ?_; (· exact (lone_new w1.drew ⟨x, ⟨sh, pr, si, st⟩⟩).later hb2); intro hL2; (have L2 := Lib.hid hL2); clear hL2)); (have B2 : Hid (Below w.heap.size w w2) := Lib.hid (by first | exact below2' B1.out.drew hb2 | exact below2' (bl_alloc B1.out.drew _) hb2)); (have hS2 : Below (w.heap.size + 1) _ w2 := hb2.mono (by first | exact Nat.le_of_lt hsz | (simp; omega))); clear hb2))
        | (go_at_call 32; go_loud (refine (insert_any (base := w.heap.size + 1) (t := diRest t x) (i := diPlace (diRest t x) x) (r := ⟨x, ⟨sh, pr, si, st⟩⟩) (by first | exact O2.out | exact O2.out.alloc _) (by first | exact Nat.le_of_lt hs2 | (simp; omega)) (by omega) hpl (by first | exact L2.out | exact lone_new w2 ⟨x, ⟨sh, pr, si, st⟩⟩) (by first | exact own_apart O1.out (Nat.le_refl _) | exact own_apart (w := w2) O2.out (Nat.le_refl _) | exact own_apart (O2.out.alloc _) (by simp))).mono ?_; rintro e w3 ⟨u3, rfl, ho3, hb3⟩; (have O3 := Lib.hid ho3); (have B3 : Hid (Below w.heap.size w w3) := Lib.hid (by first | exact B2.out.trans (hb3.mono (Nat.le_succ _)) | exact (bl_alloc B2.out _).trans (hb3.mono (Nat.le_succ _)))); clear ho3))))
    all_goals
      go_wp2_with fail
      go_ret
      exact ⟨_, rfl, by rw [HE.out]; exact ownR_low O3.out (Nat.le_succ _), B3.out⟩

end Go.Proofs.Ytekkofldhhdpgaa

end

section

/-
  FOR THE FRAMES OF LAYER 5's PROOFS: tables and changes that came in, opened.
-/
namespace Go.Proofs.Ytekkofldhhdpgaa
open Go.ChangeShapes Go.WideShapes Go.ChangeAt Go.RowKit Go.Deep

section
variable {H : Type} {enc : TypeId × Value → H} {w : World} {base : Nat} {spare : Nat → Bool} {held : Bool}

theorem trod_int1 {fuel : Nat} {cs : List Value} {x : DataW H × List MemPlace} (h : DataW.trod enc Try.prog w base spare held fuel 3 cs = some x) : ∃ z, cs = [.int .i64 z] := by
  obtain ⟨z, e, _, _⟩ := DataW.trod_int Try.underlying3 h
  exact ⟨z, e⟩

theorem trod_text {fuel : Nat} {cs : List Value} {x : DataW H × List MemPlace} (h : DataW.trod enc Try.prog w base spare held fuel 9 cs = some x) : ∃ l : List UInt8, cs = [.string ⟨l.toArray⟩] ∧ l.length ≤ maxLen := by
  obtain ⟨s, e, _, ws⟩ := DataW.trod_string Try.underlying9 h
  exact ⟨s.data.toList, by rw [e], Nat.le_trans (Nat.le_of_eq (Array.length_toList (xs := s.data))) ws⟩

theorem trod_truth {fuel : Nat} {cs : List Value} {x : DataW H × List MemPlace} (h : DataW.trod enc Try.prog w base spare held fuel 4 cs = some x) : ∃ b, cs = [.bool b] := by
  obtain ⟨b, e, _⟩ := DataW.trod_bool Try.underlying4 h
  exact ⟨b, e⟩

theorem list4 {α : Type} {l : List α} (h : l.length = 4) : ∃ a b c d, l = [a, b, c, d] := by
  match l, h with
  | [a, b, c, d], _ => exact ⟨a, b, c, d, rfl⟩
theorem list5 {α : Type} {l : List α} (h : l.length = 5) : ∃ a b c d e, l = [a, b, c, d, e] := by
  match l, h with
  | [a, b, c, d, e], _ => exact ⟨a, b, c, d, e, rfl⟩
set_option maxRecDepth 100000 in
/-- A value's cells. -/
theorem trod_value {fuel : Nat} {cs : List Value} {x : DataW H × List MemPlace} (h : DataW.trod enc Try.prog w base spare held fuel 31 cs = some x) :
    ∃ v : Val, cs = [.int .i64 v.sh, .int .i64 v.pr, .int .i64 v.si, .string ⟨v.st.toArray⟩] ∧ v.st.length ≤ maxLen := by
  obtain ⟨xs, n, _, _, hl, hx, hf⟩ := DataW.trod_struct Try.underlying31 h
  have c35 : Try.prog.cellsOf 31 = 4 := by kernel_rfl
  have c3 : Try.prog.cellsOf 3 = 1 := by kernel_rfl
  have c9 : Try.prog.cellsOf 9 = 1 := by kernel_rfl
  rw [c35] at hl
  obtain ⟨a, b, c, d, rfl⟩ := list4 hl
  have get : ∀ i, i < 4 → xs[i]? = some (xs.getD i (.nil, [])) := fun i hi => by
    have : i < xs.length := by rw [hx]; exact hi
    simp [List.getD, List.getElem?_eq_getElem this]
  have f0 : DataW.trod enc Try.prog w base spare held n 3 (([a, b, c, d].drop 0).take (Try.prog.cellsOf 3)) = some (xs.getD 0 (.nil, [])) := (hf 0 _ rfl).trans (get 0 (by omega))
  have f1 : DataW.trod enc Try.prog w base spare held n 3 (([a, b, c, d].drop 1).take (Try.prog.cellsOf 3)) = some (xs.getD 1 (.nil, [])) := (hf 1 _ rfl).trans (get 1 (by omega))
  have f2 : DataW.trod enc Try.prog w base spare held n 3 (([a, b, c, d].drop 2).take (Try.prog.cellsOf 3)) = some (xs.getD 2 (.nil, [])) := (hf 2 _ rfl).trans (get 2 (by omega))
  have f3 : DataW.trod enc Try.prog w base spare held n 9 (([a, b, c, d].drop 3).take (Try.prog.cellsOf 9)) = some (xs.getD 3 (.nil, [])) := (hf 3 _ rfl).trans (get 3 (by omega))
  rw [c3] at f0 f1 f2
  rw [c9] at f3
  obtain ⟨z0, e0⟩ := trod_int1 f0
  obtain ⟨z1, e1⟩ := trod_int1 f1
  obtain ⟨z2, e2⟩ := trod_int1 f2
  obtain ⟨l, e3, w3⟩ := trod_text f3
  simp at e0 e1 e2 e3
  subst e0 e1 e2 e3
  exact ⟨⟨z0, z1, z2, l⟩, rfl, w3⟩

set_option maxRecDepth 100000 in
/-- A row's cells. -/
theorem trod_row {fuel : Nat} {cs : List Value} {x : DataW H × List MemPlace} (h : DataW.trod enc Try.prog w base spare held fuel 57 cs = some x) :
    ∃ r : Row, cs = rowVals r ∧ r.c.length ≤ maxLen ∧ r.v.st.length ≤ maxLen := by
  obtain ⟨xs, n, _, _, hl, hx, hf⟩ := DataW.trod_struct Try.underlying57 h
  have c48 : Try.prog.cellsOf 57 = 5 := by kernel_rfl
  have c35 : Try.prog.cellsOf 31 = 4 := by kernel_rfl
  have c9 : Try.prog.cellsOf 9 = 1 := by kernel_rfl
  rw [c48] at hl
  obtain ⟨a, b, c, d, e, rfl⟩ := list5 hl
  have get : ∀ i, i < 2 → xs[i]? = some (xs.getD i (.nil, [])) := fun i hi => by
    have : i < xs.length := by rw [hx]; exact hi
    simp [List.getD, List.getElem?_eq_getElem this]
  have f0 : DataW.trod enc Try.prog w base spare held n 9 (([a, b, c, d, e].drop 0).take (Try.prog.cellsOf 9)) = some (xs.getD 0 (.nil, [])) := (hf 0 _ rfl).trans (get 0 (by omega))
  have f1 : DataW.trod enc Try.prog w base spare held n 31 (([a, b, c, d, e].drop 1).take (Try.prog.cellsOf 31)) = some (xs.getD 1 (.nil, [])) := (hf 1 _ rfl).trans (get 1 (by omega))
  rw [c9] at f0
  rw [c35] at f1
  obtain ⟨l, e0, w0⟩ := trod_text f0
  obtain ⟨v, e1, w1⟩ := trod_value f1
  simp at e0 e1
  obtain ⟨e1, e2, e3, e4⟩ := e1
  subst e0 e1 e2 e3 e4
  exact ⟨⟨l, v⟩, rfl, w0, w1⟩

theorem choose_rows {n : Nat} {Q : Nat → Row → Prop} (h : ∀ i, i < n → ∃ r, Q i r) : ∃ t : List Row, t.length = n ∧ ∀ i, i < n → Q i (t.getD i Row.zero) := by
  induction n with
  | zero => exact ⟨[], rfl, fun i hi => absurd hi (by omega)⟩
  | succ n ih =>
    obtain ⟨t, hl, ht⟩ := ih fun i hi => h i (by omega)
    obtain ⟨r, hr⟩ := h n (by omega)
    refine ⟨t ++ [r], by simp [hl], fun i hi => ?_⟩
    by_cases hin : i < n
    · have := ht i hin
      simp only [List.getD] at this ⊢
      rwa [List.getElem?_append_left (by omega)]
    · obtain rfl : i = n := by omega
      simp only [List.getD]
      rw [List.getElem?_append_right (by omega), hl]
      simpa using hr

end

end Go.Proofs.Ytekkofldhhdpgaa

end

section

/-
  PLAIN MATHEMATICS OF LAYER 2 (crc): a sum of 32 bits, how it goes by XOR, and that four bytes changed are told. No program in sight.
-/
namespace Go.Proofs.Ytekkofldhhdpgaa

/-- One bit. -/
def c1 (x : Nat) : Nat := if x % 2 = 1 then x / 2 ^^^ 3988292384 else x / 2

/-- k bits. -/
def cN : Nat → Nat → Nat
  | 0, x => x
  | k + 1, x => cN k (c1 x)

def cstep (c b : Nat) : Nat := cN 8 (c ^^^ b)

def cfold (c : Nat) (l : List UInt8) : Nat := l.foldl (fun c b => cstep c b.toNat) c

def csum (l : List UInt8) : Nat := cfold 4294967295 l ^^^ 4294967295

def low4 (n : Nat) : List UInt8 := [u8of (n % 256), u8of (n / 256 % 256), u8of (n / 65536 % 256), u8of (n / 16777216 % 256)]

def cseal (l : List UInt8) : List UInt8 := l ++ low4 (csum l)

def copen (t : List UInt8) : List UInt8 × Nat :=
  if t.length < 4 then ([], 2) else if t.drop (t.length - 4) = low4 (csum (t.take (t.length - 4))) then (t.take (t.length - 4), 0) else ([], 4)

theorem xor_cancel (x y : Nat) : x ^^^ y ^^^ y = x := by rw [Nat.xor_assoc, Nat.xor_self, Nat.xor_zero]

theorem xor_zero_eq {x y : Nat} (h : x ^^^ y = 0) : x = y := by
  have := xor_cancel x y
  rw [h, Nat.zero_xor] at this
  exact this.symm

theorem c1_zero : c1 0 = 0 := by simp [c1]

theorem c1_xor (x y : Nat) : c1 (x ^^^ y) = c1 x ^^^ c1 y := by
  unfold c1
  have h := @Nat.xor_mod_two_eq_one x y
  rw [Nat.xor_div_two]
  by_cases hx : x % 2 = 1
  · by_cases hy : y % 2 = 1
    · rw [if_neg (by rw [h]; simp [hx, hy]), if_pos hx, if_pos hy]
      rw [Nat.xor_assoc (x / 2), ← Nat.xor_assoc 3988292384, Nat.xor_comm 3988292384 (y / 2), xor_cancel]
    · rw [if_pos (by rw [h]; simp [hx, hy]), if_pos hx, if_neg hy]
      rw [Nat.xor_assoc, Nat.xor_assoc, Nat.xor_comm (y / 2)]
  · by_cases hy : y % 2 = 1
    · rw [if_pos (by rw [h]; simp [hx, hy]), if_neg hx, if_pos hy, Nat.xor_assoc]
    · rw [if_neg (by rw [h]; simp [hx, hy]), if_neg hx, if_neg hy]

theorem c1_lt {x : Nat} (h : x < 4294967296) : c1 x < 4294967296 := by
  unfold c1
  split
  · exact Nat.xor_lt_two_pow (n := 32) (by omega) (by omega)
  · omega

theorem c1_zero_of {x : Nat} (h : x < 4294967296) (h0 : c1 x = 0) : x = 0 := by
  unfold c1 at h0
  split at h0
  · have := xor_zero_eq h0
    omega
  · omega

theorem c1_double (x : Nat) : c1 (2 * x) = x := by
  unfold c1
  rw [if_neg (by omega)]
  omega

theorem cN_zero : ∀ k, cN k 0 = 0
  | 0 => rfl
  | k + 1 => by rw [cN, c1_zero]; exact cN_zero k

theorem cN_xor : ∀ (k x y : Nat), cN k (x ^^^ y) = cN k x ^^^ cN k y
  | 0, _, _ => rfl
  | k + 1, x, y => by simp only [cN]; rw [c1_xor]; exact cN_xor k _ _

theorem cN_lt : ∀ (k : Nat) {x : Nat}, x < 4294967296 → cN k x < 4294967296
  | 0, _, h => h
  | k + 1, _, h => cN_lt k (c1_lt h)

theorem cN_zero_of : ∀ (k : Nat) {x : Nat}, x < 4294967296 → cN k x = 0 → x = 0
  | 0, _, _, h0 => h0
  | k + 1, _, h, h0 => c1_zero_of h (cN_zero_of k (c1_lt h) h0)

theorem cN_add : ∀ (j k x : Nat), cN (j + k) x = cN k (cN j x)
  | 0, k, x => by rw [Nat.zero_add]; rfl
  | j + 1, k, x => by rw [show j + 1 + k = (j + k) + 1 by omega]; simp only [cN]; exact cN_add j k _

theorem cN_shift : ∀ (k x : Nat), cN k (x * 2 ^ k) = x
  | 0, x => by simp [cN]
  | k + 1, x => by
    simp only [cN]
    rw [Nat.pow_succ, Nat.mul_comm (2 ^ k) 2, ← Nat.mul_assoc, Nat.mul_comm x 2, Nat.mul_assoc, c1_double]
    exact cN_shift k x

theorem cstep_lt {c b : Nat} (hc : c < 4294967296) (hb : b < 4294967296) : cstep c b < 4294967296 := cN_lt 8 (Nat.xor_lt_two_pow (n := 32) hc hb)

theorem cfold_lt : ∀ (l : List UInt8) {c : Nat}, c < 4294967296 → cfold c l < 4294967296
  | [], _, h => h
  | b :: l, _, h => cfold_lt l (cstep_lt h (by have := b.toNat_lt; omega))

theorem cfold_nil (c : Nat) : cfold c [] = c := rfl
theorem cfold_cons (c : Nat) (b : UInt8) (l : List UInt8) : cfold c (b :: l) = cfold (cstep c b.toNat) l := rfl
theorem cfold_append (c : Nat) (a b : List UInt8) : cfold c (a ++ b) = cfold (cfold c a) b := by unfold cfold; exact List.foldl_append

theorem csum_lt (l : List UInt8) : csum l < 4294967296 := Nat.xor_lt_two_pow (n := 32) (cfold_lt l (by decide)) (by decide)

/-- The register goes by XOR. -/
theorem cfold_xor_reg : ∀ (l : List UInt8) (c d : Nat), cfold (c ^^^ d) l = cfold c l ^^^ cN (8 * l.length) d
  | [], c, d => by simp [cfold, cN]
  | b :: l, c, d => by
    rw [cfold_cons, cfold_cons]
    have e : cstep (c ^^^ d) b.toNat = cstep c b.toNat ^^^ cN 8 d := by
      unfold cstep
      rw [← cN_xor, Nat.xor_assoc, Nat.xor_comm d, ← Nat.xor_assoc]
    rw [e, cfold_xor_reg l, List.length_cons, show 8 * (l.length + 1) = 8 + 8 * l.length by omega, cN_add]

/-- One byte that is changed. -/
theorem cfold_set : ∀ (l : List UInt8) (c j : Nat) (m : UInt8) (h : j < l.length), cfold c (l.set j (l[j] ^^^ m)) = cfold c l ^^^ cN (8 * (l.length - j)) m.toNat
  | [], _, _, _, h => by simp at h
  | b :: l, c, 0, m, _ => by
    simp only [List.set_cons_zero, List.getElem_cons_zero, List.length_cons, Nat.sub_zero]
    rw [cfold_cons, cfold_cons, UInt8.toNat_xor]
    have e : cstep c (b.toNat ^^^ m.toNat) = cstep c b.toNat ^^^ cN 8 m.toNat := by
      unfold cstep
      rw [← Nat.xor_assoc, cN_xor]
    rw [e, cfold_xor_reg, show 8 * (l.length + 1) = 8 + 8 * l.length by omega, cN_add]
  | b :: l, c, j + 1, m, h => by
    simp only [List.length_cons] at h
    simp only [List.set_cons_succ, List.getElem_cons_succ, List.length_cons]
    rw [cfold_cons, cfold_cons, cfold_set l _ j m (by omega), show l.length + 1 - (j + 1) = l.length - j by omega]

theorem split8 (v : Nat) : v = v % 256 ^^^ v / 256 * 256 := by
  have h1 : v % 256 < 2 ^ 8 := by omega
  have h2 := Nat.two_pow_add_eq_or_of_lt h1 (v / 256)
  apply Nat.eq_of_testBit_eq
  intro i
  rw [Nat.testBit_xor, show (256 : Nat) = 2 ^ 8 from rfl, Nat.testBit_mod_two_pow, Nat.testBit_mul_two_pow, Nat.testBit_div_two_pow]
  by_cases h : i < 8
  · simp [h, show ¬ 8 ≤ i by omega]
  · simp [h, show 8 ≤ i by omega]

/-- Eight bits of a register into which a word is put. -/
theorem cN8_word (c v : Nat) : cN 8 (c ^^^ v) = cstep c (v % 256) ^^^ v / 256 := by
  conv => lhs; rw [split8 v, ← Nat.xor_assoc, cN_xor]
  rw [show (256 : Nat) = 2 ^ 8 from rfl, cN_shift]
  rfl

theorem low4_fold (c v : Nat) (hv : v < 4294967296) : cfold c (low4 v) = cN 32 (c ^^^ v) := by
  rw [show (32 : Nat) = 8 + (8 + (8 + 8)) from rfl, cN_add, cN8_word, cN_add, cN8_word, cN_add, cN8_word, cN8_word]
  simp only [low4, cfold_cons, cfold_nil]
  rw [u8of_toNat (by omega), u8of_toNat (by omega), u8of_toNat (by omega), u8of_toNat (by omega)]
  rw [show v / 256 / 256 = v / 65536 by omega, show v / 65536 / 256 = v / 16777216 by omega, show v / 16777216 / 256 = 0 by omega, Nat.xor_zero]

/-- What a sealed text's register comes to. -/
def cK : Nat := cN 32 4294967295

theorem cseal_fold (s : List UInt8) : cfold 4294967295 (cseal s) = cK := by
  unfold cseal cK
  rw [cfold_append, low4_fold _ _ (csum_lt s)]
  congr 1
  unfold csum
  rw [← Nat.xor_assoc, Nat.xor_self, Nat.zero_xor]

theorem copen_seal (s : List UInt8) : copen (cseal s) = (s, 0) := by
  have hl : (cseal s).length = s.length + 4 := by simp [cseal, low4]
  unfold copen
  rw [if_neg (by omega), hl, Nat.add_sub_cancel]
  have e1 : (cseal s).take s.length = s := by simp [cseal]
  have e2 : (cseal s).drop s.length = low4 (csum s) := by simp [cseal]
  rw [e1, e2, if_pos rfl]

theorem copen_ok {t s : List UInt8} (h : copen t = (s, 0)) : cseal s = t := by
  unfold copen at h
  split at h
  · simp at h
  · split at h
    · rename_i h4 hd
      simp only [Prod.mk.injEq, and_true] at h
      subst h
      unfold cseal
      rw [← hd, List.take_append_drop]
    · simp at h

theorem copen_spoilt {t : List UInt8} (h : 4 ≤ t.length) (hk : cfold 4294967295 t ≠ cK) : copen t = ([], 4) := by
  unfold copen
  rw [if_neg (by omega)]
  split
  · rename_i hd
    exfalso
    apply hk
    conv => lhs; rw [← List.take_append_drop (t.length - 4) t, hd]
    exact cseal_fold _
  · rfl

end Go.Proofs.Ytekkofldhhdpgaa

end
