/-
  TEXTS OF THE PROOF, one behind the other: QueLive.
-/
import Derived.Test.YthlkfbiclhgdoaaQ05
import Derived.Test.YthlkfbiclhgdoaaQ06
import Derived.Deep.DeepCutAuto
import Derived.Deep.CutBlock

/-
  LAYER 17: the document's live answers.
-/
namespace Go.Proofs.Ythlkfbiclhgdoaa
open Go.RowKit

def lqA : Chg := ⟨[97], true, ⟨4, 0, 0, []⟩⟩
def lqB : Chg := ⟨[98], false, ⟨0, 0, 0, []⟩⟩
def lqC : Chg := ⟨[97], false, ⟨0, 0, 0, []⟩⟩
def lqE : Chg := ⟨[99], false, ⟨0, 0, 0, []⟩⟩
theorem lq1 : quPush ⟨[], false⟩ lqA 2 = ⟨[lqA], false⟩ := by kernel_rfl
theorem lq2 : quPush ⟨[lqA], false⟩ lqB 2 = ⟨[lqA, lqB], false⟩ := by kernel_rfl
theorem lq3 : quPush ⟨[lqA, lqB], false⟩ lqC 2 = ⟨[lqC, lqB], false⟩ := by kernel_rfl
theorem lq4 : quPop ⟨[lqC, lqB], false⟩ = (lqC, ⟨[lqB], false⟩, true) := by kernel_rfl
theorem lq5 : quPush ⟨[lqC, lqB], false⟩ lqE 2 = ⟨[], true⟩ := by kernel_rfl
theorem lq6 : quFind ⟨[lqC, lqB], false⟩ [98] = (lqB, true) := by kernel_rfl
theorem lq7 : quFind ⟨[lqC, lqB], false⟩ [99] = (⟨[], false, ⟨0, 0, 0, []⟩⟩, false) := by kernel_rfl
theorem lq8 : quPop ⟨[], false⟩ = (⟨[], false, ⟨0, 0, 0, []⟩⟩, ⟨[], false⟩, false) := by kernel_rfl
theorem lq9 : quOne lqA = true := by kernel_rfl
theorem lq10 : quOne ⟨[97], true, ⟨0, 0, 0, []⟩⟩ = false := by kernel_rfl
theorem lq11 : quMay ⟨[lqC, lqB], false⟩ 2 = true := by kernel_rfl
theorem lq12 : quMay ⟨[lqC, lqB], false⟩ 1 = false := by kernel_rfl
theorem lq13 : quEmpty ⟨[], false⟩ = true := by kernel_rfl
theorem lq14 : quEmpty ⟨[], true⟩ = false := by kernel_rfl
theorem lq15 : setAll [⟨[97], ⟨4, 0, 0, []⟩⟩] [lqC, lqB] = [] := by kernel_rfl
theorem lqShort : ShortC [lqC, lqB] := by
  intro c hc
  simp only [List.mem_cons, List.not_mem_nil, or_false] at hc
  rcases hc with rfl | rfl <;> (refine ⟨?_, ?_⟩ <;> decide)

theorem chgs_shape {w : World} {v : Value} {l : List Chg} {n : Nat} (h : Chgs w v l) (hn : l.length = n) : ∃ a c, v = .slice a n c := by
  obtain ⟨a, c, e, _⟩ := h
  exact ⟨a, c, by rw [← hn]; exact e⟩

theorem eql_self6 (k : List UInt8) (o : Bool) (a b c : Int) (s : List UInt8) (w : World) :
    (binOp .eql 33 (.agg #[.string ⟨k.toArray⟩, .bool o, .int .i64 a, .int .i64 b, .int .i64 c, .string ⟨s.toArray⟩]) (.agg #[.string ⟨k.toArray⟩, .bool o, .int .i64 a, .int .i64 b, .int .i64 c, .string ⟨s.toArray⟩])).run Try.prog w = .ok (.bool true) w := by
  have := chg_eql6 k k o o a b c a b c s s w
  rwa [cSame_self] at this

theorem twoAt {X : World} {B : Nat} {x y : Value} (h : CellsAt X B 0 [x, y]) : X.cell? ⟨B, 0, none⟩ = some x ∧ X.cell? ⟨B, 1, none⟩ = some y := by
  have h0 := h 0 _ rfl
  have h1 := h 1 _ rfl
  simp only [Nat.zero_add] at h0 h1
  exact ⟨h0, h1⟩

theorem fourAt {X : World} {B : Nat} {a b c d : Value} (h : CellsAt X B 0 [a, b, c, d]) : X.cell? ⟨B, 0, none⟩ = some a ∧ X.cell? ⟨B, 1, none⟩ = some b ∧ X.cell? ⟨B, 2, none⟩ = some c ∧ X.cell? ⟨B, 3, none⟩ = some d := by
  have h0 := h 0 _ rfl
  have h1 := h 1 _ rfl
  have h2 := h 2 _ rfl
  have h3 := h 3 _ rfl
  simp only [Nat.zero_add] at h0 h1 h2 h3
  exact ⟨h0, h1, h2, h3⟩

theorem sixAt {X : World} {B : Nat} {a b c d e f : Value} (h : CellsAt X B 0 [a, b, c, d, e, f]) : X.cell? ⟨B, 0, none⟩ = some a ∧ X.cell? ⟨B, 1, none⟩ = some b ∧ X.cell? ⟨B, 2, none⟩ = some c ∧ X.cell? ⟨B, 3, none⟩ = some d ∧ X.cell? ⟨B, 4, none⟩ = some e ∧ X.cell? ⟨B, 5, none⟩ = some f := by
  have h0 := h 0 _ rfl
  have h1 := h 1 _ rfl
  have h2 := h 2 _ rfl
  have h3 := h 3 _ rfl
  have h4 := h 4 _ rfl
  have h5 := h 5 _ rfl
  simp only [Nat.zero_add] at h0 h1 h2 h3 h4 h5
  exact ⟨h0, h1, h2, h3, h4, h5⟩

theorem cellsAt_two {X : World} {B : Nat} {x y : Value} (h0 : X.cell? ⟨B, 0, none⟩ = some x) (h1 : X.cell? ⟨B, 1, none⟩ = some y) : CellsAt X B 0 [x, y] := by
  intro j u hu
  match j, hu with
  | 0, hu => simp only [List.getElem?_cons_zero, Option.some.injEq] at hu; subst hu; exact h0
  | 1, hu => simp only [List.getElem?_cons_succ, List.getElem?_cons_zero, Option.some.injEq] at hu; subst hu; exact h1
  | j + 2, hu => simp at hu

/-- Two stores into a queue's block leave changes alone. -/
theorem chgs_far {w : World} {v : Value} {l : List Chg} (h : Chgs w v l) {B : Nat} {x y x' y' : Value} (hb : w.heap[B]? = some (.cells #[x, y] 24 (0, 0))) : Chgs ((w.setCell ⟨B, 0, none⟩ x').setCell ⟨B, 1, none⟩ y') v l := by
  obtain ⟨a, cap, h1, h2, h3, h4, h5⟩ := h
  refine ⟨a, cap, h1, h2, h3, h4, ?_⟩
  rcases h5 with h5 | ⟨b, off, e, hlt, hc⟩
  · exact .inl h5
  · by_cases ht : l = []
    · exact .inl ht
    · have hpos : 0 < l.length := List.length_pos_iff.2 ht
      have hne : ¬ b = B := by
        rintro rfl
        have h5 := (hc 0 hpos).2.2.2.2.2
        rw [Nat.zero_mul, Nat.add_zero] at h5
        simp only [World.cell?, hb] at h5
        have hcs : (#[x, y] : Array Value)[off + 5]? = some (.string ⟨(l.getD 0 Chg.zero).v.st.toArray⟩) := by simp at h5
        have := (Array.getElem?_eq_some_iff.1 hcs).1
        simp at this
        omega
      refine .inr ⟨b, off, e, by simpa [World.setCell] using hlt, fun i hi => ?_⟩
      have k : ∀ o, ((w.setCell ⟨B, 0, none⟩ x').setCell ⟨B, 1, none⟩ y').cell? ⟨b, o, none⟩ = w.cell? ⟨b, o, none⟩ := fun o => by
        apply World.cell?_of_block
        show (World.setCell _ _ _).heap[b]? = _
        rw [Below.heap_setCell _ _ _ b hne, Below.heap_setCell _ _ _ b hne]
      obtain ⟨c0, c1, c2, c3, c4, c5⟩ := hc i hi
      exact ⟨(k _).trans c0, (k _).trans c1, (k _).trans c2, (k _).trans c3, (k _).trans c4, (k _).trans c5⟩

set_option maxHeartbeats 12800000 in
set_option maxRecDepth 100000 in
theorem live17 (w : World) : Calls Try.prog 11 #[] w fun e w' => e = .returned (.bool true) ∧ Below w.heap.size w w' := by
  have b0 := bl_newZ (w) (.cells #[.int .i64 4, .int .i64 0, .int .i64 0, .string ⟨#[]⟩] 31)
  have b1 := bl_newZ (w.alloc (.cells #[.int .i64 4, .int .i64 0, .int .i64 0, .string ⟨#[]⟩] 31)) (.cells #[.string ⟨#[97]⟩, .bool true, .int .i64 4, .int .i64 0, .int .i64 0, .string ⟨#[]⟩] 33)
  have b2 := bl_newZ ((w.alloc (.cells #[.int .i64 4, .int .i64 0, .int .i64 0, .string ⟨#[]⟩] 31)).alloc (.cells #[.string ⟨#[97]⟩, .bool true, .int .i64 4, .int .i64 0, .int .i64 0, .string ⟨#[]⟩] 33)) (.cells #[.string ⟨#[98]⟩, .bool false, .int .i64 0, .int .i64 0, .int .i64 0, .string ⟨#[]⟩] 33)
  have b3 := bl_newZ (((w.alloc (.cells #[.int .i64 4, .int .i64 0, .int .i64 0, .string ⟨#[]⟩] 31)).alloc (.cells #[.string ⟨#[97]⟩, .bool true, .int .i64 4, .int .i64 0, .int .i64 0, .string ⟨#[]⟩] 33)).alloc (.cells #[.string ⟨#[98]⟩, .bool false, .int .i64 0, .int .i64 0, .int .i64 0, .string ⟨#[]⟩] 33)) (.cells #[.string ⟨#[97]⟩, .bool false, .int .i64 0, .int .i64 0, .int .i64 0, .string ⟨#[]⟩] 33)
  have HB := Lib.hid (below2Z (below2Z (below2Z b0 b1) b2) b3)
  have T1 := newQ (w) (.cells #[.int .i64 4, .int .i64 0, .int .i64 0, .string ⟨#[]⟩] 31)
  replace T1 := upQ T1 b1
  replace T1 := upQ T1 b2
  replace T1 := upQ T1 b3
  have T2 := newQ (w.alloc (.cells #[.int .i64 4, .int .i64 0, .int .i64 0, .string ⟨#[]⟩] 31)) (.cells #[.string ⟨#[97]⟩, .bool true, .int .i64 4, .int .i64 0, .int .i64 0, .string ⟨#[]⟩] 33)
  rw [World.size_alloc] at T2
  replace T2 := upQ T2 b2
  replace T2 := upQ T2 b3
  have T3 := newQ ((w.alloc (.cells #[.int .i64 4, .int .i64 0, .int .i64 0, .string ⟨#[]⟩] 31)).alloc (.cells #[.string ⟨#[97]⟩, .bool true, .int .i64 4, .int .i64 0, .int .i64 0, .string ⟨#[]⟩] 33)) (.cells #[.string ⟨#[98]⟩, .bool false, .int .i64 0, .int .i64 0, .int .i64 0, .string ⟨#[]⟩] 33)
  rw [World.size_alloc, World.size_alloc] at T3
  replace T3 := upQ T3 b3
  have T4 := newQ (((w.alloc (.cells #[.int .i64 4, .int .i64 0, .int .i64 0, .string ⟨#[]⟩] 31)).alloc (.cells #[.string ⟨#[97]⟩, .bool true, .int .i64 4, .int .i64 0, .int .i64 0, .string ⟨#[]⟩] 33)).alloc (.cells #[.string ⟨#[98]⟩, .bool false, .int .i64 0, .int .i64 0, .int .i64 0, .string ⟨#[]⟩] 33)) (.cells #[.string ⟨#[97]⟩, .bool false, .int .i64 0, .int .i64 0, .int .i64 0, .string ⟨#[]⟩] 33)
  rw [World.size_alloc, World.size_alloc, World.size_alloc] at T4
  clear b0 b1 b2 b3
  go_enter Try.func11, Try.ntmps11
  go_upto_region 5 with fail
  generalize (((w.alloc (.cells #[.int .i64 4, .int .i64 0, .int .i64 0, .string ⟨#[]⟩] 31)).alloc (.cells #[.string ⟨#[97]⟩, .bool true, .int .i64 4, .int .i64 0, .int .i64 0, .string ⟨#[]⟩] 33)).alloc (.cells #[.string ⟨#[98]⟩, .bool false, .int .i64 0, .int .i64 0, .int .i64 0, .string ⟨#[]⟩] 33)).alloc (.cells #[.string ⟨#[97]⟩, .bool false, .int .i64 0, .int .i64 0, .int .i64 0, .string ⟨#[]⟩] 33) = W5 at T1 T2 T3 T4 HB ⊢
  replace T1 := Lib.hid T1
  replace T2 := Lib.hid T2
  replace T3 := Lib.hid T3
  replace T4 := Lib.hid T4
  go_cut [5] from 22 (fun p wx => ∃ B ua uc, p = .pointer (some ⟨B, 0, none⟩) ∧ Hid (CellsAt wx B 0 [.slice ua 2 uc, .bool false]) ∧ Hid (Chgs wx (.slice ua 2 uc) [lqC, lqB]) ∧ Hid (Below W5.heap.size W5 wx))
  case first =>
    obtain ⟨BS, hBS⟩ : ∃ BS : List (Nat × List Value), BS = [(w.heap.size + 1, [.string ⟨#[97]⟩, .bool true, .int .i64 4, .int .i64 0, .int .i64 0, .string ⟨#[]⟩]), (w.heap.size + 1 + 1, [.string ⟨#[98]⟩, .bool false, .int .i64 0, .int .i64 0, .int .i64 0, .string ⟨#[]⟩]), (w.heap.size + 1 + 1 + 1, [.string ⟨#[97]⟩, .bool false, .int .i64 0, .int .i64 0, .int .i64 0, .string ⟨#[]⟩])] := ⟨_, rfl⟩
    have D0 := Lib.hid (show heldB W5 BS from by rw [hBS]; exact heldB_cons (cellsAt_block T2.out) (heldB_cons (cellsAt_block T3.out) (heldB_cons (cellsAt_block T4.out) (heldB_nil _))))
    have hq0 : ∀ X, heldB X BS → X.cell? ⟨w.heap.size + 1, 0, none⟩ = some (.string ⟨#[97]⟩) := fun X hx => heldB_get (vs := [.string ⟨#[97]⟩, .bool true, .int .i64 4, .int .i64 0, .int .i64 0, .string ⟨#[]⟩]) hx (by rw [hBS]; simp) rfl
    have hq1 : ∀ X, heldB X BS → X.cell? ⟨w.heap.size + 1, 1, none⟩ = some (.bool true) := fun X hx => heldB_get (vs := [.string ⟨#[97]⟩, .bool true, .int .i64 4, .int .i64 0, .int .i64 0, .string ⟨#[]⟩]) hx (by rw [hBS]; simp) rfl
    have hq2 : ∀ X, heldB X BS → X.cell? ⟨w.heap.size + 1, 2, none⟩ = some (.int .i64 4) := fun X hx => heldB_get (vs := [.string ⟨#[97]⟩, .bool true, .int .i64 4, .int .i64 0, .int .i64 0, .string ⟨#[]⟩]) hx (by rw [hBS]; simp) rfl
    have hq3 : ∀ X, heldB X BS → X.cell? ⟨w.heap.size + 1, 3, none⟩ = some (.int .i64 0) := fun X hx => heldB_get (vs := [.string ⟨#[97]⟩, .bool true, .int .i64 4, .int .i64 0, .int .i64 0, .string ⟨#[]⟩]) hx (by rw [hBS]; simp) rfl
    have hq4 : ∀ X, heldB X BS → X.cell? ⟨w.heap.size + 1, 4, none⟩ = some (.int .i64 0) := fun X hx => heldB_get (vs := [.string ⟨#[97]⟩, .bool true, .int .i64 4, .int .i64 0, .int .i64 0, .string ⟨#[]⟩]) hx (by rw [hBS]; simp) rfl
    have hq5 : ∀ X, heldB X BS → X.cell? ⟨w.heap.size + 1, 5, none⟩ = some (.string ⟨#[]⟩) := fun X hx => heldB_get (vs := [.string ⟨#[97]⟩, .bool true, .int .i64 4, .int .i64 0, .int .i64 0, .string ⟨#[]⟩]) hx (by rw [hBS]; simp) rfl
    have hq6 : ∀ X, heldB X BS → X.cell? ⟨w.heap.size + 1 + 1, 0, none⟩ = some (.string ⟨#[98]⟩) := fun X hx => heldB_get (vs := [.string ⟨#[98]⟩, .bool false, .int .i64 0, .int .i64 0, .int .i64 0, .string ⟨#[]⟩]) hx (by rw [hBS]; simp) rfl
    have hq7 : ∀ X, heldB X BS → X.cell? ⟨w.heap.size + 1 + 1, 1, none⟩ = some (.bool false) := fun X hx => heldB_get (vs := [.string ⟨#[98]⟩, .bool false, .int .i64 0, .int .i64 0, .int .i64 0, .string ⟨#[]⟩]) hx (by rw [hBS]; simp) rfl
    have hq8 : ∀ X, heldB X BS → X.cell? ⟨w.heap.size + 1 + 1, 2, none⟩ = some (.int .i64 0) := fun X hx => heldB_get (vs := [.string ⟨#[98]⟩, .bool false, .int .i64 0, .int .i64 0, .int .i64 0, .string ⟨#[]⟩]) hx (by rw [hBS]; simp) rfl
    have hq9 : ∀ X, heldB X BS → X.cell? ⟨w.heap.size + 1 + 1, 3, none⟩ = some (.int .i64 0) := fun X hx => heldB_get (vs := [.string ⟨#[98]⟩, .bool false, .int .i64 0, .int .i64 0, .int .i64 0, .string ⟨#[]⟩]) hx (by rw [hBS]; simp) rfl
    have hq10 : ∀ X, heldB X BS → X.cell? ⟨w.heap.size + 1 + 1, 4, none⟩ = some (.int .i64 0) := fun X hx => heldB_get (vs := [.string ⟨#[98]⟩, .bool false, .int .i64 0, .int .i64 0, .int .i64 0, .string ⟨#[]⟩]) hx (by rw [hBS]; simp) rfl
    have hq11 : ∀ X, heldB X BS → X.cell? ⟨w.heap.size + 1 + 1, 5, none⟩ = some (.string ⟨#[]⟩) := fun X hx => heldB_get (vs := [.string ⟨#[98]⟩, .bool false, .int .i64 0, .int .i64 0, .int .i64 0, .string ⟨#[]⟩]) hx (by rw [hBS]; simp) rfl
    have hq12 : ∀ X, heldB X BS → X.cell? ⟨w.heap.size + 1 + 1 + 1, 0, none⟩ = some (.string ⟨#[97]⟩) := fun X hx => heldB_get (vs := [.string ⟨#[97]⟩, .bool false, .int .i64 0, .int .i64 0, .int .i64 0, .string ⟨#[]⟩]) hx (by rw [hBS]; simp) rfl
    have hq13 : ∀ X, heldB X BS → X.cell? ⟨w.heap.size + 1 + 1 + 1, 1, none⟩ = some (.bool false) := fun X hx => heldB_get (vs := [.string ⟨#[97]⟩, .bool false, .int .i64 0, .int .i64 0, .int .i64 0, .string ⟨#[]⟩]) hx (by rw [hBS]; simp) rfl
    have hq14 : ∀ X, heldB X BS → X.cell? ⟨w.heap.size + 1 + 1 + 1, 2, none⟩ = some (.int .i64 0) := fun X hx => heldB_get (vs := [.string ⟨#[97]⟩, .bool false, .int .i64 0, .int .i64 0, .int .i64 0, .string ⟨#[]⟩]) hx (by rw [hBS]; simp) rfl
    have hq15 : ∀ X, heldB X BS → X.cell? ⟨w.heap.size + 1 + 1 + 1, 3, none⟩ = some (.int .i64 0) := fun X hx => heldB_get (vs := [.string ⟨#[97]⟩, .bool false, .int .i64 0, .int .i64 0, .int .i64 0, .string ⟨#[]⟩]) hx (by rw [hBS]; simp) rfl
    have hq16 : ∀ X, heldB X BS → X.cell? ⟨w.heap.size + 1 + 1 + 1, 4, none⟩ = some (.int .i64 0) := fun X hx => heldB_get (vs := [.string ⟨#[97]⟩, .bool false, .int .i64 0, .int .i64 0, .int .i64 0, .string ⟨#[]⟩]) hx (by rw [hBS]; simp) rfl
    have hq17 : ∀ X, heldB X BS → X.cell? ⟨w.heap.size + 1 + 1 + 1, 5, none⟩ = some (.string ⟨#[]⟩) := fun X hx => heldB_get (vs := [.string ⟨#[97]⟩, .bool false, .int .i64 0, .int .i64 0, .int .i64 0, .string ⟨#[]⟩]) hx (by rw [hBS]; simp) rfl
    clear hBS
    have K0 : Hid (Below W5.heap.size W5 W5.drew) := Lib.hid (Below.refl _ _).drew
    refine wp_region_held_drew (S := (fun X => heldB X BS)) (by kernel_rfl) ?_ (fun hHeld => ?_)
    · exact heldB_up K0.out D0.out
    generalize W5.drew = z0 at K0 hHeld ⊢
    refine wpAnyH_take (i := 0) (oi := { dst := some 22, op := Op.build 24 #[], type := 24, pos := "law.go:18", after := #[], guard := none }) (v := ?_) rfl (by as_aux_lemma => kernel_rfl) (by as_aux_lemma => kernel_rfl) (by as_aux_lemma => kernel_rfl) (fun _ _ _ h => h) (Or.inl ⟨by rfl, ?_⟩) (by assumption) ?_
    rotate_left
    · intro w' hSw
      try dsimp only at hSw
      go_simp
      try with_reducible rfl
    try simp only [Act.put, List.setIfInBounds_toArray, List.set_cons_zero, List.set_cons_succ]
    refine wpAnyH_take (i := 1) (oi := { dst := some 23, op := Op.load 33 (Operand.tmp 2), type := 33, pos := "law.go:18", after := #[], guard := none }) (v := ?_) rfl (by as_aux_lemma => kernel_rfl) (by as_aux_lemma => kernel_rfl) (by as_aux_lemma => kernel_rfl) (fun _ _ _ h => h) (Or.inl ⟨by rfl, ?_⟩) (by assumption) ?_
    rotate_left
    · intro w' hSw
      try dsimp only at hSw
      go_simp
      try with_reducible rfl
    try simp only [Act.put, List.setIfInBounds_toArray, List.set_cons_zero, List.set_cons_succ]
    refine wpAnyH_take (i := 3) (oi := { dst := some 25, op := Op.load 33 (Operand.tmp 3), type := 33, pos := "law.go:18", after := #[], guard := none }) (v := ?_) rfl (by as_aux_lemma => kernel_rfl) (by as_aux_lemma => kernel_rfl) (by as_aux_lemma => kernel_rfl) (fun _ _ _ h => h) (Or.inl ⟨by rfl, ?_⟩) (by assumption) ?_
    rotate_left
    · intro w' hSw
      try dsimp only at hSw
      go_simp
      try with_reducible rfl
    try simp only [Act.put, List.setIfInBounds_toArray, List.set_cons_zero, List.set_cons_succ]
    refine wpAnyH_take (i := 5) (oi := { dst := some 27, op := Op.load 33 (Operand.tmp 4), type := 33, pos := "law.go:18", after := #[], guard := none }) (v := ?_) rfl (by as_aux_lemma => kernel_rfl) (by as_aux_lemma => kernel_rfl) (by as_aux_lemma => kernel_rfl) (fun _ _ _ h => h) (Or.inl ⟨by rfl, ?_⟩) (by assumption) ?_
    rotate_left
    · intro w' hSw
      try dsimp only at hSw
      go_simp
      try with_reducible rfl
    try simp only [Act.put, List.setIfInBounds_toArray, List.set_cons_zero, List.set_cons_succ]
    refine wpAnyH_ready (rs := [2, 7]) (by as_aux_lemma => kernel_rfl) (by simp) ?_
    refine AllReadyH.cons (o := { dst := some 24, op := Op.call { callee := Callee.value (Operand.func 27), args := #[Operand.tmp 22, Operand.tmp 23, Operand.const (Value.int IntKind.i64 2)], argTypes := #[24, 33, 3] }, type := 24, pos := "law.go:18", after := #[{ on := 0, ground := Ground.data }, { on := 1, ground := Ground.data }], guard := none }) rfl (fun Kx hK => ?_) (AllReadyH.cons (o := { dst := some 5, op := Op.alloc 24, type := 0, pos := "law.go:18", after := #[], guard := none }) rfl (fun Kx hK => ?_) (AllReadyH.nil))
    · go_simp
      refine (qupush_any (l := []) (chgs_nil _) (by simp) false [97] [] true 4 0 0 2 (Lib.hid lq1)).mono ?_
      rintro e z1 ⟨u1, rfl, hu1, bz1⟩
      have K1 := Lib.hid (below2Z K0.out bz1)
      have D1 := Lib.hid (heldB_up K1.out D0.out)
      obtain ⟨a1u, c1u, rfl⟩ := chgs_shape hu1 (n := 1) rfl
      have U1 := Lib.hid hu1
      clear hu1
      clear bz1
      go_wp2_with fail
      refine hK.out _ _ ?_ (fun hHeld2 => ?_)
      · exact D1.out
      clear hK Kx hHeld
      have hHeld := hHeld2
      clear hHeld2
      try simp only [Act.put, List.setIfInBounds_toArray, List.set_cons_zero, List.set_cons_succ]
      refine wpAnyH_ready (rs := [4, 7]) (by as_aux_lemma => kernel_rfl) (by simp) ?_
      refine AllReadyH.cons (o := { dst := some 26, op := Op.call { callee := Callee.value (Operand.func 27), args := #[Operand.tmp 24, Operand.tmp 25, Operand.const (Value.int IntKind.i64 2)], argTypes := #[24, 33, 3] }, type := 24, pos := "law.go:18", after := #[{ on := 2, ground := Ground.data }, { on := 3, ground := Ground.data }, { on := 2, ground := Ground.chain }], guard := none }) rfl (fun Kx hK => ?_) (AllReadyH.cons (o := { dst := some 5, op := Op.alloc 24, type := 0, pos := "law.go:18", after := #[], guard := none }) rfl (fun Kx hK => ?_) (AllReadyH.nil))
      · go_simp
        refine (qupush_any (l := [lqA]) (U1.out) (by simp) false [98] [] false 0 0 0 2 (Lib.hid lq2)).mono ?_
        rintro e z2 ⟨u2, rfl, hu2, bz2⟩
        have K2 := Lib.hid (below2Z K1.out bz2)
        have D2 := Lib.hid (heldB_up K2.out D0.out)
        replace U1 := Lib.hid (Chgs.later U1.out bz2)
        obtain ⟨a2u, c2u, rfl⟩ := chgs_shape hu2 (n := 2) rfl
        have U2 := Lib.hid hu2
        clear hu2
        clear bz2
        go_wp2_with fail
        refine hK.out _ _ ?_ (fun hHeld2 => ?_)
        · exact D2.out
        clear hK Kx hHeld
        have hHeld := hHeld2
        clear hHeld2
        try simp only [Act.put, List.setIfInBounds_toArray, List.set_cons_zero, List.set_cons_succ]
        refine wpAnyH_ready (rs := [6, 7]) (by as_aux_lemma => kernel_rfl) (by simp) ?_
        refine AllReadyH.cons (o := { dst := some 28, op := Op.call { callee := Callee.value (Operand.func 27), args := #[Operand.tmp 26, Operand.tmp 27, Operand.const (Value.int IntKind.i64 2)], argTypes := #[24, 33, 3] }, type := 24, pos := "law.go:18", after := #[{ on := 4, ground := Ground.data }, { on := 5, ground := Ground.data }, { on := 4, ground := Ground.chain }], guard := none }) rfl (fun Kx hK => ?_) (AllReadyH.cons (o := { dst := some 5, op := Op.alloc 24, type := 0, pos := "law.go:18", after := #[], guard := none }) rfl (fun Kx hK => ?_) (AllReadyH.nil))
        · go_simp
          refine (qupush_any (l := [lqA, lqB]) (U2.out) (by simp) false [97] [] false 0 0 0 2 (Lib.hid lq3)).mono ?_
          rintro e z3 ⟨u3, rfl, hu3, bz3⟩
          have K3 := Lib.hid (below2Z K2.out bz3)
          have D3 := Lib.hid (heldB_up K3.out D0.out)
          replace U1 := Lib.hid (Chgs.later U1.out bz3)
          replace U2 := Lib.hid (Chgs.later U2.out bz3)
          obtain ⟨a3u, c3u, rfl⟩ := chgs_shape hu3 (n := 2) rfl
          have U3 := Lib.hid hu3
          clear hu3
          clear bz3
          go_wp2_with fail
          refine hK.out _ _ ?_ (fun hHeld2 => ?_)
          · exact D3.out
          clear hK Kx hHeld
          have hHeld := hHeld2
          clear hHeld2
          try simp only [Act.put, List.setIfInBounds_toArray, List.set_cons_zero, List.set_cons_succ]
          refine wpAnyH_ready (rs := [7]) (by as_aux_lemma => kernel_rfl) (by simp) ?_
          refine AllReadyH.cons (o := { dst := some 5, op := Op.alloc 24, type := 0, pos := "law.go:18", after := #[], guard := none }) rfl (fun Kx hK => ?_) AllReadyH.nil
          go_simp
          refine hK.out _ _ ?_ (fun hHeld2 => ?_)
          · exact heldB_up (below2Z K3.out (bl_newZ _ _)) D0.out
          clear hK Kx hHeld
          have hHeld := hHeld2
          clear hHeld2
          try simp only [Act.put, List.setIfInBounds_toArray, List.set_cons_zero, List.set_cons_succ]
          have bz4 := bl_newZ z3 (.cells #[.slice none 0 0, .bool false] 24)
          have K4 := Lib.hid (below2Z K3.out bz4)
          have D4 := Lib.hid (heldB_up K4.out D0.out)
          have nz4 := Lib.hid ((MapKept.heap_alloc z3 (.cells #[.slice none 0 0, .bool false] 24)).1)
          have hB4 : W5.heap.size ≤ z3.heap.size := (K3.out).size
          replace U1 := Lib.hid (Chgs.later U1.out bz4)
          replace U2 := Lib.hid (Chgs.later U2.out bz4)
          replace U3 := Lib.hid (Chgs.later U3.out bz4)
          clear bz4
          generalize z3.alloc (.cells #[.slice none 0 0, .bool false] 24) = z4 at K4 D4 nz4 U1 U2 U3 hHeld ⊢
          generalize z3.heap.size = B4 at nz4 hB4  ⊢
          obtain ⟨⟨r0, r1⟩, g0, g1⟩ := twoQ nz4.out
          refine wpAnyH_ready (rs := [8]) (by as_aux_lemma => kernel_rfl) (by simp) ?_
          refine AllReadyH.cons (o := { dst := none, op := Op.store 24 (Operand.tmp 5) (Operand.tmp 28), type := 0, pos := "law.go:18", after := #[{ on := 7, ground := Ground.data }, { on := 6, ground := Ground.data }, { on := 6, ground := Ground.chain }, { on := 0, ground := Ground.phase }, { on := 1, ground := Ground.phase }, { on := 2, ground := Ground.phase }, { on := 3, ground := Ground.phase }, { on := 4, ground := Ground.phase }, { on := 5, ground := Ground.phase }, { on := 6, ground := Ground.phase }, { on := 7, ground := Ground.phase }], guard := none }) rfl (fun Kx hK => ?_) AllReadyH.nil
          go_simp
          clear r0 r1 g0 g1
          obtain ⟨y0, y1⟩ := set2Q (y0 := .slice a3u 2 c3u) (y1 := .bool false) nz4.out
          have KE := Lib.hid ((((K4.out).setCell (p := ⟨B4, 0, none⟩) hB4 (.slice a3u 2 c3u))).setCell (p := ⟨B4, 1, none⟩) hB4 (.bool false))
          have UE : Hid (Chgs ((z4.setCell ⟨B4, 0, none⟩ (.slice a3u 2 c3u)).setCell ⟨B4, 1, none⟩ (.bool false)) (.slice a3u 2 c3u) [lqC, lqB]) := Lib.hid (chgs_far U3.out nz4.out)
          refine hK.out _ _ ?_ (fun hHeld2 => ?_)
          · exact heldB_up KE.out D0.out
          clear hK Kx hHeld
          have hHeld := hHeld2
          clear hHeld2
          refine wpAnyH_done (by kernel_rfl) ?_ _
          go_wp2_with fail
          go_meet
          exact ⟨B4, a3u, c3u, rfl, Lib.hid (cellsAt_two y0 y1), UE, KE⟩
        · go_simp
          refine hK.out _ _ ?_ (fun hHeld2 => ?_)
          · exact heldB_up (below2Z K2.out (bl_newZ _ _)) D0.out
          clear hK Kx hHeld
          have hHeld := hHeld2
          clear hHeld2
          try simp only [Act.put, List.setIfInBounds_toArray, List.set_cons_zero, List.set_cons_succ]
          have bz6 := bl_newZ z2 (.cells #[.slice none 0 0, .bool false] 24)
          have K6 := Lib.hid (below2Z K2.out bz6)
          have D6 := Lib.hid (heldB_up K6.out D0.out)
          have nz6 := Lib.hid ((MapKept.heap_alloc z2 (.cells #[.slice none 0 0, .bool false] 24)).1)
          have hB6 : W5.heap.size ≤ z2.heap.size := (K2.out).size
          replace U1 := Lib.hid (Chgs.later U1.out bz6)
          replace U2 := Lib.hid (Chgs.later U2.out bz6)
          clear bz6
          generalize z2.alloc (.cells #[.slice none 0 0, .bool false] 24) = z6 at K6 D6 nz6 U1 U2 hHeld ⊢
          generalize z2.heap.size = B6 at nz6 hB6  ⊢
          refine wpAnyH_ready (rs := [6]) (by as_aux_lemma => kernel_rfl) (by simp) ?_
          refine AllReadyH.cons (o := { dst := some 28, op := Op.call { callee := Callee.value (Operand.func 27), args := #[Operand.tmp 26, Operand.tmp 27, Operand.const (Value.int IntKind.i64 2)], argTypes := #[24, 33, 3] }, type := 24, pos := "law.go:18", after := #[{ on := 4, ground := Ground.data }, { on := 5, ground := Ground.data }, { on := 4, ground := Ground.chain }], guard := none }) rfl (fun Kx hK => ?_) AllReadyH.nil
          go_simp
          refine (qupush_any (l := [lqA, lqB]) (U2.out) (by simp) false [97] [] false 0 0 0 2 (Lib.hid lq3)).mono ?_
          rintro e z7 ⟨u3, rfl, hu3, bz7⟩
          have K7 := Lib.hid (below2Z K6.out bz7)
          have D7 := Lib.hid (heldB_up K7.out D0.out)
          replace U1 := Lib.hid (Chgs.later U1.out bz7)
          replace U2 := Lib.hid (Chgs.later U2.out bz7)
          replace nz6 := Lib.hid (((bz7).block _ (Array.getElem?_eq_some_iff.1 (nz6.out)).1).trans (nz6.out))
          obtain ⟨a3u, c3u, rfl⟩ := chgs_shape hu3 (n := 2) rfl
          have U3 := Lib.hid hu3
          clear hu3
          clear bz7
          go_wp2_with fail
          refine hK.out _ _ ?_ (fun hHeld2 => ?_)
          · exact D7.out
          clear hK Kx hHeld
          have hHeld := hHeld2
          clear hHeld2
          try simp only [Act.put, List.setIfInBounds_toArray, List.set_cons_zero, List.set_cons_succ]
          obtain ⟨⟨r0, r1⟩, g0, g1⟩ := twoQ nz6.out
          refine wpAnyH_ready (rs := [8]) (by as_aux_lemma => kernel_rfl) (by simp) ?_
          refine AllReadyH.cons (o := { dst := none, op := Op.store 24 (Operand.tmp 5) (Operand.tmp 28), type := 0, pos := "law.go:18", after := #[{ on := 7, ground := Ground.data }, { on := 6, ground := Ground.data }, { on := 6, ground := Ground.chain }, { on := 0, ground := Ground.phase }, { on := 1, ground := Ground.phase }, { on := 2, ground := Ground.phase }, { on := 3, ground := Ground.phase }, { on := 4, ground := Ground.phase }, { on := 5, ground := Ground.phase }, { on := 6, ground := Ground.phase }, { on := 7, ground := Ground.phase }], guard := none }) rfl (fun Kx hK => ?_) AllReadyH.nil
          go_simp
          clear r0 r1 g0 g1
          obtain ⟨y0, y1⟩ := set2Q (y0 := .slice a3u 2 c3u) (y1 := .bool false) nz6.out
          have KE := Lib.hid ((((K7.out).setCell (p := ⟨B6, 0, none⟩) hB6 (.slice a3u 2 c3u))).setCell (p := ⟨B6, 1, none⟩) hB6 (.bool false))
          have UE : Hid (Chgs ((z7.setCell ⟨B6, 0, none⟩ (.slice a3u 2 c3u)).setCell ⟨B6, 1, none⟩ (.bool false)) (.slice a3u 2 c3u) [lqC, lqB]) := Lib.hid (chgs_far U3.out nz6.out)
          refine hK.out _ _ ?_ (fun hHeld2 => ?_)
          · exact heldB_up KE.out D0.out
          clear hK Kx hHeld
          have hHeld := hHeld2
          clear hHeld2
          refine wpAnyH_done (by kernel_rfl) ?_ _
          go_wp2_with fail
          go_meet
          exact ⟨B6, a3u, c3u, rfl, Lib.hid (cellsAt_two y0 y1), UE, KE⟩
      · go_simp
        refine hK.out _ _ ?_ (fun hHeld2 => ?_)
        · exact heldB_up (below2Z K1.out (bl_newZ _ _)) D0.out
        clear hK Kx hHeld
        have hHeld := hHeld2
        clear hHeld2
        try simp only [Act.put, List.setIfInBounds_toArray, List.set_cons_zero, List.set_cons_succ]
        have bz9 := bl_newZ z1 (.cells #[.slice none 0 0, .bool false] 24)
        have K9 := Lib.hid (below2Z K1.out bz9)
        have D9 := Lib.hid (heldB_up K9.out D0.out)
        have nz9 := Lib.hid ((MapKept.heap_alloc z1 (.cells #[.slice none 0 0, .bool false] 24)).1)
        have hB9 : W5.heap.size ≤ z1.heap.size := (K1.out).size
        replace U1 := Lib.hid (Chgs.later U1.out bz9)
        clear bz9
        generalize z1.alloc (.cells #[.slice none 0 0, .bool false] 24) = z9 at K9 D9 nz9 U1 hHeld ⊢
        generalize z1.heap.size = B9 at nz9 hB9  ⊢
        refine wpAnyH_ready (rs := [4]) (by as_aux_lemma => kernel_rfl) (by simp) ?_
        refine AllReadyH.cons (o := { dst := some 26, op := Op.call { callee := Callee.value (Operand.func 27), args := #[Operand.tmp 24, Operand.tmp 25, Operand.const (Value.int IntKind.i64 2)], argTypes := #[24, 33, 3] }, type := 24, pos := "law.go:18", after := #[{ on := 2, ground := Ground.data }, { on := 3, ground := Ground.data }, { on := 2, ground := Ground.chain }], guard := none }) rfl (fun Kx hK => ?_) AllReadyH.nil
        go_simp
        refine (qupush_any (l := [lqA]) (U1.out) (by simp) false [98] [] false 0 0 0 2 (Lib.hid lq2)).mono ?_
        rintro e z10 ⟨u2, rfl, hu2, bz10⟩
        have K10 := Lib.hid (below2Z K9.out bz10)
        have D10 := Lib.hid (heldB_up K10.out D0.out)
        replace U1 := Lib.hid (Chgs.later U1.out bz10)
        replace nz9 := Lib.hid (((bz10).block _ (Array.getElem?_eq_some_iff.1 (nz9.out)).1).trans (nz9.out))
        obtain ⟨a2u, c2u, rfl⟩ := chgs_shape hu2 (n := 2) rfl
        have U2 := Lib.hid hu2
        clear hu2
        clear bz10
        go_wp2_with fail
        refine hK.out _ _ ?_ (fun hHeld2 => ?_)
        · exact D10.out
        clear hK Kx hHeld
        have hHeld := hHeld2
        clear hHeld2
        try simp only [Act.put, List.setIfInBounds_toArray, List.set_cons_zero, List.set_cons_succ]
        refine wpAnyH_ready (rs := [6]) (by as_aux_lemma => kernel_rfl) (by simp) ?_
        refine AllReadyH.cons (o := { dst := some 28, op := Op.call { callee := Callee.value (Operand.func 27), args := #[Operand.tmp 26, Operand.tmp 27, Operand.const (Value.int IntKind.i64 2)], argTypes := #[24, 33, 3] }, type := 24, pos := "law.go:18", after := #[{ on := 4, ground := Ground.data }, { on := 5, ground := Ground.data }, { on := 4, ground := Ground.chain }], guard := none }) rfl (fun Kx hK => ?_) AllReadyH.nil
        go_simp
        refine (qupush_any (l := [lqA, lqB]) (U2.out) (by simp) false [97] [] false 0 0 0 2 (Lib.hid lq3)).mono ?_
        rintro e z11 ⟨u3, rfl, hu3, bz11⟩
        have K11 := Lib.hid (below2Z K10.out bz11)
        have D11 := Lib.hid (heldB_up K11.out D0.out)
        replace U1 := Lib.hid (Chgs.later U1.out bz11)
        replace nz9 := Lib.hid (((bz11).block _ (Array.getElem?_eq_some_iff.1 (nz9.out)).1).trans (nz9.out))
        replace U2 := Lib.hid (Chgs.later U2.out bz11)
        obtain ⟨a3u, c3u, rfl⟩ := chgs_shape hu3 (n := 2) rfl
        have U3 := Lib.hid hu3
        clear hu3
        clear bz11
        go_wp2_with fail
        refine hK.out _ _ ?_ (fun hHeld2 => ?_)
        · exact D11.out
        clear hK Kx hHeld
        have hHeld := hHeld2
        clear hHeld2
        try simp only [Act.put, List.setIfInBounds_toArray, List.set_cons_zero, List.set_cons_succ]
        obtain ⟨⟨r0, r1⟩, g0, g1⟩ := twoQ nz9.out
        refine wpAnyH_ready (rs := [8]) (by as_aux_lemma => kernel_rfl) (by simp) ?_
        refine AllReadyH.cons (o := { dst := none, op := Op.store 24 (Operand.tmp 5) (Operand.tmp 28), type := 0, pos := "law.go:18", after := #[{ on := 7, ground := Ground.data }, { on := 6, ground := Ground.data }, { on := 6, ground := Ground.chain }, { on := 0, ground := Ground.phase }, { on := 1, ground := Ground.phase }, { on := 2, ground := Ground.phase }, { on := 3, ground := Ground.phase }, { on := 4, ground := Ground.phase }, { on := 5, ground := Ground.phase }, { on := 6, ground := Ground.phase }, { on := 7, ground := Ground.phase }], guard := none }) rfl (fun Kx hK => ?_) AllReadyH.nil
        go_simp
        clear r0 r1 g0 g1
        obtain ⟨y0, y1⟩ := set2Q (y0 := .slice a3u 2 c3u) (y1 := .bool false) nz9.out
        have KE := Lib.hid ((((K11.out).setCell (p := ⟨B9, 0, none⟩) hB9 (.slice a3u 2 c3u))).setCell (p := ⟨B9, 1, none⟩) hB9 (.bool false))
        have UE : Hid (Chgs ((z11.setCell ⟨B9, 0, none⟩ (.slice a3u 2 c3u)).setCell ⟨B9, 1, none⟩ (.bool false)) (.slice a3u 2 c3u) [lqC, lqB]) := Lib.hid (chgs_far U3.out nz9.out)
        refine hK.out _ _ ?_ (fun hHeld2 => ?_)
        · exact heldB_up KE.out D0.out
        clear hK Kx hHeld
        have hHeld := hHeld2
        clear hHeld2
        refine wpAnyH_done (by kernel_rfl) ?_ _
        go_wp2_with fail
        go_meet
        exact ⟨B9, a3u, c3u, rfl, Lib.hid (cellsAt_two y0 y1), UE, KE⟩
    · go_simp
      refine hK.out _ _ ?_ (fun hHeld2 => ?_)
      · exact heldB_up (below2Z K0.out (bl_newZ _ _)) D0.out
      clear hK Kx hHeld
      have hHeld := hHeld2
      clear hHeld2
      try simp only [Act.put, List.setIfInBounds_toArray, List.set_cons_zero, List.set_cons_succ]
      have bz13 := bl_newZ z0 (.cells #[.slice none 0 0, .bool false] 24)
      have K13 := Lib.hid (below2Z K0.out bz13)
      have D13 := Lib.hid (heldB_up K13.out D0.out)
      have nz13 := Lib.hid ((MapKept.heap_alloc z0 (.cells #[.slice none 0 0, .bool false] 24)).1)
      have hB13 : W5.heap.size ≤ z0.heap.size := (K0.out).size
      clear bz13
      generalize z0.alloc (.cells #[.slice none 0 0, .bool false] 24) = z13 at K13 D13 nz13 hHeld ⊢
      generalize z0.heap.size = B13 at nz13 hB13  ⊢
      refine wpAnyH_ready (rs := [2]) (by as_aux_lemma => kernel_rfl) (by simp) ?_
      refine AllReadyH.cons (o := { dst := some 24, op := Op.call { callee := Callee.value (Operand.func 27), args := #[Operand.tmp 22, Operand.tmp 23, Operand.const (Value.int IntKind.i64 2)], argTypes := #[24, 33, 3] }, type := 24, pos := "law.go:18", after := #[{ on := 0, ground := Ground.data }, { on := 1, ground := Ground.data }], guard := none }) rfl (fun Kx hK => ?_) AllReadyH.nil
      go_simp
      refine (qupush_any (l := []) (chgs_nil _) (by simp) false [97] [] true 4 0 0 2 (Lib.hid lq1)).mono ?_
      rintro e z14 ⟨u1, rfl, hu1, bz14⟩
      have K14 := Lib.hid (below2Z K13.out bz14)
      have D14 := Lib.hid (heldB_up K14.out D0.out)
      replace nz13 := Lib.hid (((bz14).block _ (Array.getElem?_eq_some_iff.1 (nz13.out)).1).trans (nz13.out))
      obtain ⟨a1u, c1u, rfl⟩ := chgs_shape hu1 (n := 1) rfl
      have U1 := Lib.hid hu1
      clear hu1
      clear bz14
      go_wp2_with fail
      refine hK.out _ _ ?_ (fun hHeld2 => ?_)
      · exact D14.out
      clear hK Kx hHeld
      have hHeld := hHeld2
      clear hHeld2
      try simp only [Act.put, List.setIfInBounds_toArray, List.set_cons_zero, List.set_cons_succ]
      refine wpAnyH_ready (rs := [4]) (by as_aux_lemma => kernel_rfl) (by simp) ?_
      refine AllReadyH.cons (o := { dst := some 26, op := Op.call { callee := Callee.value (Operand.func 27), args := #[Operand.tmp 24, Operand.tmp 25, Operand.const (Value.int IntKind.i64 2)], argTypes := #[24, 33, 3] }, type := 24, pos := "law.go:18", after := #[{ on := 2, ground := Ground.data }, { on := 3, ground := Ground.data }, { on := 2, ground := Ground.chain }], guard := none }) rfl (fun Kx hK => ?_) AllReadyH.nil
      go_simp
      refine (qupush_any (l := [lqA]) (U1.out) (by simp) false [98] [] false 0 0 0 2 (Lib.hid lq2)).mono ?_
      rintro e z15 ⟨u2, rfl, hu2, bz15⟩
      have K15 := Lib.hid (below2Z K14.out bz15)
      have D15 := Lib.hid (heldB_up K15.out D0.out)
      replace nz13 := Lib.hid (((bz15).block _ (Array.getElem?_eq_some_iff.1 (nz13.out)).1).trans (nz13.out))
      replace U1 := Lib.hid (Chgs.later U1.out bz15)
      obtain ⟨a2u, c2u, rfl⟩ := chgs_shape hu2 (n := 2) rfl
      have U2 := Lib.hid hu2
      clear hu2
      clear bz15
      go_wp2_with fail
      refine hK.out _ _ ?_ (fun hHeld2 => ?_)
      · exact D15.out
      clear hK Kx hHeld
      have hHeld := hHeld2
      clear hHeld2
      try simp only [Act.put, List.setIfInBounds_toArray, List.set_cons_zero, List.set_cons_succ]
      refine wpAnyH_ready (rs := [6]) (by as_aux_lemma => kernel_rfl) (by simp) ?_
      refine AllReadyH.cons (o := { dst := some 28, op := Op.call { callee := Callee.value (Operand.func 27), args := #[Operand.tmp 26, Operand.tmp 27, Operand.const (Value.int IntKind.i64 2)], argTypes := #[24, 33, 3] }, type := 24, pos := "law.go:18", after := #[{ on := 4, ground := Ground.data }, { on := 5, ground := Ground.data }, { on := 4, ground := Ground.chain }], guard := none }) rfl (fun Kx hK => ?_) AllReadyH.nil
      go_simp
      refine (qupush_any (l := [lqA, lqB]) (U2.out) (by simp) false [97] [] false 0 0 0 2 (Lib.hid lq3)).mono ?_
      rintro e z16 ⟨u3, rfl, hu3, bz16⟩
      have K16 := Lib.hid (below2Z K15.out bz16)
      have D16 := Lib.hid (heldB_up K16.out D0.out)
      replace nz13 := Lib.hid (((bz16).block _ (Array.getElem?_eq_some_iff.1 (nz13.out)).1).trans (nz13.out))
      replace U1 := Lib.hid (Chgs.later U1.out bz16)
      replace U2 := Lib.hid (Chgs.later U2.out bz16)
      obtain ⟨a3u, c3u, rfl⟩ := chgs_shape hu3 (n := 2) rfl
      have U3 := Lib.hid hu3
      clear hu3
      clear bz16
      go_wp2_with fail
      refine hK.out _ _ ?_ (fun hHeld2 => ?_)
      · exact D16.out
      clear hK Kx hHeld
      have hHeld := hHeld2
      clear hHeld2
      try simp only [Act.put, List.setIfInBounds_toArray, List.set_cons_zero, List.set_cons_succ]
      obtain ⟨⟨r0, r1⟩, g0, g1⟩ := twoQ nz13.out
      refine wpAnyH_ready (rs := [8]) (by as_aux_lemma => kernel_rfl) (by simp) ?_
      refine AllReadyH.cons (o := { dst := none, op := Op.store 24 (Operand.tmp 5) (Operand.tmp 28), type := 0, pos := "law.go:18", after := #[{ on := 7, ground := Ground.data }, { on := 6, ground := Ground.data }, { on := 6, ground := Ground.chain }, { on := 0, ground := Ground.phase }, { on := 1, ground := Ground.phase }, { on := 2, ground := Ground.phase }, { on := 3, ground := Ground.phase }, { on := 4, ground := Ground.phase }, { on := 5, ground := Ground.phase }, { on := 6, ground := Ground.phase }, { on := 7, ground := Ground.phase }], guard := none }) rfl (fun Kx hK => ?_) AllReadyH.nil
      go_simp
      clear r0 r1 g0 g1
      obtain ⟨y0, y1⟩ := set2Q (y0 := .slice a3u 2 c3u) (y1 := .bool false) nz13.out
      have KE := Lib.hid ((((K16.out).setCell (p := ⟨B13, 0, none⟩) hB13 (.slice a3u 2 c3u))).setCell (p := ⟨B13, 1, none⟩) hB13 (.bool false))
      have UE : Hid (Chgs ((z16.setCell ⟨B13, 0, none⟩ (.slice a3u 2 c3u)).setCell ⟨B13, 1, none⟩ (.bool false)) (.slice a3u 2 c3u) [lqC, lqB]) := Lib.hid (chgs_far U3.out nz13.out)
      refine hK.out _ _ ?_ (fun hHeld2 => ?_)
      · exact heldB_up KE.out D0.out
      clear hK Kx hHeld
      have hHeld := hHeld2
      clear hHeld2
      refine wpAnyH_done (by kernel_rfl) ?_ _
      go_wp2_with fail
      go_meet
      exact ⟨B13, a3u, c3u, rfl, Lib.hid (cellsAt_two y0 y1), UE, KE⟩
  case rest =>
    obtain ⟨B, ua, uc, rfl, HQ, HU, HK⟩ := hcut
    replace T1 := Lib.hid ((cellsAt_block T1.out).later HK.out)
    replace T2 := Lib.hid ((cellsAt_block T2.out).later HK.out)
    replace T3 := Lib.hid ((cellsAt_block T3.out).later HK.out)
    replace T4 := Lib.hid ((cellsAt_block T4.out).later HK.out)
    replace HB := Lib.hid (below2Z HB.out HK.out)
    clear HK
    obtain ⟨q0, q1⟩ := twoAt HQ.out
    go_wp2_with fail
    clear q0 q1
    refine (qupop_any HU.out (by simp) false (Lib.hid lq4)).mono ?_
    rintro e w21 ⟨u6, rfl, hu6, b21⟩
    replace T1 := Lib.hid (T1.out.later b21)
    replace T2 := Lib.hid (T2.out.later b21)
    replace T3 := Lib.hid (T3.out.later b21)
    replace T4 := Lib.hid (T4.out.later b21)
    replace HQ := Lib.hid (HQ.out.later b21)
    replace HU := Lib.hid (HU.out.later b21)
    replace HB := Lib.hid (below2Z HB.out b21)
    obtain ⟨a6, c6, rfl⟩ := chgs_shape hu6 (n := 1) rfl
    have U6 := Lib.hid hu6
    clear hu6
    clear b21
    have b22 := bl_newZ w21 (.cells #[.string ⟨#[97]⟩, .bool false, .int .i64 0, .int .i64 0, .int .i64 0, .string ⟨#[]⟩] 33)
    have T6 := Lib.hid (cellsAt_made (w := w21) (cs := #[.string ⟨#[97]⟩, .bool false, .int .i64 0, .int .i64 0, .int .i64 0, .string ⟨#[]⟩]) (vs := [.string ⟨#[97]⟩, .bool false, .int .i64 0, .int .i64 0, .int .i64 0, .string ⟨#[]⟩]) rfl 33 rfl)
    replace T1 := Lib.hid (T1.out.later b22)
    replace T2 := Lib.hid (T2.out.later b22)
    replace T3 := Lib.hid (T3.out.later b22)
    replace T4 := Lib.hid (T4.out.later b22)
    replace HQ := Lib.hid (HQ.out.later b22)
    replace HU := Lib.hid (HU.out.later b22)
    replace U6 := Lib.hid (U6.out.later b22)
    replace HB := Lib.hid (below2Z HB.out b22)
    clear b22
    have b23 := bl_newZ (w21.alloc (.cells #[.string ⟨#[97]⟩, .bool false, .int .i64 0, .int .i64 0, .int .i64 0, .string ⟨#[]⟩] 33)) (.cells #[.slice a6 1 c6, .bool false] 24)
    have T7 := Lib.hid (cellsAt_made (w := (w21.alloc (.cells #[.string ⟨#[97]⟩, .bool false, .int .i64 0, .int .i64 0, .int .i64 0, .string ⟨#[]⟩] 33))) (cs := #[.slice a6 1 c6, .bool false]) (vs := [.slice a6 1 c6, .bool false]) rfl 24 (B := w21.heap.size + 1) (by simp))
    replace T1 := Lib.hid (T1.out.later b23)
    replace T2 := Lib.hid (T2.out.later b23)
    replace T3 := Lib.hid (T3.out.later b23)
    replace T4 := Lib.hid (T4.out.later b23)
    replace HQ := Lib.hid (HQ.out.later b23)
    replace HU := Lib.hid (HU.out.later b23)
    replace U6 := Lib.hid (U6.out.later b23)
    replace T6 := Lib.hid (T6.out.later b23)
    replace HB := Lib.hid (below2Z HB.out b23)
    clear b23
    obtain ⟨q0, q1⟩ := twoAt HQ.out
    go_wp2_with fail
    clear q0 q1
    refine (qupush_any HU.out (by simp) false [99] [] false 0 0 0 2 (Lib.hid lq5)).mono ?_
    rintro e w24 ⟨u7, rfl, hu7, b24⟩
    replace T1 := Lib.hid (T1.out.later b24)
    replace T2 := Lib.hid (T2.out.later b24)
    replace T3 := Lib.hid (T3.out.later b24)
    replace T4 := Lib.hid (T4.out.later b24)
    replace HQ := Lib.hid (HQ.out.later b24)
    replace HU := Lib.hid (HU.out.later b24)
    replace U6 := Lib.hid (U6.out.later b24)
    replace T6 := Lib.hid (T6.out.later b24)
    replace T7 := Lib.hid (T7.out.later b24)
    replace HB := Lib.hid (below2Z HB.out b24)
    obtain ⟨a7, c7, rfl⟩ := chgs_shape hu7 (n := 0) rfl
    have U7 := Lib.hid hu7
    clear hu7
    clear b24
    have b25 := bl_newZ w24 (.cells #[.slice a7 0 c7, .bool true] 24)
    have T9 := Lib.hid (cellsAt_made (w := w24) (cs := #[.slice a7 0 c7, .bool true]) (vs := [.slice a7 0 c7, .bool true]) rfl 24 rfl)
    replace T1 := Lib.hid (T1.out.later b25)
    replace T2 := Lib.hid (T2.out.later b25)
    replace T3 := Lib.hid (T3.out.later b25)
    replace T4 := Lib.hid (T4.out.later b25)
    replace HQ := Lib.hid (HQ.out.later b25)
    replace HU := Lib.hid (HU.out.later b25)
    replace U6 := Lib.hid (U6.out.later b25)
    replace T6 := Lib.hid (T6.out.later b25)
    replace T7 := Lib.hid (T7.out.later b25)
    replace U7 := Lib.hid (U7.out.later b25)
    replace HB := Lib.hid (below2Z HB.out b25)
    clear b25
    obtain ⟨q0, q1⟩ := twoAt HQ.out
    go_wp2_with fail
    clear q0 q1
    refine (qufind_any HU.out false [98] (Lib.hid lq6)).mono ?_
    rintro e w26 ⟨rfl, b26⟩
    replace T1 := Lib.hid (T1.out.later b26)
    replace T2 := Lib.hid (T2.out.later b26)
    replace T3 := Lib.hid (T3.out.later b26)
    replace T4 := Lib.hid (T4.out.later b26)
    replace HQ := Lib.hid (HQ.out.later b26)
    replace HU := Lib.hid (HU.out.later b26)
    replace U6 := Lib.hid (U6.out.later b26)
    replace T6 := Lib.hid (T6.out.later b26)
    replace T7 := Lib.hid (T7.out.later b26)
    replace U7 := Lib.hid (U7.out.later b26)
    replace T9 := Lib.hid (T9.out.later b26)
    replace HB := Lib.hid (below2Z HB.out b26)
    clear b26
    have b27 := bl_newZ w26 (.cells #[.string ⟨#[98]⟩, .bool false, .int .i64 0, .int .i64 0, .int .i64 0, .string ⟨#[]⟩] 33)
    have T10 := Lib.hid (cellsAt_made (w := w26) (cs := #[.string ⟨#[98]⟩, .bool false, .int .i64 0, .int .i64 0, .int .i64 0, .string ⟨#[]⟩]) (vs := [.string ⟨#[98]⟩, .bool false, .int .i64 0, .int .i64 0, .int .i64 0, .string ⟨#[]⟩]) rfl 33 rfl)
    replace T1 := Lib.hid (T1.out.later b27)
    replace T2 := Lib.hid (T2.out.later b27)
    replace T3 := Lib.hid (T3.out.later b27)
    replace T4 := Lib.hid (T4.out.later b27)
    replace HQ := Lib.hid (HQ.out.later b27)
    replace HU := Lib.hid (HU.out.later b27)
    replace U6 := Lib.hid (U6.out.later b27)
    replace T6 := Lib.hid (T6.out.later b27)
    replace T7 := Lib.hid (T7.out.later b27)
    replace U7 := Lib.hid (U7.out.later b27)
    replace T9 := Lib.hid (T9.out.later b27)
    replace HB := Lib.hid (below2Z HB.out b27)
    clear b27
    obtain ⟨q0, q1⟩ := twoAt HQ.out
    go_wp2_with fail
    clear q0 q1
    refine (qufind_any HU.out false [99] (Lib.hid lq7)).mono ?_
    rintro e w28 ⟨rfl, b28⟩
    replace T1 := Lib.hid (T1.out.later b28)
    replace T2 := Lib.hid (T2.out.later b28)
    replace T3 := Lib.hid (T3.out.later b28)
    replace T4 := Lib.hid (T4.out.later b28)
    replace HQ := Lib.hid (HQ.out.later b28)
    replace HU := Lib.hid (HU.out.later b28)
    replace U6 := Lib.hid (U6.out.later b28)
    replace T6 := Lib.hid (T6.out.later b28)
    replace T7 := Lib.hid (T7.out.later b28)
    replace U7 := Lib.hid (U7.out.later b28)
    replace T9 := Lib.hid (T9.out.later b28)
    replace T10 := Lib.hid (T10.out.later b28)
    replace HB := Lib.hid (below2Z HB.out b28)
    clear b28
    have b29 := bl_newZ w28 (.cells #[.string ⟨#[]⟩, .bool false, .int .i64 0, .int .i64 0, .int .i64 0, .string ⟨#[]⟩] 33)
    have T12 := Lib.hid (cellsAt_made (w := w28) (cs := #[.string ⟨#[]⟩, .bool false, .int .i64 0, .int .i64 0, .int .i64 0, .string ⟨#[]⟩]) (vs := [.string ⟨#[]⟩, .bool false, .int .i64 0, .int .i64 0, .int .i64 0, .string ⟨#[]⟩]) rfl 33 rfl)
    replace T1 := Lib.hid (T1.out.later b29)
    replace T2 := Lib.hid (T2.out.later b29)
    replace T3 := Lib.hid (T3.out.later b29)
    replace T4 := Lib.hid (T4.out.later b29)
    replace HQ := Lib.hid (HQ.out.later b29)
    replace HU := Lib.hid (HU.out.later b29)
    replace U6 := Lib.hid (U6.out.later b29)
    replace T6 := Lib.hid (T6.out.later b29)
    replace T7 := Lib.hid (T7.out.later b29)
    replace U7 := Lib.hid (U7.out.later b29)
    replace T9 := Lib.hid (T9.out.later b29)
    replace T10 := Lib.hid (T10.out.later b29)
    replace HB := Lib.hid (below2Z HB.out b29)
    clear b29
    go_wp2_with fail
    refine (qupop_any (chgs_nil _) (by simp) false (Lib.hid lq8)).mono ?_
    rintro e w30 ⟨u15, rfl, hu15, b30⟩
    replace T1 := Lib.hid (T1.out.later b30)
    replace T2 := Lib.hid (T2.out.later b30)
    replace T3 := Lib.hid (T3.out.later b30)
    replace T4 := Lib.hid (T4.out.later b30)
    replace HQ := Lib.hid (HQ.out.later b30)
    replace HU := Lib.hid (HU.out.later b30)
    replace U6 := Lib.hid (U6.out.later b30)
    replace T6 := Lib.hid (T6.out.later b30)
    replace T7 := Lib.hid (T7.out.later b30)
    replace U7 := Lib.hid (U7.out.later b30)
    replace T9 := Lib.hid (T9.out.later b30)
    replace T10 := Lib.hid (T10.out.later b30)
    replace T12 := Lib.hid (T12.out.later b30)
    replace HB := Lib.hid (below2Z HB.out b30)
    obtain ⟨a15, c15, rfl⟩ := chgs_shape hu15 (n := 0) rfl
    have U15 := Lib.hid hu15
    clear hu15
    clear b30
    have b31 := bl_newZ w30 (.cells #[.string ⟨#[]⟩, .bool false, .int .i64 0, .int .i64 0, .int .i64 0, .string ⟨#[]⟩] 33)
    have T14 := Lib.hid (cellsAt_made (w := w30) (cs := #[.string ⟨#[]⟩, .bool false, .int .i64 0, .int .i64 0, .int .i64 0, .string ⟨#[]⟩]) (vs := [.string ⟨#[]⟩, .bool false, .int .i64 0, .int .i64 0, .int .i64 0, .string ⟨#[]⟩]) rfl 33 rfl)
    replace T1 := Lib.hid (T1.out.later b31)
    replace T2 := Lib.hid (T2.out.later b31)
    replace T3 := Lib.hid (T3.out.later b31)
    replace T4 := Lib.hid (T4.out.later b31)
    replace HQ := Lib.hid (HQ.out.later b31)
    replace HU := Lib.hid (HU.out.later b31)
    replace U6 := Lib.hid (U6.out.later b31)
    replace T6 := Lib.hid (T6.out.later b31)
    replace T7 := Lib.hid (T7.out.later b31)
    replace U7 := Lib.hid (U7.out.later b31)
    replace T9 := Lib.hid (T9.out.later b31)
    replace T10 := Lib.hid (T10.out.later b31)
    replace T12 := Lib.hid (T12.out.later b31)
    replace U15 := Lib.hid (U15.out.later b31)
    replace HB := Lib.hid (below2Z HB.out b31)
    clear b31
    have b32 := bl_newZ (w30.alloc (.cells #[.string ⟨#[]⟩, .bool false, .int .i64 0, .int .i64 0, .int .i64 0, .string ⟨#[]⟩] 33)) (.cells #[.slice a15 0 c15, .bool false] 24)
    have T15 := Lib.hid (cellsAt_made (w := (w30.alloc (.cells #[.string ⟨#[]⟩, .bool false, .int .i64 0, .int .i64 0, .int .i64 0, .string ⟨#[]⟩] 33))) (cs := #[.slice a15 0 c15, .bool false]) (vs := [.slice a15 0 c15, .bool false]) rfl 24 (B := w30.heap.size + 1) (by simp))
    replace T1 := Lib.hid (T1.out.later b32)
    replace T2 := Lib.hid (T2.out.later b32)
    replace T3 := Lib.hid (T3.out.later b32)
    replace T4 := Lib.hid (T4.out.later b32)
    replace HQ := Lib.hid (HQ.out.later b32)
    replace HU := Lib.hid (HU.out.later b32)
    replace U6 := Lib.hid (U6.out.later b32)
    replace T6 := Lib.hid (T6.out.later b32)
    replace T7 := Lib.hid (T7.out.later b32)
    replace U7 := Lib.hid (U7.out.later b32)
    replace T9 := Lib.hid (T9.out.later b32)
    replace T10 := Lib.hid (T10.out.later b32)
    replace T12 := Lib.hid (T12.out.later b32)
    replace U15 := Lib.hid (U15.out.later b32)
    replace T14 := Lib.hid (T14.out.later b32)
    replace HB := Lib.hid (below2Z HB.out b32)
    clear b32
    go_upto_region 11 with fail
    clear T12 T14 T15 U15
    generalize (w30.alloc (.cells #[.string ⟨#[]⟩, .bool false, .int .i64 0, .int .i64 0, .int .i64 0, .string ⟨#[]⟩] 33)).alloc (.cells #[.slice a15 0 c15, .bool false] 24) = W9 at T1 T2 T3 T4 HQ HU U6 T6 T7 U7 T9 T10 HB ⊢
    have e1 := eql_self6 [97] false 0 0 0 []
    have e2 := eql_self6 [98] false 0 0 0 []
    have hgd : Try.prog.eqGuardType Try.prog.depth 33 = false := by kernel_rfl
    have S12 : Hid (Chgs (W9.alloc (.cells #[.string ⟨#[97]⟩, .bool false, .int .i64 0, .int .i64 0, .int .i64 0, .string ⟨#[]⟩, .string ⟨#[98]⟩, .bool false, .int .i64 0, .int .i64 0, .int .i64 0, .string ⟨#[]⟩] 33)) (.slice (some ⟨W9.heap.size, 0, none⟩) 2 2) [lqC, lqB]) := Lib.hid (chgs_of (rdS_made chgOK (l := [lqC, lqB]) rfl (by decide) rfl))
    obtain ⟨q0, q1⟩ := twoAt HQ.out
    obtain ⟨s0, s1, s2, s3, s4, s5⟩ := sixAt T4.out
    obtain ⟨r0, r1, r2, r3, r4, r5⟩ := sixAt T3.out
    go_wp2_with fail
    have b60 := bl_newZ W9 (.cells #[.string ⟨#[97]⟩, .bool false, .int .i64 0, .int .i64 0, .int .i64 0, .string ⟨#[]⟩, .string ⟨#[98]⟩, .bool false, .int .i64 0, .int .i64 0, .int .i64 0, .string ⟨#[]⟩] 33)
    replace T1 := Lib.hid (T1.out.later b60)
    replace T2 := Lib.hid (T2.out.later b60)
    replace T3 := Lib.hid (T3.out.later b60)
    replace T4 := Lib.hid (T4.out.later b60)
    replace HQ := Lib.hid (HQ.out.later b60)
    replace HU := Lib.hid (HU.out.later b60)
    replace U6 := Lib.hid (U6.out.later b60)
    replace T6 := Lib.hid (T6.out.later b60)
    replace T7 := Lib.hid (T7.out.later b60)
    replace U7 := Lib.hid (U7.out.later b60)
    replace T9 := Lib.hid (T9.out.later b60)
    replace T10 := Lib.hid (T10.out.later b60)
    replace HB := Lib.hid (below2Z HB.out b60)
    clear b60
    clear q0 q1 s0 s1 s2 s3 s4 s5 r0 r1 r2 r3 r4 r5
    refine (qusame_any HU.out S12.out false false (Lib.hid (quSame_self _))).mono ?_
    rintro e w33 ⟨rfl, b33⟩
    replace T1 := Lib.hid (T1.out.later b33)
    replace T2 := Lib.hid (T2.out.later b33)
    replace T3 := Lib.hid (T3.out.later b33)
    replace T4 := Lib.hid (T4.out.later b33)
    replace HQ := Lib.hid (HQ.out.later b33)
    replace HU := Lib.hid (HU.out.later b33)
    replace U6 := Lib.hid (U6.out.later b33)
    replace T6 := Lib.hid (T6.out.later b33)
    replace T7 := Lib.hid (T7.out.later b33)
    replace U7 := Lib.hid (U7.out.later b33)
    replace T9 := Lib.hid (T9.out.later b33)
    replace T10 := Lib.hid (T10.out.later b33)
    replace HB := Lib.hid (below2Z HB.out b33)
    clear b33
    clear S12
    obtain ⟨t0, t1, t2, t3, t4, t5⟩ := sixAt T6.out
    obtain ⟨s0, s1, s2, s3, s4, s5⟩ := sixAt T4.out
    obtain ⟨q0, q1⟩ := twoAt T7.out
    obtain ⟨r0, r1, r2, r3, r4, r5⟩ := sixAt T3.out
    have S6 : Hid (Chgs (w33.alloc (.cells #[.string ⟨#[98]⟩, .bool false, .int .i64 0, .int .i64 0, .int .i64 0, .string ⟨#[]⟩] 33)) (.slice (some ⟨w33.heap.size, 0, none⟩) 1 1) [lqB]) := Lib.hid (chgs_of (rdS_made chgOK (l := [lqB]) rfl (by decide) rfl))
    go_wp2_with fail
    have b61 := bl_newZ w33 (.cells #[.string ⟨#[98]⟩, .bool false, .int .i64 0, .int .i64 0, .int .i64 0, .string ⟨#[]⟩] 33)
    replace T1 := Lib.hid (T1.out.later b61)
    replace T2 := Lib.hid (T2.out.later b61)
    replace T3 := Lib.hid (T3.out.later b61)
    replace T4 := Lib.hid (T4.out.later b61)
    replace HQ := Lib.hid (HQ.out.later b61)
    replace HU := Lib.hid (HU.out.later b61)
    replace U6 := Lib.hid (U6.out.later b61)
    replace T6 := Lib.hid (T6.out.later b61)
    replace T7 := Lib.hid (T7.out.later b61)
    replace U7 := Lib.hid (U7.out.later b61)
    replace T9 := Lib.hid (T9.out.later b61)
    replace T10 := Lib.hid (T10.out.later b61)
    replace HB := Lib.hid (below2Z HB.out b61)
    clear b61
    clear t0 t1 t2 t3 t4 t5 s0 s1 s2 s3 s4 s5 q0 q1 r0 r1 r2 r3 r4 r5
    refine (qusame_any U6.out S6.out false false (Lib.hid (quSame_self _))).mono ?_
    rintro e w34 ⟨rfl, b34⟩
    replace T1 := Lib.hid (T1.out.later b34)
    replace T2 := Lib.hid (T2.out.later b34)
    replace T3 := Lib.hid (T3.out.later b34)
    replace T4 := Lib.hid (T4.out.later b34)
    replace HQ := Lib.hid (HQ.out.later b34)
    replace HU := Lib.hid (HU.out.later b34)
    replace U6 := Lib.hid (U6.out.later b34)
    replace T6 := Lib.hid (T6.out.later b34)
    replace T7 := Lib.hid (T7.out.later b34)
    replace U7 := Lib.hid (U7.out.later b34)
    replace T9 := Lib.hid (T9.out.later b34)
    replace T10 := Lib.hid (T10.out.later b34)
    replace HB := Lib.hid (below2Z HB.out b34)
    clear b34
    clear S6
    obtain ⟨q0, q1⟩ := twoAt T9.out
    obtain ⟨t0, t1, t2, t3, t4, t5⟩ := sixAt T10.out
    obtain ⟨r0, r1, r2, r3, r4, r5⟩ := sixAt T3.out
    obtain ⟨s0, s1, s2, s3, s4, s5⟩ := sixAt T2.out
    go_wp2_with fail
    clear q0 q1 t0 t1 t2 t3 t4 t5 r0 r1 r2 r3 r4 r5 s0 s1 s2 s3 s4 s5
    refine (quone_any [97] [] true 4 0 0 (by decide) (by decide) (Lib.hid lq9) _).mono ?_
    rintro e w35 ⟨rfl, b35⟩
    replace T1 := Lib.hid (T1.out.later b35)
    replace T2 := Lib.hid (T2.out.later b35)
    replace T3 := Lib.hid (T3.out.later b35)
    replace T4 := Lib.hid (T4.out.later b35)
    replace HQ := Lib.hid (HQ.out.later b35)
    replace HU := Lib.hid (HU.out.later b35)
    replace U6 := Lib.hid (U6.out.later b35)
    replace T6 := Lib.hid (T6.out.later b35)
    replace T7 := Lib.hid (T7.out.later b35)
    replace U7 := Lib.hid (U7.out.later b35)
    replace T9 := Lib.hid (T9.out.later b35)
    replace T10 := Lib.hid (T10.out.later b35)
    replace HB := Lib.hid (below2Z HB.out b35)
    clear b35
    go_wp2_with fail
    refine (quone_any [97] [] true 0 0 0 (by decide) (by decide) (Lib.hid lq10) _).mono ?_
    rintro e w36 ⟨rfl, b36⟩
    replace T1 := Lib.hid (T1.out.later b36)
    replace T2 := Lib.hid (T2.out.later b36)
    replace T3 := Lib.hid (T3.out.later b36)
    replace T4 := Lib.hid (T4.out.later b36)
    replace HQ := Lib.hid (HQ.out.later b36)
    replace HU := Lib.hid (HU.out.later b36)
    replace U6 := Lib.hid (U6.out.later b36)
    replace T6 := Lib.hid (T6.out.later b36)
    replace T7 := Lib.hid (T7.out.later b36)
    replace U7 := Lib.hid (U7.out.later b36)
    replace T9 := Lib.hid (T9.out.later b36)
    replace T10 := Lib.hid (T10.out.later b36)
    replace HB := Lib.hid (below2Z HB.out b36)
    clear b36
    obtain ⟨q0, q1⟩ := twoAt HQ.out
    go_wp2_with fail
    clear q0 q1
    refine (qumay_any HU.out lqShort (by decide) false (Lib.hid lq11)).mono ?_
    rintro e w37 ⟨rfl, b37⟩
    replace T1 := Lib.hid (T1.out.later b37)
    replace T2 := Lib.hid (T2.out.later b37)
    replace T3 := Lib.hid (T3.out.later b37)
    replace T4 := Lib.hid (T4.out.later b37)
    replace HQ := Lib.hid (HQ.out.later b37)
    replace HU := Lib.hid (HU.out.later b37)
    replace U6 := Lib.hid (U6.out.later b37)
    replace T6 := Lib.hid (T6.out.later b37)
    replace T7 := Lib.hid (T7.out.later b37)
    replace U7 := Lib.hid (U7.out.later b37)
    replace T9 := Lib.hid (T9.out.later b37)
    replace T10 := Lib.hid (T10.out.later b37)
    replace HB := Lib.hid (below2Z HB.out b37)
    clear b37
    obtain ⟨q0, q1⟩ := twoAt HQ.out
    go_wp2_with fail
    clear q0 q1
    refine (qumay_any HU.out lqShort (by decide) false (Lib.hid lq12)).mono ?_
    rintro e w38 ⟨rfl, b38⟩
    replace T1 := Lib.hid (T1.out.later b38)
    replace T2 := Lib.hid (T2.out.later b38)
    replace T3 := Lib.hid (T3.out.later b38)
    replace T4 := Lib.hid (T4.out.later b38)
    replace HQ := Lib.hid (HQ.out.later b38)
    replace HU := Lib.hid (HU.out.later b38)
    replace U6 := Lib.hid (U6.out.later b38)
    replace T6 := Lib.hid (T6.out.later b38)
    replace T7 := Lib.hid (T7.out.later b38)
    replace U7 := Lib.hid (U7.out.later b38)
    replace T9 := Lib.hid (T9.out.later b38)
    replace T10 := Lib.hid (T10.out.later b38)
    replace HB := Lib.hid (below2Z HB.out b38)
    clear b38
    go_wp2_with fail
    refine (quempty_any (chgs_nil _) false (Lib.hid lq13)).mono ?_
    rintro e w39 ⟨rfl, b39⟩
    replace T1 := Lib.hid (T1.out.later b39)
    replace T2 := Lib.hid (T2.out.later b39)
    replace T3 := Lib.hid (T3.out.later b39)
    replace T4 := Lib.hid (T4.out.later b39)
    replace HQ := Lib.hid (HQ.out.later b39)
    replace HU := Lib.hid (HU.out.later b39)
    replace U6 := Lib.hid (U6.out.later b39)
    replace T6 := Lib.hid (T6.out.later b39)
    replace T7 := Lib.hid (T7.out.later b39)
    replace U7 := Lib.hid (U7.out.later b39)
    replace T9 := Lib.hid (T9.out.later b39)
    replace T10 := Lib.hid (T10.out.later b39)
    replace HB := Lib.hid (below2Z HB.out b39)
    clear b39
    obtain ⟨q0, q1⟩ := twoAt T9.out
    go_wp2_with fail
    clear q0 q1
    refine (quempty_any U7.out true (Lib.hid lq14)).mono ?_
    rintro e w40 ⟨rfl, b40⟩
    replace T1 := Lib.hid (T1.out.later b40)
    replace T2 := Lib.hid (T2.out.later b40)
    replace T3 := Lib.hid (T3.out.later b40)
    replace T4 := Lib.hid (T4.out.later b40)
    replace HQ := Lib.hid (HQ.out.later b40)
    replace HU := Lib.hid (HU.out.later b40)
    replace U6 := Lib.hid (U6.out.later b40)
    replace T6 := Lib.hid (T6.out.later b40)
    replace T7 := Lib.hid (T7.out.later b40)
    replace U7 := Lib.hid (U7.out.later b40)
    replace T9 := Lib.hid (T9.out.later b40)
    replace T10 := Lib.hid (T10.out.later b40)
    replace HB := Lib.hid (below2Z HB.out b40)
    clear b40
    obtain ⟨t0, t1, t2, t3⟩ := fourAt T1.out
    have SS := Lib.hid (tab_made w40 w40.heap.size rfl 72 [⟨[97], ⟨4, 0, 0, []⟩⟩] (by decide) #[.string ⟨#[97]⟩, .int .i64 4, .int .i64 0, .int .i64 0, .string ⟨#[]⟩] rfl 1 rfl)
    have b62 := bl_newZ w40 (.cells #[.string ⟨#[97]⟩, .int .i64 4, .int .i64 0, .int .i64 0, .string ⟨#[]⟩] 72)
    replace T1 := Lib.hid (T1.out.later b62)
    replace T2 := Lib.hid (T2.out.later b62)
    replace T3 := Lib.hid (T3.out.later b62)
    replace T4 := Lib.hid (T4.out.later b62)
    replace HQ := Lib.hid (HQ.out.later b62)
    replace HU := Lib.hid (HU.out.later b62)
    replace U6 := Lib.hid (U6.out.later b62)
    replace T6 := Lib.hid (T6.out.later b62)
    replace T7 := Lib.hid (T7.out.later b62)
    replace U7 := Lib.hid (U7.out.later b62)
    replace T9 := Lib.hid (T9.out.later b62)
    replace T10 := Lib.hid (T10.out.later b62)
    replace HB := Lib.hid (below2Z HB.out b62)
    clear b62
    obtain ⟨q0, q1⟩ := twoAt HQ.out
    go_wp2_with fail
    clear t0 t1 t2 t3 q0 q1
    refine (quover_any SS.out (by decide) HU.out (by decide) false).mono ?_
    rintro e w41 ⟨uo, rfl, hto, b41⟩
    replace T1 := Lib.hid (T1.out.later b41)
    replace T2 := Lib.hid (T2.out.later b41)
    replace T3 := Lib.hid (T3.out.later b41)
    replace T4 := Lib.hid (T4.out.later b41)
    replace HQ := Lib.hid (HQ.out.later b41)
    replace HU := Lib.hid (HU.out.later b41)
    replace U6 := Lib.hid (U6.out.later b41)
    replace T6 := Lib.hid (T6.out.later b41)
    replace T7 := Lib.hid (T7.out.later b41)
    replace U7 := Lib.hid (U7.out.later b41)
    replace T9 := Lib.hid (T9.out.later b41)
    replace T10 := Lib.hid (T10.out.later b41)
    replace HB := Lib.hid (below2Z HB.out b41)
    rw [lq15] at hto
    obtain ⟨ao, co, rfl, -⟩ := hto.open'
    clear hto
    clear b41
    go_wp2_with fail
    go_ret
    exact ⟨rfl, HB.out⟩

end Go.Proofs.Ythlkfbiclhgdoaa
