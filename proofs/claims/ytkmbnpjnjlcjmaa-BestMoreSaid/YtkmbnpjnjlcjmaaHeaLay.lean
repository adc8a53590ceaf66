/-
  LAYER 10, THE CODE: a slot laid at a place.
-/
import Derived.Test.YtkmbnpjnjlcjmaaHeaBet
namespace Go.Proofs.Ytkmbnpjnjlcjmaa
open Go.RowKit

/-- A heap with slots has them in a block. -/
theorem HAt.block {w : World} {base B : Nat} {v : Value} {M : Nat} {l : List Sl} {f : Int → Option Nat} {k : Nat} (h : HAt w base B v M l f k) (hl : 0 < l.length) : ∃ g cap, v = .slice (some ⟨g, 0, none⟩) l.length cap ∧ cap ≤ 9223372036854775807 ∧ l.length ≤ cap := by
  rcases h.own.2 with ⟨_, h0⟩ | ⟨g, cap, cur, hv, _, _, hn, hc, _⟩
  · omega
  · unfold maxLen at hc
    exact ⟨g, cap, hv, by omega, hn⟩

/-- One slot stored. -/
theorem hat_store {w : World} {base B g n cap M : Nat} {l : List Sl} {f : Int → Option Nat} {k : Nat} (h : HAt w base B (.slice (some ⟨g, 0, none⟩) n cap) M l f k) {a : Nat} (ha : a < l.length) (s : Sl) :
    HAt ((((w.setCell ⟨g, a * 4, none⟩ (.int .i64 s.id)).setCell ⟨g, a * 4 + 1, none⟩ (.int .i64 s.r0)).setCell ⟨g, a * 4 + 2, none⟩ (.int .i64 s.r1)).setCell ⟨g, a * 4 + 3, none⟩ (.int .i64 s.r2)) base B (.slice (some ⟨g, 0, none⟩) n cap) M (l.set a s) f k := by
  have ho := ownS_set slOK h.own ha s
  obtain ⟨hBM, hap⟩ := h.apart
  obtain ⟨h1, h2⟩ := hap g n cap rfl
  have hset : ∀ b, b ≠ g → ((((w.setCell ⟨g, a * 4, none⟩ (.int .i64 s.id)).setCell ⟨g, a * 4 + 1, none⟩ (.int .i64 s.r0)).setCell ⟨g, a * 4 + 2, none⟩ (.int .i64 s.r1)).setCell ⟨g, a * 4 + 3, none⟩ (.int .i64 s.r2)).heap[b]? = w.heap[b]? := by
    intro b hb
    rw [RowKit.Below.heap_setCell _ _ _ _ hb, RowKit.Below.heap_setCell _ _ _ _ hb, RowKit.Below.heap_setCell _ _ _ _ hb, RowKit.Below.heap_setCell _ _ _ _ hb]
  exact ⟨h.le, h.leM, (hset B (Ne.symm h1)).trans h.head, ho, h.places.kept (hset M (Ne.symm h2))⟩

theorem store4_beside (w : World) (g : Nat) (o0 o1 o2 o3 : Nat) (a b c d : Value) {S : Nat → Prop} (hS : S g) : Beside w ((((w.setCell ⟨g, o0, none⟩ a).setCell ⟨g, o1, none⟩ b).setCell ⟨g, o2, none⟩ c).setCell ⟨g, o3, none⟩ d) S := by
  intro x _ hn
  have hb : x ≠ g := fun e => hn (by rw [e]; exact hS)
  rw [RowKit.Below.heap_setCell _ _ _ _ hb, RowKit.Below.heap_setCell _ _ _ _ hb, RowKit.Below.heap_setCell _ _ _ _ hb, RowKit.Below.heap_setCell _ _ _ _ hb]

theorem map_isNil (M : Nat) (w : World) : (binOp .eql 151 (.map (some M)) (.map none)).run Try.prog w = .ok (.bool false) w := by kernel_rfl

set_option maxHeartbeats 3200000 in
set_option maxRecDepth 100000 in
theorem lay_any {w : World} {base B : Nat} {v : Value} {M : Nat} {l : List Sl} {f : Int → Option Nat} {k : Nat} (h : HAt w base B v M l f k) {a : Nat} (ha : a < l.length) (hl : l.length ≤ 1000) (hk : k ≤ 1000) (i r0 r1 r2 : Int) (hi : (Lit.int .i64 i).wf = true) :
    Calls Try.prog 141 #[.pointer (some ⟨B, 0, none⟩), .int .i64 a, .agg #[.int .i64 i, .int .i64 r0, .int .i64 r1, .int .i64 r2]] w fun e w' =>
      e = .returned (.tuple #[]) ∧ HAt w' base B v M (l.set a ⟨i, r0, r1, r2⟩) (layF f i (some a)) (if (f i).isSome then k else k + 1) ∧ Beside w w' (Foot B M v) ∧ w.heap.size ≤ w'.heap.size ∧ Below base w w' := by
  obtain ⟨g, cap, rfl, hcap, hlc⟩ := h.block (by omega)
  have H1 := Lib.hid (h.later (bl_newZ w (.cells #[.int .i64 i, .int .i64 r0, .int .i64 r1, .int .i64 r2] 92)))
  obtain ⟨c0, c1, f0, f1⟩ := H1.out.cells
  obtain ⟨s0, s1, s2, s3⟩ := cells4 (H1.out.own.row slOK ha)
  have z0 := H1.out.own.frozenAt (a * 4)
  have z1 := H1.out.own.frozenAt (a * 4 + 1)
  have z2 := H1.out.own.frozenAt (a * 4 + 2)
  have z3 := H1.out.own.frozenAt (a * 4 + 3)
  obtain ⟨b0, b1, b2, b3⟩ := cells4 (cellsAt_made (w := w) (cs := #[.int .i64 i, .int .i64 r0, .int .i64 r1, .int .i64 r2]) (vs := slVals ⟨i, r0, r1, r2⟩) rfl 92 rfl)
  simp only [Nat.zero_add] at b0 b1 b2 b3
  have hB1 := Lib.hid (bl_newZ w (.cells #[.int .i64 i, .int .i64 r0, .int .i64 r1, .int .i64 r2] 92))
  have t0 : (0 : Int) ≤ (a : Int) := by omega
  have t1 : (a : Int) < (l.length : Int) := by omega
  obtain ⟨n1, _⟩ := h.apart.2 g _ _ rfl
  have n2 : ¬ B = g := Ne.symm n1
  have hgw := (h.own.gblock rfl).1
  have n3 : ¬ g = w.heap.size := by omega
  have n4 : ¬ w.heap.size = g := by omega
  have H := Lib.hid h
  have hnil := map_isNil M
  clear h
  go_enter Try.func141, Try.ntmps141
  go_wp2_with fail
  generalize hW : w.alloc (.cells #[.int .i64 i, .int .i64 r0, .int .i64 r1, .int .i64 r2] 92) = w1 at c0 c1 f0 f1 s0 s1 s2 s3 z0 z1 z2 z3 b0 b1 b2 b3 H1 hB1 ⊢
  clear hW
  go_region_held (fun w' => w'.cell? ⟨B, 0, none⟩ = some (.slice (some ⟨g, 0, none⟩) l.length cap) ∧ w'.cell? ⟨w.heap.size, 0, none⟩ = some (.int .i64 i) ∧ w'.cell? ⟨w.heap.size, 1, none⟩ = some (.int .i64 r0) ∧ w'.cell? ⟨w.heap.size, 2, none⟩ = some (.int .i64 r1) ∧ w'.cell? ⟨w.heap.size, 3, none⟩ = some (.int .i64 r2)) ((go_split_ands; refine ⟨?_, ?_, ?_, ?_, ?_⟩ <;> go_keep)) (fail)
  have H2 := Lib.hid (show HAt ((((w1.setCell ⟨g, a * 4, none⟩ (.int .i64 i)).setCell ⟨g, a * 4 + 1, none⟩ (.int .i64 r0)).setCell ⟨g, a * 4 + 2, none⟩ (.int .i64 r1)).setCell ⟨g, a * 4 + 3, none⟩ (.int .i64 r2)).drew base B (.slice (some ⟨g, 0, none⟩) l.length cap) M (l.set a ⟨i, r0, r1, r2⟩) f k from (hat_store H1.out ha ⟨i, r0, r1, r2⟩).spared ⟨rfl, rfl, fun _ _ _ _ => rfl⟩)
  have hb2 : ((((w1.setCell ⟨g, a * 4, none⟩ (.int .i64 i)).setCell ⟨g, a * 4 + 1, none⟩ (.int .i64 r0)).setCell ⟨g, a * 4 + 2, none⟩ (.int .i64 r1)).setCell ⟨g, a * 4 + 3, none⟩ (.int .i64 r2)).drew.cell? ⟨w.heap.size, 0, none⟩ = some (.int .i64 i) := by
    show (World.cell? (((_ : World).setCell _ _)) _) = _
    rw [World.cell?_setCell_other _ _ _ _ (by simp), World.cell?_setCell_other _ _ _ _ (by simp), World.cell?_setCell_other _ _ _ _ (by simp), World.cell?_setCell_other _ _ _ _ (by simp)]
    exact b0
  have HB2 := Lib.hid (show Beside w1 ((((w1.setCell ⟨g, a * 4, none⟩ (.int .i64 i)).setCell ⟨g, a * 4 + 1, none⟩ (.int .i64 r0)).setCell ⟨g, a * 4 + 2, none⟩ (.int .i64 r1)).setCell ⟨g, a * 4 + 3, none⟩ (.int .i64 r2)).drew (Foot B M (.slice (some ⟨g, 0, none⟩) l.length cap)) from store4_beside w1 g _ _ _ _ _ _ _ _ (.inr (.inr ⟨_, _, rfl⟩)))
  have HS2 := Lib.hid (show w1.heap.size ≤ ((((w1.setCell ⟨g, a * 4, none⟩ (.int .i64 i)).setCell ⟨g, a * 4 + 1, none⟩ (.int .i64 r0)).setCell ⟨g, a * 4 + 2, none⟩ (.int .i64 r1)).setCell ⟨g, a * 4 + 3, none⟩ (.int .i64 r2)).drew.heap.size by simp)
  have HL2 := Lib.hid (show Below base w1 ((((w1.setCell ⟨g, a * 4, none⟩ (.int .i64 i)).setCell ⟨g, a * 4 + 1, none⟩ (.int .i64 r0)).setCell ⟨g, a * 4 + 2, none⟩ (.int .i64 r1)).setCell ⟨g, a * 4 + 3, none⟩ (.int .i64 r2)).drew from by
    have hbg := (H1.out.own.gblock rfl).2.1
    exact (((((Below.refl base w1).setCell hbg _).setCell hbg _).setCell hbg _).setCell hbg _).drew)
  generalize ((((w1.setCell ⟨g, a * 4, none⟩ (.int .i64 i)).setCell ⟨g, a * 4 + 1, none⟩ (.int .i64 r0)).setCell ⟨g, a * 4 + 2, none⟩ (.int .i64 r1)).setCell ⟨g, a * 4 + 3, none⟩ (.int .i64 r2)).drew = w2 at H2 hb2 HB2 HS2 HL2 ⊢
  obtain ⟨m0, m1, _, _⟩ := H2.out.cells
  obtain ⟨w3, hrun, hp, hturn⟩ := (H2.out.places.kept (w' := w2.drew) rfl).put (by omega) i hi a (by omega)
  have hMw := H.out.places.lt
  have q1 : w3.cell? ⟨B, 1, none⟩ = some (.map (some M)) := (World.cell?_of_block (hturn.grown.block B H2.out.lt (fun e => H.out.apart.1 (Option.some.inj e)))).trans m1
  have q0 : w3.cell? ⟨w.heap.size, 0, none⟩ = some (.int .i64 i) := (World.cell?_of_block (hturn.grown.block w.heap.size (World.block_lt_of_cell? w2 _ hb2) (fun e => by have := Option.some.inj e; omega))).trans hb2
  clear c0 c1 f0 f1 s0 s1 s2 s3 z0 z1 z2 z3 b0 b1 b2 b3
  go_wp2_with fail
  go_region_held (fun w' => w'.cell? ⟨B, 1, none⟩ = some (.map (some M)) ∧ w'.cell? ⟨w.heap.size, 0, none⟩ = some (.int .i64 i)) ((first | exact ⟨q1, q0⟩ | exact ⟨m1, hb2⟩)) (fail)
  have H3 : Hid (HAt w3 base B (.slice (some ⟨g, 0, none⟩) l.length cap) M (l.set a ⟨i, r0, r1, r2⟩) (layF f i (some a)) (if (f i).isSome then k else k + 1)) := by
    refine ⟨H.out.le, H.out.leM, ?_, ?_, hp⟩
    · exact (hturn.grown.block B H2.out.lt (fun e => H.out.apart.1 (Option.some.inj e))).trans H2.out.head
    · refine H2.out.own.blocks fun g' n' c' hv => ?_
      exact hturn.grown.block g' (H2.out.own.gblock hv).1 (fun e => (H2.out.apart.2 g' n' c' hv).2 (Option.some.inj e))
  have B3 : Hid (Beside w w3 (Foot B M (.slice (some ⟨g, 0, none⟩) l.length cap))) := by
    refine (beside_below hB1.out _).trans hB1.out.size (HB2.out.trans HS2.out fun x hx hn => ?_)
    exact hturn.grown.block x hx (fun e => hn (.inr (.inl (Option.some.inj e))))
  have S3 : Hid (w.heap.size ≤ w3.heap.size) := Nat.le_trans hB1.out.size (Nat.le_trans HS2.out hturn.grown.size)
  have L3 : Hid (Below base w w3) := by
    have hbw : base ≤ w.heap.size := by have := H.out.le; have := H.out.lt; omega
    refine (hB1.out.mono hbw).trans (HL2.out.trans ?_)
    exact (Below.refl base w2).drew.grown hturn.grown (by show base ≤ w2.heap.size; have := hB1.out.size; have := HS2.out; omega) (fun k hk => by obtain rfl := Option.some.inj hk; exact H.out.leM)
  go_end0
  exact ⟨rfl, H3.out, B3.out, S3.out, L3.out⟩

end Go.Proofs.Ytkmbnpjnjlcjmaa
