/-
  LAYER 10: a heap and the document's, side by side; a call of both.
-/
import Derived.Test.YtocljhbkjengpaaHeaOps
import Derived.Test.YtocljhbkjengpaaHeaRdrop
import Derived.Test.YtocljhbkjengpaaHeaRtop
namespace Go.Proofs.Ytocljhbkjengpaa
open Go.RowKit

/-- What a call of both makes of the slots. -/
def scStep (L : List Sl) (o : HOp) : List Sl := if o.act = 0 then slPut L o.sl else if o.act = 1 then slDel L o.id else L

theorem foot_kat {w : World} {base base2 B : Nat} {v : Value} {M : Nat} {L : List Sl} (h : HpAt w base B v M L) {K : Nat} {u : Value} {L2 : List Sl} (k : KAt w base2 K u L2) {x : Nat} (hx : FootK K u x) : ¬ Foot B M v x := by
  obtain ⟨m, h1, -, -⟩ := h
  obtain ⟨es, clock, hm⟩ := h1.hat.places.isMap
  have hb := h1.hat.head
  have hk := k.head
  rintro (e | e | ⟨n, c, e⟩)
  · subst e
    rcases hx with e | ⟨n, c, e⟩
    · rw [e, hk] at hb
      simp at hb
    · obtain ⟨-, -, cur, hc⟩ := k.own.gblock e
      rw [hc] at hb
      simp at hb
  · subst e
    rcases hx with e | ⟨n, c, e⟩
    · rw [e, hk] at hm
      simp at hm
    · obtain ⟨-, -, cur, hc⟩ := k.own.gblock e
      rw [hc] at hm
      simp at hm
  · obtain ⟨-, -, cur, hg⟩ := h1.hat.own.gblock e
    rcases hx with e | ⟨n, c, e⟩
    · rw [e, hk] at hg
      simp at hg
    · obtain ⟨-, -, cur, hc⟩ := k.own.gblock e
      rw [hc] at hg
      simp at hg

theorem kat_turnV {w w' : World} {base base2 B : Nat} {v v' : Value} {M : Nat} {L : List Sl} (h : HpAt w base B v M L) {K : Nat} {u : Value} {L2 : List Sl} (k : KAt w base2 K u L2) (t : TurnV w w' base B v M v') : KAt w' base2 K u L2 :=
  k.blocks (t.turn.beside K k.lt (foot_kat h k (.inl rfl))) fun g n c e => t.turn.beside g (k.own.gblock e).1 (foot_kat h k (.inr ⟨n, c, e⟩))

theorem hp_turnK {w w' : World} {base base2 B : Nat} {v : Value} {M : Nat} {L : List Sl} (h : HpAt w base B v M L) {K : Nat} {u u' : Value} {L2 : List Sl} (k : KAt w base2 K u L2) (t : TurnK w w' base2 K u u') : HpAt w' base B v M L := by
  obtain ⟨m, h1, h2, h3⟩ := h
  have hp : HpAt w base B v M L := ⟨m, h1, h2, h3⟩
  refine HpAt.spared hp ⟨?_, ?_, fun g n c e => ?_⟩
  · exact t.beside B h1.hat.lt fun hf => foot_kat hp k hf (.inl rfl)
  · exact t.beside M h1.hat.places.lt fun hf => foot_kat hp k hf (.inr (.inl rfl))
  · exact t.beside g (h1.hat.own.gblock e).1 fun hf => foot_kat hp k hf (.inr (.inr ⟨n, c, e⟩))

/-- A block of neither stays as it is. -/
theorem far_turnK {w w' : World} {base K : Nat} {u u' : Value} (t : TurnK w w' base K u u') {X : Nat} (hX : X < w.heap.size) (hf : ¬ FootK K u X) : ¬ FootK K u' X ∧ w'.heap[X]? = w.heap[X]? := by
  refine ⟨?_, t.beside X hX hf⟩
  rintro (e | ⟨n, c, e⟩)
  · exact hf (.inl e)
  · rcases t.new X n c e with h | h
    · exact hf (.inr h)
    · omega

theorem KAt.far {w : World} {base K : Nat} {u : Value} {L : List Sl} (k : KAt w base K u L) {X : Nat} (hX : w.heap.size ≤ X) : ¬ FootK K u X := by
  rintro (e | ⟨n, c, e⟩)
  · have := k.lt; omega
  · have := (k.own.gblock e).1; omega

set_option maxRecDepth 100000 in
theorem rsame_yes (i r0 r1 r2 : Int) (w : World) :
    Calls Try.prog 19 #[.agg #[.int .i64 i, .int .i64 r0, .int .i64 r1, .int .i64 r2], .agg #[.int .i64 i, .int .i64 r0, .int .i64 r1, .int .i64 r2]] w fun e w' => e = .returned (.bool true) ∧ Below w.heap.size w w' := by
  have he : ∀ w, (binOp .eql 30 (.agg #[.int .i64 r0, .int .i64 r1, .int .i64 r2]) (.agg #[.int .i64 r0, .int .i64 r1, .int .i64 r2])).run Try.prog w = .ok (.bool true) w := fun w => by rw [rank3_eql]; simp [rkSame]
  go_enter Try.func19, Try.ntmps19
  go_wp2_with fail
  go_ret
  exact ⟨rfl, ((Below.refl _ _).alloc (Nat.le_refl _) _).alloc (by simp) _⟩

set_option maxHeartbeats 3200000 in
set_option maxRecDepth 100000 in
theorem does_put {w : World} {base B : Nat} {v : Value} {M : Nat} {L : List Sl} (h : HpAt w base B v M L) {K : Nat} {u : Value} (k : KAt w base K u L) (hl : L.length < 1000) (id r0 r1 r2 : Int) (hid : (Lit.int .i64 id).wf = true) :
    Calls Try.prog 20 #[.pointer (some ⟨B, 0, none⟩), .pointer (some ⟨K, 0, none⟩), .agg #[.int .i64 0, .int .i64 id, .int .i64 r0, .int .i64 r1, .int .i64 r2]] w fun e w' =>
      ∃ v' u', e = .returned (.bool true) ∧ HpAt w' base B v' M (slPut L ⟨id, r0, r1, r2⟩) ∧ KAt w' base K u' (slPut L ⟨id, r0, r1, r2⟩) ∧ Below base w w' ∧ ∀ X, X < w.heap.size → ¬ Foot B M v X → ¬ FootK K u X → w'.heap[X]? = w.heap[X]? := by
  have hb1 := bl_newZ w (.cells #[.int .i64 0, .int .i64 id, .int .i64 r0, .int .i64 r1, .int .i64 r2] 43)
  have hx := cellsAt_made (w := w) (cs := #[.int .i64 0, .int .i64 id, .int .i64 r0, .int .i64 r1, .int .i64 r2]) (vs := opVals ⟨0, id, r0, r1, r2⟩) rfl 43 rfl
  obtain ⟨W, hW⟩ : ∃ W, W = w.alloc (.cells #[.int .i64 0, .int .i64 id, .int .i64 r0, .int .i64 r1, .int .i64 r2] 43) := ⟨_, rfl⟩
  have hXl : w.heap.size < W.drew.heap.size := by show w.heap.size < W.heap.size; rw [hW]; simp
  rw [← hW] at hb1 hx
  have HD := Lib.hid (show HpAt W.drew base B v M L from HpAt.spared (h.later hb1) ⟨rfl, rfl, fun _ _ _ _ => rfl⟩)
  have KD := Lib.hid (show KAt W.drew base K u L from (k.later hb1).blocks rfl fun _ _ _ _ => rfl)
  obtain ⟨c0, c1, c2, c3, c4⟩ := cells5o hx
  simp only [Nat.zero_add] at c0 c1 c2 c3 c4
  have C1 := Lib.hid (show W.drew.cell? ⟨w.heap.size, 1, none⟩ = some (.int .i64 id) from c1)
  have C2 := Lib.hid (show W.drew.cell? ⟨w.heap.size, 2, none⟩ = some (.int .i64 r0) from c2)
  have C3 := Lib.hid (show W.drew.cell? ⟨w.heap.size, 3, none⟩ = some (.int .i64 r1) from c3)
  have C4 := Lib.hid (show W.drew.cell? ⟨w.heap.size, 4, none⟩ = some (.int .i64 r2) from c4)
  have F1 := Lib.hid (h.far (Nat.le_refl _))
  have F2 := Lib.hid (k.far (Nat.le_refl _))
  have HB := Lib.hid (show Below base w W.drew from (hb1.mono h.base).drew)
  have HB1 := Lib.hid hb1
  have HO := Lib.hid h.once.1
  obtain ⟨q, hq⟩ : ∃ q, (spot L id).isNone = q := ⟨_, rfl⟩
  have HQ := Lib.hid hq
  clear h k hb1 hx hq
  go_enter Try.func20, Try.ntmps20
  go_wp2_with fail
  rw [← hW]
  clear hW
  go_wp2_with fail
  go_region_held (fun X => X.cell? ⟨w.heap.size, 1, none⟩ = some (.int .i64 id) ∧ X.cell? ⟨w.heap.size, 2, none⟩ = some (.int .i64 r0) ∧ X.cell? ⟨w.heap.size, 3, none⟩ = some (.int .i64 r1) ∧ X.cell? ⟨w.heap.size, 4, none⟩ = some (.int .i64 r2)) ((first | exact ⟨C1.out, C2.out, C3.out, C4.out⟩ | exact ⟨k1, k2, k3, k4⟩ | exact ⟨j1, j2, j3, j4⟩))
    (first | (go_at_call 55; refine (hp_put HD.out hl id r0 r1 r2 hid HQ.out).mono ?_; rintro e w2 ⟨v2, rfl, h2, t2⟩; have kk := t2.far hXl F1.out; have k1 := (World.cell?_of_block kk.2).trans C1.out; have k2 := (World.cell?_of_block kk.2).trans C2.out; have k3 := (World.cell?_of_block kk.2).trans C3.out; have k4 := (World.cell?_of_block kk.2).trans C4.out; have K2 := Lib.hid (kat_turnV HD.out KD.out t2); have X2 := Nat.lt_of_lt_of_le hXl t2.turn.size) | (go_at_call 59; refine (rput_any K2.out HO.out hl id r0 r1 r2 HQ.out).mono ?_; rintro e w3 ⟨u3, rfl, h3, t3⟩; have jj := far_turnK t3 X2 F2.out; have j1 := (World.cell?_of_block jj.2).trans k1; have j2 := (World.cell?_of_block jj.2).trans k2; have j3 := (World.cell?_of_block jj.2).trans k3; have j4 := (World.cell?_of_block jj.2).trans k4))
  have H3 := Lib.hid (hp_turnK h2 K2.out t3)
  have B3 := Lib.hid (HB.out.trans (t2.turn.below.trans t3.below))
  have K3 := Lib.hid h3
  have FR : Hid (∀ X, X < w.heap.size → ¬ Foot B M v X → ¬ FootK K u X → w3.heap[X]? = w.heap[X]?) := fun X hX f1 f2 => ((far_turnK t3 (Nat.lt_of_lt_of_le (Nat.lt_of_lt_of_le hX HB1.out.size) t2.turn.size) f2).2.trans (t2.far (Nat.lt_of_lt_of_le hX HB1.out.size) f1).2).trans (HB1.out.block X hX)
  clear h2 t2 h3 t3 kk jj k1 k2 k3 k4 j1 j2 j3 j4
  go_wp2_with fail
  go_ret
  exact ⟨v2, u3, rfl, H3.out, K3.out, B3.out, FR.out⟩

set_option maxHeartbeats 3200000 in
set_option maxRecDepth 100000 in
theorem does_drop {w : World} {base B : Nat} {v : Value} {M : Nat} {L : List Sl} (h : HpAt w base B v M L) {K : Nat} {u : Value} (k : KAt w base K u L) (id r0 r1 r2 : Int) (hid : (Lit.int .i64 id).wf = true) :
    Calls Try.prog 20 #[.pointer (some ⟨B, 0, none⟩), .pointer (some ⟨K, 0, none⟩), .agg #[.int .i64 1, .int .i64 id, .int .i64 r0, .int .i64 r1, .int .i64 r2]] w fun e w' =>
      ∃ v' u', e = .returned (.bool true) ∧ HpAt w' base B v' M (slDel L id) ∧ KAt w' base K u' (slDel L id) ∧ Below base w w' ∧ ∀ X, X < w.heap.size → ¬ Foot B M v X → ¬ FootK K u X → w'.heap[X]? = w.heap[X]? := by
  have hb1 := bl_newZ w (.cells #[.int .i64 1, .int .i64 id, .int .i64 r0, .int .i64 r1, .int .i64 r2] 43)
  have hx := cellsAt_made (w := w) (cs := #[.int .i64 1, .int .i64 id, .int .i64 r0, .int .i64 r1, .int .i64 r2]) (vs := opVals ⟨1, id, r0, r1, r2⟩) rfl 43 rfl
  obtain ⟨W, hW⟩ : ∃ W, W = w.alloc (.cells #[.int .i64 1, .int .i64 id, .int .i64 r0, .int .i64 r1, .int .i64 r2] 43) := ⟨_, rfl⟩
  have hXl : w.heap.size < W.drew.heap.size := by show w.heap.size < W.heap.size; rw [hW]; simp
  rw [← hW] at hb1 hx
  have HD := Lib.hid (show HpAt W.drew base B v M L from HpAt.spared (h.later hb1) ⟨rfl, rfl, fun _ _ _ _ => rfl⟩)
  have KD := Lib.hid (show KAt W.drew base K u L from (k.later hb1).blocks rfl fun _ _ _ _ => rfl)
  obtain ⟨c0, c1, c2, c3, c4⟩ := cells5o hx
  simp only [Nat.zero_add] at c0 c1 c2 c3 c4
  have C1 := Lib.hid (show W.drew.cell? ⟨w.heap.size, 1, none⟩ = some (.int .i64 id) from c1)
  have F1 := Lib.hid (h.far (Nat.le_refl _))
  have F2 := Lib.hid (k.far (Nat.le_refl _))
  have HB := Lib.hid (show Below base w W.drew from (hb1.mono h.base).drew)
  have HB1 := Lib.hid hb1
  have HO := Lib.hid h.once.1
  have hl := h.once.2.2
  obtain ⟨q, hq⟩ : ∃ q, (spot L id).isSome = q := ⟨_, rfl⟩
  have HQ := Lib.hid hq
  clear h k hb1 hx hq
  go_enter Try.func20, Try.ntmps20
  go_wp2_with fail
  rw [← hW]
  clear hW
  go_wp2_with fail
  go_region_held (fun X => X.cell? ⟨w.heap.size, 1, none⟩ = some (.int .i64 id)) ((first | exact C1.out | exact k1 | exact j1))
    (first | (go_at_call 57; refine (hp_drop HD.out id hid HQ.out).mono ?_; rintro e w2 ⟨v2, rfl, h2, t2⟩; have kk := t2.far hXl F1.out; have k1 := (World.cell?_of_block kk.2).trans C1.out; have K2 := Lib.hid (kat_turnV HD.out KD.out t2); have X2 := Nat.lt_of_lt_of_le hXl t2.turn.size) | (go_at_call 60; refine (rdrop_any K2.out HO.out hl id HQ.out).mono ?_; rintro e w3 ⟨u3, rfl, h3, t3⟩; have jj := far_turnK t3 X2 F2.out; have j1 := (World.cell?_of_block jj.2).trans k1))
  have H3 := Lib.hid (hp_turnK h2 K2.out t3)
  have B3 := Lib.hid (HB.out.trans (t2.turn.below.trans t3.below))
  have K3 := Lib.hid h3
  have FR : Hid (∀ X, X < w.heap.size → ¬ Foot B M v X → ¬ FootK K u X → w3.heap[X]? = w.heap[X]?) := fun X hX f1 f2 => ((far_turnK t3 (Nat.lt_of_lt_of_le (Nat.lt_of_lt_of_le hX HB1.out.size) t2.turn.size) f2).2.trans (t2.far (Nat.lt_of_lt_of_le hX HB1.out.size) f1).2).trans (HB1.out.block X hX)
  clear h2 t2 h3 t3 kk jj k1 j1
  go_wp2_with fail
  go_ret
  exact ⟨v2, u3, rfl, H3.out, K3.out, B3.out, FR.out⟩

end Go.Proofs.Ytocljhbkjengpaa
