/-
  LAYER 10, THE DOCUMENT's: Put.
-/
import Derived.Test.YtocljhbkjengpaaHeaRef
import Derived.Deep.AppendLies
namespace Go.Proofs.Ytocljhbkjengpaa
open Go.RowKit

theorem step_append_G {α : Type} {P : Program} {vals : α → List Value} {sz : Nat} {zero : α} {T S : TypeId} {Z : Value} {bytes : Nat} (D : RowOK P vals sz zero T S Z bytes) {w : World} {ops : Array Oper} {o : Oper} {a : Act} {K : Act → World → Prop} {Q : Exit → Act → World → Prop} {E : Prop}
    (hgd : o.guard = none) (s x : Operand) (ho : o.op = .call { callee := .builtin .append, args := #[s, x], argTypes := #[S, S] })
    (base : Nat) (v : Value) (t : List α) (hs : a.eval s = v) (hown : OwnS vals sz T w base v t)
    (ad : Addr) (c : Nat) (m : α) (hx : a.eval x = .slice (some ad) 1 c) (hsome : SrcS vals w ad [m])
    (hlen : t.length < 4294967) (hbase : base ≤ w.heap.size)
    (h : ∀ v' w', OutG vals sz T w w' base v t m v' → K (a.put o.dst v') w') :
    if Region.wanted o (yielded ops a.tmps) = true then Oper.wp P o a w K Q else E := by
  obtain ⟨i, hi, hz, hsize, hby⟩ := info_parts D.info
  have hzl : Z.cells.size = sz := by have := congrArg List.length D.zvals; rwa [Array.length_toList, D.len] at this
  refine step_append_lies w hgd s x S ho base T i _ sz bytes D.under hi hz hsize hby hzl D.pos v t.length (cellsS vals t) hs hown ad 1 c (cellsS vals [m]) hx (cellsS_len D.len [m]) hsome (cellsS_single D.one [m]) (by decide)
    (by unfold maxLen; omega) (Nat.le_trans (Nat.mul_le_mul (show t.length + 1 ≤ 4294967 by omega) D.fits) (by decide)) hbase _ rfl ?_
  intro g cap w' h1 h2 h3 h4
  refine h _ w' ⟨g, cap, rfl, ?_, h2, h3, h4⟩
  unfold OwnS
  rw [cellsS_append, List.length_append]
  exact h1

theorem setCell_id {w : World} {b i : Nat} {v : Value} (h : w.cell? ⟨b, i, none⟩ = some v) : w.setCell ⟨b, i, none⟩ v = w := by
  obtain ⟨H, tp, dr, os, out⟩ := w
  unfold World.setCell
  congr 1
  refine Array.ext_getElem? fun k => ?_
  rw [Array.getElem?_modify]
  split
  · rename_i e
    have e' : b = k := e
    subst e'
    cases hb : H[b]? with
    | none => rfl
    | some o =>
      simp only [World.cell?, hb] at h
      cases o with
      | cells cs T fr =>
        simp at h
        simp [Option.map]
        rw [Array.setIfInBounds_def]
        split
        · rename_i hi
          rw [Array.getElem?_eq_getElem hi] at h
          refine Array.ext_getElem? fun j => ?_
          rw [Array.getElem?_set]
          split
          · rename_i ej
            subst ej
            rw [Array.getElem?_eq_getElem hi, h]
          · rfl
        · rfl
      | _ => rfl
  · rfl

/-- What the document's heap may turn. -/
def FootK (K : Nat) (v : Value) (b : Nat) : Prop := b = K ∨ ∃ n c, v = .slice (some ⟨b, 0, none⟩) n c

structure TurnK (w w' : World) (base K : Nat) (v v' : Value) : Prop where
  beside : Beside w w' (FootK K v)
  size : w.heap.size ≤ w'.heap.size
  below : Below base w w'
  new : ∀ g n c, v' = .slice (some ⟨g, 0, none⟩) n c → (∃ n c, v = .slice (some ⟨g, 0, none⟩) n c) ∨ w.heap.size ≤ g

theorem kat_slice {w w3 : World} {base K : Nat} {v v' : Value} {L m : List Sl} (h : KAt w base K v L) (hK : w3.heap[K]? = w.heap[K]?) (ho : OwnS slVals 4 37 w3 base v' m) : KAt (w3.setCell ⟨K, 0, none⟩ v') base K v' m := by
  have hh := hK.trans h.head
  have hset := heap_setCell_same w3 K 0 _ _ v' hh
  refine ⟨h.le, hset, ho.blocks fun g n c hv => RowKit.Below.heap_setCell _ _ _ _ ?_⟩
  intro e
  have e' : g = K := e
  subst e'
  obtain ⟨_, _, cur, hc⟩ := ho.gblock hv
  rw [hh] at hc
  simp at hc

theorem KAt.apart {w : World} {base K : Nat} {v : Value} {L : List Sl} (h : KAt w base K v L) {g n c : Nat} (hv : v = .slice (some ⟨g, 0, none⟩) n c) : g ≠ K := by
  obtain ⟨_, _, cur, hc⟩ := h.own.gblock hv
  intro e
  subst e
  rw [h.head] at hc
  simp at hc

set_option maxHeartbeats 3200000 in
set_option maxRecDepth 100000 in
theorem rput_old {w : World} {base K : Nat} {v : Value} {L : List Sl} (h : KAt w base K v L) (ho : Once L) (hl : L.length ≤ 1000) (id r0 r1 r2 : Int) {p : Nat} (hp : spot L id = some p) :
    Calls Try.prog 59 #[.pointer (some ⟨K, 0, none⟩), .int .i64 id, .agg #[.int .i64 r0, .int .i64 r1, .int .i64 r2]] w fun e w' =>
      e = .returned (.bool false) ∧ KAt w' base K v (L.set p ⟨id, r0, r1, r2⟩) ∧ TurnK w w' base K v v := by
  have hb1 := bl_newZ w (.cells #[.int .i64 r0, .int .i64 r1, .int .i64 r2] 30)
  have H1 := Lib.hid (h.later hb1)
  have hpl := place10_any H1.out ho hl id
  rw [show placeI L id = (p : Int) by unfold placeI; rw [hp]] at hpl
  have HF := Lib.hid hpl
  have hlt := (spot_some hp).1
  have hid := (spot_some hp).2
  obtain ⟨g, cap, rfl, hcap, hlc⟩ := h.block (by omega)
  obtain ⟨c0, f0⟩ := H1.out.cell
  obtain ⟨⟨i, s0', s1', s2'⟩, ht⟩ : ∃ s, at0 L p = s := ⟨_, rfl⟩
  obtain ⟨s0, s1, s2, s3⟩ := cells4 (H1.out.own.row rslOK hlt)
  rw [show L.getD p Sl.zero = at0 L p from rfl, ht] at s0 s1 s2 s3
  simp only at s0 s1 s2 s3
  have z1 := H1.out.own.frozenAt (p * 4 + 1)
  have z2 := H1.out.own.frozenAt (p * 4 + 2)
  have z3 := H1.out.own.frozenAt (p * 4 + 3)
  obtain ⟨x0, x1, x2⟩ : _ ∧ _ ∧ _ := ⟨cellsAt_made (w := w) (cs := #[.int .i64 r0, .int .i64 r1, .int .i64 r2]) (vs := [.int .i64 r0, .int .i64 r1, .int .i64 r2]) rfl 30 rfl 0 _ rfl, cellsAt_made (w := w) (cs := #[.int .i64 r0, .int .i64 r1, .int .i64 r2]) (vs := [.int .i64 r0, .int .i64 r1, .int .i64 r2]) rfl 30 rfl 1 _ rfl, cellsAt_made (w := w) (cs := #[.int .i64 r0, .int .i64 r1, .int .i64 r2]) (vs := [.int .i64 r0, .int .i64 r1, .int .i64 r2]) rfl 30 rfl 2 _ rfl⟩
  simp only [Nat.zero_add] at x0 x1 x2
  have t0 : (0 : Int) ≤ (p : Int) := by omega
  have t1 : (p : Int) < (L.length : Int) := by omega
  have t2 : decide (0 ≤ (p : Int)) = true := by simp
  have hgw := (h.own.gblock rfl).1
  have hbg := h.own.head.2.1
  have hKw := h.lt
  have hgK := h.apart rfl
  have n1 : ¬ g = w.heap.size := by omega
  have n2 : ¬ w.heap.size = g := by omega
  have n3 : ¬ g = K := hgK
  have n4 : ¬ K = g := Ne.symm hgK
  have H := Lib.hid h
  have HB1 := Lib.hid hb1
  have HT := Lib.hid ht
  have hii : i = id := by rw [ht] at hid; exact hid
  subst hii
  clear h hp hpl hb1 ht hid
  go_enter Try.func59, Try.ntmps59
  go_wp2_with fail
  refine HF.out.mono ?_
  rintro e w2 ⟨rfl, rfl⟩
  generalize hW : w.alloc (.cells #[.int .i64 r0, .int .i64 r1, .int .i64 r2] 30) = w1 at c0 f0 s0 s1 s2 s3 z1 z2 z3 x0 x1 x2 H1 HB1 HF ⊢
  clear hW
  have hcs : (((w1.setCell ⟨g, p * 4 + 1, none⟩ (.int .i64 r0)).setCell ⟨g, p * 4 + 2, none⟩ (.int .i64 r1)).setCell ⟨g, p * 4 + 3, none⟩ (.int .i64 r2)).drew.heap = (((w1.setCell ⟨g, p * 4 + 1, none⟩ (.int .i64 r0)).setCell ⟨g, p * 4 + 2, none⟩ (.int .i64 r1)).setCell ⟨g, p * 4 + 3, none⟩ (.int .i64 r2)).heap := rfl
  clear hcs
  go_wp2_with fail
  go_region_held (fun W => W.cell? ⟨K, 0, none⟩ = some (.slice (some ⟨g, 0, none⟩) L.length cap) ∧ W.cell? ⟨w.heap.size, 0, none⟩ = some (.int .i64 r0) ∧ W.cell? ⟨w.heap.size, 1, none⟩ = some (.int .i64 r1) ∧ W.cell? ⟨w.heap.size, 2, none⟩ = some (.int .i64 r2)) (go_keep) (fail)
  go_wp2_with fail
  all_goals (
    have hown := ownS_set rslOK H1.out.own hlt ⟨i, r0, r1, r2⟩
    have hw4 : w1.setCells g (p * 4) (slVals ⟨i, r0, r1, r2⟩) = ((w1.setCell ⟨g, p * 4 + 1, none⟩ (.int .i64 r0)).setCell ⟨g, p * 4 + 1 + 1, none⟩ (.int .i64 r1)).setCell ⟨g, p * 4 + 1 + 1 + 1, none⟩ (.int .i64 r2) := by
      show (((w1.setCell ⟨g, p * 4, none⟩ (.int .i64 i)).setCell ⟨g, p * 4 + 1, none⟩ (.int .i64 r0)).setCell ⟨g, p * 4 + 1 + 1, none⟩ (.int .i64 r1)).setCell ⟨g, p * 4 + 1 + 1 + 1, none⟩ (.int .i64 r2) = _
      rw [setCell_id s0]
    rw [hw4] at hown
    have hbs : ∀ b, b ≠ g → (((w1.setCell ⟨g, p * 4 + 1, none⟩ (.int .i64 r0)).setCell ⟨g, p * 4 + 1 + 1, none⟩ (.int .i64 r1)).setCell ⟨g, p * 4 + 1 + 1 + 1, none⟩ (.int .i64 r2)).heap[b]? = w1.heap[b]? := by
      intro b hb
      rw [RowKit.Below.heap_setCell _ _ _ _ hb, RowKit.Below.heap_setCell _ _ _ _ hb, RowKit.Below.heap_setCell _ _ _ _ hb]
    have hsz : w1.heap.size = (((w1.setCell ⟨g, p * 4 + 1, none⟩ (.int .i64 r0)).setCell ⟨g, p * 4 + 1 + 1, none⟩ (.int .i64 r1)).setCell ⟨g, p * 4 + 1 + 1 + 1, none⟩ (.int .i64 r2)).heap.size := by
      rw [World.size_setCell, World.size_setCell, World.size_setCell]
    have hbel : Below base w (((w1.setCell ⟨g, p * 4 + 1, none⟩ (.int .i64 r0)).setCell ⟨g, p * 4 + 1 + 1, none⟩ (.int .i64 r1)).setCell ⟨g, p * 4 + 1 + 1 + 1, none⟩ (.int .i64 r2)) :=
      (((HB1.out.mono (Nat.le_trans H.out.le (Nat.le_of_lt H.out.lt))).setCell (p := ⟨g, p * 4 + 1, none⟩) hbg _).setCell (p := ⟨g, p * 4 + 1 + 1, none⟩) hbg _).setCell (p := ⟨g, p * 4 + 1 + 1 + 1, none⟩) hbg _
    refine bodyPost_ret (v := .bool false) (by simp [results, Try.results59, go_sem]) rfl ⟨rfl, ⟨H.out.le, (hbs K n4).trans H1.out.head, hown.drew⟩, ⟨fun b hb hn => ?_, ?_, hbel.drew, fun g' n c hv => .inl ⟨n, c, hv⟩⟩⟩
    · exact (hbs b (fun e => hn (.inr ⟨_, _, by rw [e]⟩))).trans (HB1.out.block b hb)
    · exact Nat.le_trans HB1.out.size (Nat.le_of_eq hsz))

theorem kat_out {w w' : World} {base K : Nat} {v v' : Value} {L : List Sl} {m : Sl} (h : KAt w base K v L) (ho : OutG slVals 4 37 w w' base v L m v') : w'.heap[K]? = w.heap[K]? := by
  obtain ⟨g, cap, _, _, hgrow, _, _⟩ := ho
  refine hgrow.block K h.lt fun e => ?_
  obtain ⟨n, c, e'⟩ := own_blk h.own e.symm
  exact h.apart e' rfl

theorem turnK_out {w w3 w' : World} {base K : Nat} {v v' : Value} {L : List Sl} {m : Sl} (h : KAt w base K v L) (hb : Below w.heap.size w w3) (ho : OutG slVals 4 37 w3 w' base v L m v') : TurnK w (w'.setCell ⟨K, 0, none⟩ v') base K v v' := by
  obtain ⟨g, cap, rfl, _, hgrow, hlies, _⟩ := ho
  have hKw := h.lt
  refine ⟨fun x hx hn => ?_, ?_, ?_, fun g' n c e => ?_⟩
  · rw [RowKit.Below.heap_setCell _ _ _ _ (fun e => hn (.inl e))]
    refine (hgrow.block x (Nat.lt_of_lt_of_le hx hb.size) (fun e => ?_)).trans (hb.block x hx)
    obtain ⟨n, c, e'⟩ := own_blk h.own e.symm
    exact hn (.inr ⟨n, c, e'⟩)
  · rw [World.size_setCell]
    exact Nat.le_trans hb.size hgrow.size
  · refine Below.setCell ((hb.mono (Nat.le_trans h.le (Nat.le_of_lt hKw))).trans ?_) h.le _
    exact (Below.refl base _).grown hgrow (Nat.le_trans h.le (Nat.le_trans (Nat.le_of_lt hKw) hb.size)) (fun k hk => by obtain ⟨n, c, e'⟩ := own_blk h.own hk; exact (h.own.gblock e').2.1)
  · simp only [Value.slice.injEq, Option.some.injEq, Addr.mk.injEq, and_true] at e
    rcases hlies with hl' | hl'
    · obtain ⟨n', c', e'⟩ := own_blk h.own hl'
      exact .inl ⟨n', c', by rw [← e.1]; exact e'⟩
    · exact .inr (by rw [← e.1, hl']; exact hb.size)

set_option maxHeartbeats 3200000 in
set_option maxRecDepth 100000 in
theorem rput_new {w : World} {base K : Nat} {v : Value} {L : List Sl} (h : KAt w base K v L) (ho : Once L) (hl : L.length < 1000) (id r0 r1 r2 : Int) (hp : spot L id = none) :
    Calls Try.prog 59 #[.pointer (some ⟨K, 0, none⟩), .int .i64 id, .agg #[.int .i64 r0, .int .i64 r1, .int .i64 r2]] w fun e w' =>
      ∃ v', e = .returned (.bool true) ∧ KAt w' base K v' (L ++ [⟨id, r0, r1, r2⟩]) ∧ TurnK w w' base K v v' := by
  have hb1 := bl_newZ w (.cells #[.int .i64 r0, .int .i64 r1, .int .i64 r2] 30)
  have H1 := Lib.hid (h.later hb1)
  have hpl := place10_any H1.out ho (Nat.le_of_lt hl) id
  rw [show placeI L id = (-1 : Int) by unfold placeI; rw [hp]] at hpl
  have HF := Lib.hid hpl
  obtain ⟨c0, f0⟩ := H1.out.cell
  obtain ⟨x0, x1, x2⟩ : _ ∧ _ ∧ _ := ⟨cellsAt_made (w := w) (cs := #[.int .i64 r0, .int .i64 r1, .int .i64 r2]) (vs := [.int .i64 r0, .int .i64 r1, .int .i64 r2]) rfl 30 rfl 0 _ rfl, cellsAt_made (w := w) (cs := #[.int .i64 r0, .int .i64 r1, .int .i64 r2]) (vs := [.int .i64 r0, .int .i64 r1, .int .i64 r2]) rfl 30 rfl 1 _ rfl, cellsAt_made (w := w) (cs := #[.int .i64 r0, .int .i64 r1, .int .i64 r2]) (vs := [.int .i64 r0, .int .i64 r1, .int .i64 r2]) rfl 30 rfl 2 _ rfl⟩
  simp only [Nat.zero_add] at x0 x1 x2
  have hKw := h.lt
  have H := Lib.hid h
  have HB1 := Lib.hid hb1
  have hsz1 : (w.alloc (.cells #[.int .i64 r0, .int .i64 r1, .int .i64 r2] 30)).heap.size = w.heap.size + 1 := World.size_alloc _ _
  clear h hp hpl hb1
  go_enter Try.func59, Try.ntmps59
  go_wp2_with fail
  refine HF.out.mono ?_
  rintro e w2 ⟨rfl, rfl⟩
  generalize hW : w.alloc (.cells #[.int .i64 r0, .int .i64 r1, .int .i64 r2] 30) = w1 at c0 f0 x0 x1 x2 hsz1 H1 HB1 HF ⊢
  clear hW
  have k1 : K < w1.heap.size := by omega
  have k2 : w.heap.size < w1.heap.size := by omega
  have H3 := Lib.hid (H1.out.later ((Below.refl w1.heap.size w1).drew.trans (bl_newZ w1.drew (.cells #[.int .i64 id, .int .i64 r0, .int .i64 r1, .int .i64 r2] 37))))
  have HB3 := Lib.hid (HB1.out.trans (((Below.refl w1.heap.size w1).drew.trans (bl_newZ w1.drew (.cells #[.int .i64 id, .int .i64 r0, .int .i64 r1, .int .i64 r2] 37))).mono HB1.out.size))
  have C3 : Hid (SrcS slVals (w1.drew.alloc (.cells #[.int .i64 id, .int .i64 r0, .int .i64 r1, .int .i64 r2] 37)) ⟨w1.heap.size, 0, none⟩ [⟨id, r0, r1, r2⟩]) := srcS_new (vals := slVals) (w := w1.drew) (r := (⟨id, r0, r1, r2⟩ : Sl)) rfl rfl _ rfl
  have hz4 : base ≤ (w1.drew.alloc (.cells #[.int .i64 id, .int .i64 r0, .int .i64 r1, .int .i64 r2] 37)).heap.size := by
    have := H.out.le
    rw [World.size_alloc]
    show base ≤ w1.heap.size + 1
    omega
  have hl4 : L.length < 4294967 := by omega
  go_wp2_with fail
  go_region_law (refine step_append_G rslOK rfl (.tmp 25) (.tmp 29) rfl base v L (by simp [Act.eval]) (by exact H3.out.own) ⟨w1.heap.size, 0, none⟩ 1 ⟨id, r0, r1, r2⟩ (by simp [Act.eval]) C3.out hl4 hz4 ?_; intro v' w' hG; have hq0 := (World.cell?_of_block (kat_out H3.out hG)).trans H3.out.cell.1; have hq1 := frozen_of_row w' K 0 _ _ ((kat_out H3.out hG).trans H3.out.head); have hT := Lib.hid (turnK_out H.out HB3.out hG); have hq2 := kat_out H3.out hG; obtain ⟨g, cap, ev, hown, hgrow, hlies, hglt⟩ := hG; subst ev; have hK4 := Lib.hid (kat_slice H3.out hq2 hown); clear hq2 hgrow hlies hglt hown)
  all_goals
    clear hq0 hq1 c0 f0 x0 x1 x2
    go_wp2_with fail
    go_ret
    exact ⟨_, rfl, hK4.out, hT.out⟩

/-- The document's Put. -/
theorem rput_any {w : World} {base K : Nat} {v : Value} {L : List Sl} (h : KAt w base K v L) (ho : Once L) (hl : L.length < 1000) (id r0 r1 r2 : Int) {r : Bool} (hr : (spot L id).isNone = r) :
    Calls Try.prog 59 #[.pointer (some ⟨K, 0, none⟩), .int .i64 id, .agg #[.int .i64 r0, .int .i64 r1, .int .i64 r2]] w fun e w' =>
      ∃ v', e = .returned (.bool r) ∧ KAt w' base K v' (slPut L ⟨id, r0, r1, r2⟩) ∧ TurnK w w' base K v v' := by
  cases hp : spot L id with
  | none =>
    obtain rfl : true = r := by rw [← hr, hp]; rfl
    have : slPut L ⟨id, r0, r1, r2⟩ = L ++ [⟨id, r0, r1, r2⟩] := by unfold slPut; simp only [hp]
    rw [this]
    exact rput_new h ho hl id r0 r1 r2 hp
  | some p =>
    obtain rfl : false = r := by rw [← hr, hp]; rfl
    have : slPut L ⟨id, r0, r1, r2⟩ = L.set p ⟨id, r0, r1, r2⟩ := by unfold slPut; simp only [hp]
    rw [this]
    refine (rput_old h ho (Nat.le_of_lt hl) id r0 r1 r2 hp).mono ?_
    rintro e w' ⟨he, hk, ht⟩
    exact ⟨v, he, hk, ht⟩

set_option maxRecDepth 100000 in
theorem rdrop_none {w : World} {base K : Nat} {v : Value} {L : List Sl} (h : KAt w base K v L) (ho : Once L) (hl : L.length ≤ 1000) (id : Int) (hp : spot L id = none) :
    Calls Try.prog 60 #[.pointer (some ⟨K, 0, none⟩), .int .i64 id] w fun e w' => e = .returned (.bool false) ∧ w = w' := by
  have hpl := place10_any h ho hl id
  rw [show placeI L id = (-1 : Int) by unfold placeI; rw [hp]] at hpl
  have HF := Lib.hid hpl
  clear h hp hpl
  go_enter Try.func60, Try.ntmps60
  go_wp2_with fail
  refine HF.out.mono ?_
  rintro e w2 ⟨rfl, rfl⟩
  go_wp2_with fail
  go_ret
  exact ⟨rfl, rfl⟩

end Go.Proofs.Ytocljhbkjengpaa
