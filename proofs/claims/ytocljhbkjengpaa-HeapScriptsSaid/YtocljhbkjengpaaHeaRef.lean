/-
  LAYER 10, THE DOCUMENT's: which slot is better; where an id stands; Get, Top.
-/
import Derived.Test.YtocljhbkjengpaaHeaEq
namespace Go.Proofs.Ytocljhbkjengpaa
open Go.RowKit

theorem rslOK : RowOK Try.prog slVals 4 Sl.zero 37 26 (.agg #[.int .i64 0, .int .i64 0, .int .i64 0, .int .i64 0]) 32 where
  len _ := rfl
  one a u hu := by
    simp only [slVals, List.mem_cons, List.not_mem_nil, or_false] at hu
    rcases hu with rfl | rfl | rfl | rfl <;> rfl
  pos := by decide
  small := by decide
  under := Try.underlying26
  info := by kernel_rfl
  zvals := rfl
  fits := by decide

/-- The document's heap: block K holds the slice v of the slots L. -/
structure KAt (w : World) (base K : Nat) (v : Value) (L : List Sl) : Prop where
  le : base ≤ K
  head : w.heap[K]? = some (.cells #[v] 28 (0, 0))
  own : OwnS slVals 4 37 w base v L

theorem KAt.lt {w : World} {base K : Nat} {v : Value} {L : List Sl} (h : KAt w base K v L) : K < w.heap.size := (Array.getElem?_eq_some_iff.1 h.head).1

theorem KAt.cell {w : World} {base K : Nat} {v : Value} {L : List Sl} (h : KAt w base K v L) : w.cell? ⟨K, 0, none⟩ = some v ∧ w.frozen? ⟨K, 0, none⟩ = false :=
  ⟨cell_of_row w K 0 _ _ (0, 0) h.head, frozen_of_row w K 0 _ _ h.head⟩

theorem KAt.blocks {w w' : World} {base K : Nat} {v : Value} {L : List Sl} (h : KAt w base K v L) (hK : w'.heap[K]? = w.heap[K]?) (hg : ∀ g n c, v = .slice (some ⟨g, 0, none⟩) n c → w'.heap[g]? = w.heap[g]?) : KAt w' base K v L :=
  ⟨h.le, hK.trans h.head, h.own.blocks hg⟩

theorem KAt.later {w w' : World} {base K : Nat} {v : Value} {L : List Sl} (h : KAt w base K v L) (hb : Below w.heap.size w w') : KAt w' base K v L :=
  h.blocks (hb.block _ h.lt) fun _ _ _ hv => hb.block _ (h.own.gblock hv).1

theorem KAt.block {w : World} {base K : Nat} {v : Value} {L : List Sl} (h : KAt w base K v L) (hl : 0 < L.length) : ∃ g cap, v = .slice (some ⟨g, 0, none⟩) L.length cap ∧ cap ≤ 9223372036854775807 ∧ L.length ≤ cap := by
  rcases h.own.2 with ⟨_, h0⟩ | ⟨g, cap, cur, hv, _, _, hn, hc, _⟩
  · omega
  · unfold maxLen at hc
    exact ⟨g, cap, hv, by omega, hn⟩

/-- The place of an id, or -1. -/
def placeI (L : List Sl) (id : Int) : Int := match spot L id with | some p => (p : Int) | none => -1

set_option maxHeartbeats 1600000 in
set_option maxRecDepth 100000 in
theorem rbetter_any (i a0 a1 a2 j b0 b1 b2 : Int) (w : World) :
    Calls Try.prog 23 #[.agg #[.int .i64 i, .int .i64 a0, .int .i64 a1, .int .i64 a2], .agg #[.int .i64 j, .int .i64 b0, .int .i64 b1, .int .i64 b2]] w fun e w' => e = .returned (.bool (slBet ⟨i, a0, a1, a2⟩ ⟨j, b0, b1, b2⟩)) ∧ Below w.heap.size w w' := by
  have HB0 := Lib.hid (show Below w.heap.size w ((w.alloc (.cells #[.int .i64 i, .int .i64 a0, .int .i64 a1, .int .i64 a2] 37)).alloc (.cells #[.int .i64 j, .int .i64 b0, .int .i64 b1, .int .i64 b2] 37)) from ((Below.refl _ _).alloc (Nat.le_refl _) _).alloc (by simp) _)
  have HXa := Lib.hid ((cellsAt_made (w := w) (cs := #[.int .i64 i, .int .i64 a0, .int .i64 a1, .int .i64 a2]) (vs := slVals ⟨i, a0, a1, a2⟩) rfl 37 rfl).later (bl_newZ _ (.cells #[.int .i64 j, .int .i64 b0, .int .i64 b1, .int .i64 b2] 37)))
  have HXb := Lib.hid (cellsAt_made (w := w.alloc (.cells #[.int .i64 i, .int .i64 a0, .int .i64 a1, .int .i64 a2] 37)) (cs := #[.int .i64 j, .int .i64 b0, .int .i64 b1, .int .i64 b2]) (vs := slVals ⟨j, b0, b1, b2⟩) rfl 37 (B := w.heap.size + 1) (by simp))
  go_enter Try.func23, Try.ntmps23
  go_wp2_with fail
  generalize (w.alloc (.cells #[.int .i64 i, .int .i64 a0, .int .i64 a1, .int .i64 a2] 37)).alloc (.cells #[.int .i64 j, .int .i64 b0, .int .i64 b1, .int .i64 b2] 37) = w1 at HB0 HXa HXb ⊢
  go_loopw [5] (fun t wr => ∃ k : Nat, k ≤ 3 ∧ t = .int .i64 k ∧ Hid (∀ x, x < k → rk ⟨i, a0, a1, a2⟩ x = rk ⟨j, b0, b1, b2⟩ x) ∧ Hid (Below w1.heap.size w1 wr)) (fun t _ => 3 - (intOf t).toNat)
  case atStart => exact ⟨0, by omega, rfl, by show ∀ _, _; intro x hx; omega, Below.refl _ _⟩
  case round =>
    obtain ⟨k, hk, rfl, HA, HB⟩ := hrel
    have BW := Lib.hid (HB0.out.trans (HB.out.mono HB0.out.size))
    obtain ⟨x0, x1, x2, x3⟩ := cells4 (HXa.out.later HB.out)
    obtain ⟨y0, y1, y2, y3⟩ := cells4 (HXb.out.later HB.out)
    simp only [Nat.zero_add] at x0 x1 x2 x3 y0 y1 y2 y3
    have h3 : k = 0 ∨ k = 1 ∨ k = 2 ∨ k = 3 := by omega
    rcases h3 with rfl | rfl | rfl | rfl
    · by_cases h : a0 = b0
      · have HA2 : Hid (∀ x, x < 1 → rk ⟨i, a0, a1, a2⟩ x = rk ⟨j, b0, b1, b2⟩ x) := by
          show ∀ _, _
          intro x hx
          by_cases e : x = 0
          · subst e; exact h
          · exact HA.out x (by omega)
        have t1 : (a0 != b0) = false := by simpa using h
        clear h
        go_wp2_with fail
        have p0 := cell_regrown x0
        have p1 := cell_regrown x1
        have p2 := cell_regrown x2
        have p3 := cell_regrown x3
        have q0 := cell_regrown y0
        have q1 := cell_regrown y1
        have q2 := cell_regrown y2
        have q3 := cell_regrown y3
        refine wp_region_quiet_below (by kernel_rfl) (by kernel_rfl) ?_
        repeat (go_big_quiet_step (fail))
        refine wpQuiet_nil ?_
        intro w5 hw
        have b := regrownZ hw
        have B5 := Lib.hid (below2Z HB.out b)
        replace x0 := cellLaterZ x0 b
        replace x1 := cellLaterZ x1 b
        replace x2 := cellLaterZ x2 b
        replace x3 := cellLaterZ x3 b
        replace y0 := cellLaterZ y0 b
        replace y1 := cellLaterZ y1 b
        replace y2 := cellLaterZ y2 b
        replace y3 := cellLaterZ y3 b
        clear hw b p0 p1 p2 p3 q0 q1 q2 q3
        go_wp2_with fail
        go_roundw
        case rel => exact ⟨1, by omega, rfl, HA2, B5⟩
        case measure => simp [intOf]
      · have HR := Lib.hid (slBet_at (a := ⟨i, a0, a1, a2⟩) (b := ⟨j, b0, b1, b2⟩) (k := 0) (by omega) HA.out h)
        have t1 : (a0 != b0) = true := by simpa using h
        clear h
        go_wp2_with fail
        have p0 := cell_regrown x0
        have p1 := cell_regrown x1
        have p2 := cell_regrown x2
        have p3 := cell_regrown x3
        have q0 := cell_regrown y0
        have q1 := cell_regrown y1
        have q2 := cell_regrown y2
        have q3 := cell_regrown y3
        refine wp_region_quiet_below (by kernel_rfl) (by kernel_rfl) ?_
        repeat (go_big_quiet_step (fail))
        refine wpQuiet_nil ?_
        intro w5 hw
        have b := regrownZ hw
        have B5 := Lib.hid (below2Z HB.out b)
        replace x0 := cellLaterZ x0 b
        replace x1 := cellLaterZ x1 b
        replace x2 := cellLaterZ x2 b
        replace x3 := cellLaterZ x3 b
        replace y0 := cellLaterZ y0 b
        replace y1 := cellLaterZ y1 b
        replace y2 := cellLaterZ y2 b
        replace y3 := cellLaterZ y3 b
        clear hw b p0 p1 p2 p3 q0 q1 q2 q3
        go_wp2_with fail
        have p0 := cell_regrown x0
        have p1 := cell_regrown x1
        have p2 := cell_regrown x2
        have p3 := cell_regrown x3
        have q0 := cell_regrown y0
        have q1 := cell_regrown y1
        have q2 := cell_regrown y2
        have q3 := cell_regrown y3
        refine wp_region_quiet_below (by kernel_rfl) (by kernel_rfl) ?_
        repeat (go_big_quiet_step (fail))
        refine wpQuiet_nil ?_
        intro w6 hw
        have b := regrownZ hw
        have B6 := Lib.hid (below2Z B5.out b)
        replace x0 := cellLaterZ x0 b
        replace x1 := cellLaterZ x1 b
        replace x2 := cellLaterZ x2 b
        replace x3 := cellLaterZ x3 b
        replace y0 := cellLaterZ y0 b
        replace y1 := cellLaterZ y1 b
        replace y2 := cellLaterZ y2 b
        replace y3 := cellLaterZ y3 b
        clear hw b p0 p1 p2 p3 q0 q1 q2 q3
        go_wp2_with fail
        go_ret
        exact ⟨by rw [HR.out]; rfl, HB0.out.trans (B6.out.mono HB0.out.size)⟩
    · by_cases h : a1 = b1
      · have HA2 : Hid (∀ x, x < 2 → rk ⟨i, a0, a1, a2⟩ x = rk ⟨j, b0, b1, b2⟩ x) := by
          show ∀ _, _
          intro x hx
          by_cases e : x = 1
          · subst e; exact h
          · exact HA.out x (by omega)
        have t1 : (a1 != b1) = false := by simpa using h
        clear h
        go_wp2_with fail
        have p0 := cell_regrown x0
        have p1 := cell_regrown x1
        have p2 := cell_regrown x2
        have p3 := cell_regrown x3
        have q0 := cell_regrown y0
        have q1 := cell_regrown y1
        have q2 := cell_regrown y2
        have q3 := cell_regrown y3
        refine wp_region_quiet_below (by kernel_rfl) (by kernel_rfl) ?_
        repeat (go_big_quiet_step (fail))
        refine wpQuiet_nil ?_
        intro w5 hw
        have b := regrownZ hw
        have B5 := Lib.hid (below2Z HB.out b)
        replace x0 := cellLaterZ x0 b
        replace x1 := cellLaterZ x1 b
        replace x2 := cellLaterZ x2 b
        replace x3 := cellLaterZ x3 b
        replace y0 := cellLaterZ y0 b
        replace y1 := cellLaterZ y1 b
        replace y2 := cellLaterZ y2 b
        replace y3 := cellLaterZ y3 b
        clear hw b p0 p1 p2 p3 q0 q1 q2 q3
        go_wp2_with fail
        go_roundw
        case rel => exact ⟨2, by omega, rfl, HA2, B5⟩
        case measure => simp [intOf]
      · have HR := Lib.hid (slBet_at (a := ⟨i, a0, a1, a2⟩) (b := ⟨j, b0, b1, b2⟩) (k := 1) (by omega) HA.out h)
        have t1 : (a1 != b1) = true := by simpa using h
        clear h
        go_wp2_with fail
        have p0 := cell_regrown x0
        have p1 := cell_regrown x1
        have p2 := cell_regrown x2
        have p3 := cell_regrown x3
        have q0 := cell_regrown y0
        have q1 := cell_regrown y1
        have q2 := cell_regrown y2
        have q3 := cell_regrown y3
        refine wp_region_quiet_below (by kernel_rfl) (by kernel_rfl) ?_
        repeat (go_big_quiet_step (fail))
        refine wpQuiet_nil ?_
        intro w5 hw
        have b := regrownZ hw
        have B5 := Lib.hid (below2Z HB.out b)
        replace x0 := cellLaterZ x0 b
        replace x1 := cellLaterZ x1 b
        replace x2 := cellLaterZ x2 b
        replace x3 := cellLaterZ x3 b
        replace y0 := cellLaterZ y0 b
        replace y1 := cellLaterZ y1 b
        replace y2 := cellLaterZ y2 b
        replace y3 := cellLaterZ y3 b
        clear hw b p0 p1 p2 p3 q0 q1 q2 q3
        go_wp2_with fail
        have p0 := cell_regrown x0
        have p1 := cell_regrown x1
        have p2 := cell_regrown x2
        have p3 := cell_regrown x3
        have q0 := cell_regrown y0
        have q1 := cell_regrown y1
        have q2 := cell_regrown y2
        have q3 := cell_regrown y3
        refine wp_region_quiet_below (by kernel_rfl) (by kernel_rfl) ?_
        repeat (go_big_quiet_step (fail))
        refine wpQuiet_nil ?_
        intro w6 hw
        have b := regrownZ hw
        have B6 := Lib.hid (below2Z B5.out b)
        replace x0 := cellLaterZ x0 b
        replace x1 := cellLaterZ x1 b
        replace x2 := cellLaterZ x2 b
        replace x3 := cellLaterZ x3 b
        replace y0 := cellLaterZ y0 b
        replace y1 := cellLaterZ y1 b
        replace y2 := cellLaterZ y2 b
        replace y3 := cellLaterZ y3 b
        clear hw b p0 p1 p2 p3 q0 q1 q2 q3
        go_wp2_with fail
        go_ret
        exact ⟨by rw [HR.out]; rfl, HB0.out.trans (B6.out.mono HB0.out.size)⟩
    · by_cases h : a2 = b2
      · have HA2 : Hid (∀ x, x < 3 → rk ⟨i, a0, a1, a2⟩ x = rk ⟨j, b0, b1, b2⟩ x) := by
          show ∀ _, _
          intro x hx
          by_cases e : x = 2
          · subst e; exact h
          · exact HA.out x (by omega)
        have t1 : (a2 != b2) = false := by simpa using h
        clear h
        go_wp2_with fail
        have p0 := cell_regrown x0
        have p1 := cell_regrown x1
        have p2 := cell_regrown x2
        have p3 := cell_regrown x3
        have q0 := cell_regrown y0
        have q1 := cell_regrown y1
        have q2 := cell_regrown y2
        have q3 := cell_regrown y3
        refine wp_region_quiet_below (by kernel_rfl) (by kernel_rfl) ?_
        repeat (go_big_quiet_step (fail))
        refine wpQuiet_nil ?_
        intro w5 hw
        have b := regrownZ hw
        have B5 := Lib.hid (below2Z HB.out b)
        replace x0 := cellLaterZ x0 b
        replace x1 := cellLaterZ x1 b
        replace x2 := cellLaterZ x2 b
        replace x3 := cellLaterZ x3 b
        replace y0 := cellLaterZ y0 b
        replace y1 := cellLaterZ y1 b
        replace y2 := cellLaterZ y2 b
        replace y3 := cellLaterZ y3 b
        clear hw b p0 p1 p2 p3 q0 q1 q2 q3
        go_wp2_with fail
        go_roundw
        case rel => exact ⟨3, by omega, rfl, HA2, B5⟩
        case measure => simp [intOf]
      · have HR := Lib.hid (slBet_at (a := ⟨i, a0, a1, a2⟩) (b := ⟨j, b0, b1, b2⟩) (k := 2) (by omega) HA.out h)
        have t1 : (a2 != b2) = true := by simpa using h
        clear h
        go_wp2_with fail
        have p0 := cell_regrown x0
        have p1 := cell_regrown x1
        have p2 := cell_regrown x2
        have p3 := cell_regrown x3
        have q0 := cell_regrown y0
        have q1 := cell_regrown y1
        have q2 := cell_regrown y2
        have q3 := cell_regrown y3
        refine wp_region_quiet_below (by kernel_rfl) (by kernel_rfl) ?_
        repeat (go_big_quiet_step (fail))
        refine wpQuiet_nil ?_
        intro w5 hw
        have b := regrownZ hw
        have B5 := Lib.hid (below2Z HB.out b)
        replace x0 := cellLaterZ x0 b
        replace x1 := cellLaterZ x1 b
        replace x2 := cellLaterZ x2 b
        replace x3 := cellLaterZ x3 b
        replace y0 := cellLaterZ y0 b
        replace y1 := cellLaterZ y1 b
        replace y2 := cellLaterZ y2 b
        replace y3 := cellLaterZ y3 b
        clear hw b p0 p1 p2 p3 q0 q1 q2 q3
        go_wp2_with fail
        have p0 := cell_regrown x0
        have p1 := cell_regrown x1
        have p2 := cell_regrown x2
        have p3 := cell_regrown x3
        have q0 := cell_regrown y0
        have q1 := cell_regrown y1
        have q2 := cell_regrown y2
        have q3 := cell_regrown y3
        refine wp_region_quiet_below (by kernel_rfl) (by kernel_rfl) ?_
        repeat (go_big_quiet_step (fail))
        refine wpQuiet_nil ?_
        intro w6 hw
        have b := regrownZ hw
        have B6 := Lib.hid (below2Z B5.out b)
        replace x0 := cellLaterZ x0 b
        replace x1 := cellLaterZ x1 b
        replace x2 := cellLaterZ x2 b
        replace x3 := cellLaterZ x3 b
        replace y0 := cellLaterZ y0 b
        replace y1 := cellLaterZ y1 b
        replace y2 := cellLaterZ y2 b
        replace y3 := cellLaterZ y3 b
        clear hw b p0 p1 p2 p3 q0 q1 q2 q3
        go_wp2_with fail
        go_ret
        exact ⟨by rw [HR.out]; rfl, HB0.out.trans (B6.out.mono HB0.out.size)⟩
    · have HR := Lib.hid (slBet_id HA.out)
      go_wp2_with fail
      go_ret
      exact ⟨by rw [HR.out]; rfl, BW.out⟩

theorem rbetter_eq (i a0 a1 a2 j b0 b1 b2 : Int) {r : Bool} (h : slBet ⟨i, a0, a1, a2⟩ ⟨j, b0, b1, b2⟩ = r) (w : World) :
    Calls Try.prog 23 #[.agg #[.int .i64 i, .int .i64 a0, .int .i64 a1, .int .i64 a2], .agg #[.int .i64 j, .int .i64 b0, .int .i64 b1, .int .i64 b2]] w fun e w' => e = .returned (.bool r) ∧ Below w.heap.size w w' := by
  rw [← h]
  exact rbetter_any i a0 a1 a2 j b0 b1 b2 w

set_option maxHeartbeats 1600000 in
set_option maxRecDepth 100000 in
theorem place10_any {w : World} {base K : Nat} {v : Value} {L : List Sl} (h : KAt w base K v L) (ho : Once L) (hl : L.length ≤ 1000) (id : Int) :
    Calls Try.prog 80 #[.pointer (some ⟨K, 0, none⟩), .int .i64 id] w fun e w' => e = .returned (.int .i64 (placeI L id)) ∧ w = w' := by
  obtain ⟨c0, f0⟩ := h.cell
  obtain ⟨a, cap, rfl⟩ := own_len h.own
  have HR := Lib.hid (h.own.rd rslOK)
  have HO := Lib.hid ho
  clear h ho
  go_enter Try.func80, Try.ntmps80
  go_wp2_with fail
  go_loop [5] (fun t => ∃ k : Nat, k ≤ L.length ∧ t = .int .i64 k ∧ Hid (∀ j, j < k → (at0 L j).id ≠ id)) (fun t => L.length - (intOf t).toNat)
  case atStart => exact ⟨0, by omega, rfl, by show ∀ _, _; intro j hj; omega⟩
  case round =>
    obtain ⟨k, hk, rfl, HA⟩ := hrel
    by_cases hlt : k < L.length
    · obtain ⟨b, off, rfl, hc⟩ := HR.out.row (Below.refl _ _) k hlt
      obtain ⟨⟨i, r0, r1, r2⟩, ht⟩ : ∃ s, at0 L k = s := ⟨_, rfl⟩
      rw [show L.getD k Sl.zero = at0 L k from rfl, ht] at hc
      obtain ⟨x0, x1, x2, x3⟩ := cells4 hc
      simp only at x0 x1 x2 x3
      by_cases he : i = id
      · have HP : Hid (placeI L id = (k : Int)) := by
          show _ = _
          have := spot_of HO.out hlt
          rw [ht] at this
          unfold placeI
          rw [← he, show spot L i = some k from this]
        have t1 : (i == id) = true := by simpa using he
        clear ht hc he
        go_wp2_with fail
        go_ret
        exact ⟨by rw [HP.out]; rfl, rfl⟩
      · have HA2 : Hid (∀ j, j < k + 1 → (at0 L j).id ≠ id) := by
          show ∀ _, _
          intro j hj
          by_cases e : j = k
          · subst e; rw [ht]; exact he
          · exact HA.out j (by omega)
        have t1 : (i == id) = false := by simpa using he
        clear ht hc he
        go_wp2_with fail
        go_round
        case rel => exact ⟨k + 1, by omega, by go_num, HA2⟩
        case measure => simp [intOf]; omega
    · obtain rfl : k = L.length := by omega
      have HP : Hid (placeI L id = -1) := by
        show _ = _
        unfold placeI
        rw [spot_none_iff.2 HA.out]
      go_wp2_with fail
      go_ret
      exact ⟨ret_int HP.out.symm, rfl⟩

set_option maxHeartbeats 1600000 in
set_option maxRecDepth 100000 in
theorem rget_yes {w : World} {base K : Nat} {v : Value} {L : List Sl} (h : KAt w base K v L) (ho : Once L) (hl : L.length ≤ 1000) (id : Int) {p : Nat} (hp : spot L id = some p) {i r0 r1 r2 : Int} (ht : at0 L p = ⟨i, r0, r1, r2⟩) :
    Calls Try.prog 61 #[.pointer (some ⟨K, 0, none⟩), .int .i64 id] w fun e w' => e = .returned (.tuple #[.agg #[.int .i64 r0, .int .i64 r1, .int .i64 r2], .bool true]) ∧ Below w.heap.size w w' := by
  have H1 := Lib.hid (h.later (bl_newZ w (.cells #[.int .i64 0, .int .i64 0, .int .i64 0] 30)))
  have hpl := place10_any H1.out ho hl id
  rw [show placeI L id = (p : Int) by unfold placeI; rw [hp]] at hpl
  have HF := Lib.hid hpl
  obtain ⟨c0, f0⟩ := H1.out.cell
  have hlt := (spot_some hp).1
  obtain ⟨g, cap, rfl, hcap, hlc⟩ := h.block (by omega)
  obtain ⟨s0, s1, s2, s3⟩ := cells4 (H1.out.own.row rslOK hlt)
  rw [show L.getD p Sl.zero = at0 L p from rfl, ht] at s0 s1 s2 s3
  simp only at s0 s1 s2 s3
  have t1 : (0 : Int) ≤ (p : Int) := by omega
  have t2 : (p : Int) < (L.length : Int) := by omega
  have t3 : decide ((p : Int) < 0) = false := by simp
  clear h ht hp hpl
  go_enter Try.func61, Try.ntmps61
  go_wp2_with fail
  refine HF.out.mono ?_
  rintro e w2 ⟨rfl, rfl⟩
  go_wp2_with fail
  refine bodyPost_ret (v := .tuple #[.agg #[.int .i64 r0, .int .i64 r1, .int .i64 r2], .bool true]) (by simp [results, Try.results61, go_sem]) rfl ⟨rfl, ?_⟩
  repeat (first | exact Below.refl _ _ | refine Below.setCell ?_ (by first | (simp; done) | (simp; omega)) _ | refine Below.alloc ?_ (by first | (simp; done) | (simp; omega)) _)

set_option maxHeartbeats 1600000 in
set_option maxRecDepth 100000 in
theorem rget_no {w : World} {base K : Nat} {v : Value} {L : List Sl} (h : KAt w base K v L) (ho : Once L) (hl : L.length ≤ 1000) (id : Int) (hp : spot L id = none) :
    Calls Try.prog 61 #[.pointer (some ⟨K, 0, none⟩), .int .i64 id] w fun e w' => e = .returned (.tuple #[.agg #[.int .i64 0, .int .i64 0, .int .i64 0], .bool false]) ∧ Below w.heap.size w w' := by
  have H1 := Lib.hid (h.later (bl_newZ w (.cells #[.int .i64 0, .int .i64 0, .int .i64 0] 30)))
  have hpl := place10_any H1.out ho hl id
  rw [show placeI L id = -1 by unfold placeI; rw [hp]] at hpl
  have HF := Lib.hid hpl
  clear h hp hpl
  go_enter Try.func61, Try.ntmps61
  go_wp2_with fail
  refine HF.out.mono ?_
  rintro e w2 ⟨rfl, rfl⟩
  go_wp2_with fail
  refine bodyPost_ret (v := .tuple #[.agg #[.int .i64 0, .int .i64 0, .int .i64 0], .bool false]) (by simp [results, Try.results61, go_sem]) rfl ⟨rfl, ?_⟩
  repeat (first | exact Below.refl _ _ | refine Below.setCell ?_ (by first | (simp; done) | (simp; omega)) _ | refine Below.alloc ?_ (by first | (simp; done) | (simp; omega)) _)

end Go.Proofs.Ytocljhbkjengpaa
