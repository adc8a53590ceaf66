/-
  THE CONTRACT OF digest.Set.
-/
import Derived.Test.YtocjeehoghfnmaaDigInsR
import Derived.Test.YtocjeehoghfnmaaDigCts
namespace Go.Proofs.Ytocjeehoghfnmaa
open Go.RowKit

theorem OwnR.drew {w : World} {base : Nat} {v : Value} {t : List Row} (h : OwnR w base v t) : OwnR w.drew base v t := World.ownsRow.drew h

theorem own_apart {w : World} {base B : Nat} {v : Value} {t : List Row} (h : OwnR w base v t) (hB : w.heap.size ≤ B) : ∀ g n c, v = .slice (some ⟨g, 0, none⟩) n c → B ≠ g := by
  intro g n c e
  subst e
  have := h.head.2.2.1
  omega

theorem insert_any {w : World} {base : Nat} {v : Value} {t : List Row} (ho : OwnR w base v t) (hbase : base ≤ w.heap.size) (hl : t.length ≤ 1000) {i : Nat} (hi : i ≤ t.length) {B : Nat} {r : Row} (hr : Lone w B r) (hne : ∀ g n c, v = .slice (some ⟨g, 0, none⟩) n c → B ≠ g) :
    Calls Try.prog 65 #[v, .int .i64 i, .slice (some ⟨B, 0, none⟩) 1 1] w fun e w' => ∃ u, e = .returned u ∧ OwnR w' base u (put1 t i r) ∧ Below base w w' := by
  by_cases h : i = t.length
  · subst h
    exact insert_end ho hbase hl hr
  · have hi' : i < t.length := by omega
    rcases ho.2 with ⟨rfl, h0⟩ | ⟨g, cap, cur, rfl, _, _, hnc, hcm, _⟩
    · omega
    · by_cases hc : cap = t.length
      · exact insert_grow ho hbase hl hi' hc hr
      · unfold maxLen at hcm
        exact insert_room ho hl hi' (by omega) (by omega) hr (hne _ _ _ rfl)

def chgAgg (c : Chg) : Value := .agg #[.string ⟨c.c.toArray⟩, .bool c.on, .int .i64 c.v.sh, .int .i64 c.v.pr, .int .i64 c.v.si, .string ⟨c.v.st.toArray⟩]

theorem six_cells (w : World) (a b c d e f : Value) (t : TypeId) : (w.alloc (.cells #[a, b, c, d, e, f] t)).cell? ⟨w.heap.size, 0, none⟩ = some a ∧ (w.alloc (.cells #[a, b, c, d, e, f] t)).cell? ⟨w.heap.size, 1, none⟩ = some b ∧ (w.alloc (.cells #[a, b, c, d, e, f] t)).cell? ⟨w.heap.size, 2, none⟩ = some c ∧ (w.alloc (.cells #[a, b, c, d, e, f] t)).cell? ⟨w.heap.size, 3, none⟩ = some d ∧ (w.alloc (.cells #[a, b, c, d, e, f] t)).cell? ⟨w.heap.size, 4, none⟩ = some e ∧ (w.alloc (.cells #[a, b, c, d, e, f] t)).cell? ⟨w.heap.size, 5, none⟩ = some f :=
  ⟨by rw [World.cell?_alloc_at _ _ _ _ rfl]; rfl, by rw [World.cell?_alloc_at _ _ _ _ rfl]; rfl, by rw [World.cell?_alloc_at _ _ _ _ rfl]; rfl, by rw [World.cell?_alloc_at _ _ _ _ rfl]; rfl, by rw [World.cell?_alloc_at _ _ _ _ rfl]; rfl, by rw [World.cell?_alloc_at _ _ _ _ rfl]; rfl⟩

/-- Five cells of a block below a bound, in a later world. -/
theorem keep5b {w w' : World} {B C : Nat} {a b c d e : Value} (hb : Below B w w') (hC : C < B)
    (h : w.cell? ⟨C, 0, none⟩ = some a ∧ w.cell? ⟨C, 2, none⟩ = some b ∧ w.cell? ⟨C, 3, none⟩ = some c ∧ w.cell? ⟨C, 4, none⟩ = some d ∧ w.cell? ⟨C, 5, none⟩ = some e) :
    w'.cell? ⟨C, 0, none⟩ = some a ∧ w'.cell? ⟨C, 2, none⟩ = some b ∧ w'.cell? ⟨C, 3, none⟩ = some c ∧ w'.cell? ⟨C, 4, none⟩ = some d ∧ w'.cell? ⟨C, 5, none⟩ = some e :=
  ⟨(hb.cell (p := ⟨C, 0, none⟩) hC).trans h.1, (hb.cell (p := ⟨C, 2, none⟩) hC).trans h.2.1, (hb.cell (p := ⟨C, 3, none⟩) hC).trans h.2.2.1, (hb.cell (p := ⟨C, 4, none⟩) hC).trans h.2.2.2.1, (hb.cell (p := ⟨C, 5, none⟩) hC).trans h.2.2.2.2⟩

theorem diSet_off {t : List Row} {c : Chg} (h : c.on = false) : diSet t c = diRest t c.c := by unfold diSet; rw [if_neg (by rw [h]; decide)]
theorem diSet_on {t : List Row} {c : Chg} (h : c.on = true) : diSet t c = put1 (diRest t c.c) (diPlace (diRest t c.c) c.c) ⟨c.c, c.v⟩ := by unfold diSet; rw [if_pos h]; rfl

theorem diRest_len (t : List Row) (x : List UInt8) : (diRest t x).length ≤ t.length := by unfold diRest; exact List.length_filter_le _ _

set_option maxHeartbeats 3200000 in
set_option maxRecDepth 1000000 in
theorem set_any {w : World} {v : Value} {t : List Row} (hv : Tab w v t) (hl : t.length ≤ 1000) (c : Chg) :
    Calls Try.prog 28 #[v, chgAgg c] w fun e w' => ∃ u, e = .returned u ∧ OwnR w' w.heap.size u (diSet t c) ∧ Below w.heap.size w w' := by
  obtain ⟨x, on, sh, pr, si, st⟩ := c
  have HW := Lib.hid (without_any (hv.later ((Below.refl _ _).alloc (Nat.le_refl _) (.cells #[.string ⟨x.toArray⟩, .bool on, .int .i64 sh, .int .i64 pr, .int .i64 si, .string ⟨st.toArray⟩] 37))) (by omega) x)
  have hrl := diRest_len t x
  obtain ⟨a, cap, rfl, _⟩ := hv.open'
  unfold chgAgg
  obtain ⟨k0, k1, k2, k3, k4, k5⟩ := six_cells w (.string ⟨x.toArray⟩) (.bool on) (.int .i64 sh) (.int .i64 pr) (.int .i64 si) (.string ⟨st.toArray⟩) 37
  have K0 := Lib.hid k0
  have K1 := Lib.hid k1
  have K2 := Lib.hid k2
  have K3 := Lib.hid k3
  have K4 := Lib.hid k4
  have K5 := Lib.hid k5
  clear hv k0 k1 k2 k3 k4 k5
  go_enter Try.func28, Try.ntmps28
  go_wp2_with fail
  refine HW.out.mono ?_
  rintro e w1 ⟨u, rfl, ho1, hb1, hz1⟩
  have k0 := cell_later K0.out hb1
  have k1 := cell_later K1.out hb1
  have k2 := cell_later K2.out hb1
  have k3 := cell_later K3.out hb1
  have k4 := cell_later K4.out hb1
  have k5 := cell_later K5.out hb1
  have hsz : w.heap.size + 1 < w1.heap.size := by simpa using hz1
  have B1 : Hid (Below w.heap.size w w1) := below2' ((Below.refl _ _).alloc (Nat.le_refl _) _) hb1
  have O1 : Hid (OwnR w1 (w.heap.size + 1) u (diRest t x)) := ownR_low ho1 (by simp)
  clear HW K0 K1 K2 K3 K4 K5 hb1 ho1 hz1
  cases on with
  | false =>
    have HE := Lib.hid (diSet_off (t := t) (c := ⟨x, false, ⟨sh, pr, si, st⟩⟩) rfl)
    go_wp2_with fail
    go_ret
    exact ⟨_, rfl, by rw [HE.out]; exact ownR_low O1.out (Nat.le_succ _), B1.out⟩
  | true =>
    have HE := Lib.hid (diSet_on (t := t) (c := ⟨x, true, ⟨sh, pr, si, st⟩⟩) rfl)
    have hpl : diPlace (diRest t x) x ≤ (diRest t x).length := plc_le _ _ _
    go_wp2_with fail
    go_region_held (fun W => W.cell? ⟨w.heap.size, 0, none⟩ = some (.string ⟨x.toArray⟩) ∧ W.cell? ⟨w.heap.size, 2, none⟩ = some (.int .i64 sh) ∧ W.cell? ⟨w.heap.size, 3, none⟩ = some (.int .i64 pr) ∧ W.cell? ⟨w.heap.size, 4, none⟩ = some (.int .i64 si) ∧ W.cell? ⟨w.heap.size, 5, none⟩ = some (.string ⟨st.toArray⟩))
      (first | (with_reducible exact keep5b (by assumption) (Nat.lt_succ_self _) (by assumption)) | go_keep)
      ((first
        | (go_at_call 66; go_loud (refine (place_any (v := u) (t := diRest t x) (by first | exact O1.out.drew.tab | exact (O1.out.drew.alloc _).tab) x).mono ?_; rintro e w2 ⟨rfl, hb2⟩; (have O2 : Hid (OwnR w2 (w.heap.size + 1) u (diRest t x)) := Lib.hid (by first | exact O1.out.drew.later hb2 | exact (O1.out.drew.alloc _).later hb2)); (have hs2 : w.heap.size + 1 < w2.heap.size := by (have := hb2.size; first | exact Nat.lt_of_lt_of_le hsz this | (simp at this; omega))); (try (refine mpr2 (p := Lone w2 w1.heap.size ⟨x, ⟨sh, pr, si, st⟩⟩) ?_ ?_; (· exact (lone_new w1.drew ⟨x, ⟨sh, pr, si, st⟩⟩).later hb2); intro hL2; (have L2 := Lib.hid hL2); clear hL2)); (have B2 : Hid (Below w.heap.size w w2) := Lib.hid (by first | exact below2' B1.out.drew hb2 | exact below2' (bl_alloc B1.out.drew _) hb2)); (have hS2 : Below (w.heap.size + 1) _ w2 := hb2.mono (by first | exact Nat.le_of_lt hsz | (simp; omega))); clear hb2))
        | (go_at_call 65; go_loud (refine (insert_any (base := w.heap.size + 1) (t := diRest t x) (i := diPlace (diRest t x) x) (r := ⟨x, ⟨sh, pr, si, st⟩⟩) (by first | exact O2.out | exact O2.out.alloc _) (by first | exact Nat.le_of_lt hs2 | (simp; omega)) (by omega) hpl (by first | exact L2.out | exact lone_new w2 ⟨x, ⟨sh, pr, si, st⟩⟩) (by first | exact own_apart O1.out (Nat.le_refl _) | exact own_apart (w := w2) O2.out (Nat.le_refl _) | exact own_apart (O2.out.alloc _) (by simp))).mono ?_; rintro e w3 ⟨u3, rfl, ho3, hb3⟩; (have O3 := Lib.hid ho3); (have B3 : Hid (Below w.heap.size w w3) := Lib.hid (by first | exact B2.out.trans (hb3.mono (Nat.le_succ _)) | exact (bl_alloc B2.out _).trans (hb3.mono (Nat.le_succ _)))); clear ho3))))
    all_goals
      go_wp2_with fail
      go_ret
      exact ⟨_, rfl, by rw [HE.out]; exact ownR_low O3.out (Nat.le_succ _), B3.out⟩

end Go.Proofs.Ytocjeehoghfnmaa
