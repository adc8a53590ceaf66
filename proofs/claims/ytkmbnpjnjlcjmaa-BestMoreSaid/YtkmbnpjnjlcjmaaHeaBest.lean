/-
  LAYER 10, THE CODE: the best one among one and its children.
-/
import Derived.Test.YtkmbnpjnjlcjmaaHeaSwap
namespace Go.Proofs.Ytkmbnpjnjlcjmaa
open Go.RowKit

/-- The best one of one and its children below c. -/
def BestTo (l : List Sl) (a c b : Nat) : Prop :=
  b < l.length ∧ (b = a ∨ (0 < b ∧ par b = a ∧ slBet (at0 l b) (at0 l a) = true)) ∧ ∀ x, 0 < x → x < c → x < l.length → par x = a → slBet (at0 l x) (at0 l b) = false

theorem bestTo_start {l : List Sl} {a : Nat} (ha : a < l.length) : BestTo l a (2 * a + 1) a :=
  ⟨ha, .inl rfl, fun x h0 hx _ hp => by unfold par at hp; omega⟩

theorem bestTo_yes {l : List Sl} {a c b : Nat} (h : BestTo l a c b) (hc : c < l.length) (h1 : 2 * a + 1 ≤ c) (h2 : c ≤ 2 * a + 2) (hb : slBet (at0 l c) (at0 l b) = true) : BestTo l a (c + 1) c := by
  obtain ⟨g1, g2, g3⟩ := h
  refine ⟨hc, .inr ⟨by omega, by unfold par; omega, ?_⟩, fun x h0 hx hl hp => ?_⟩
  · rcases g2 with rfl | ⟨_, _, g⟩
    · exact hb
    · exact slBet_trans hb g
  · by_cases e : x = c
    · subst e; exact slBet_irrefl _
    · exact slBet_lt_le hb (g3 x h0 (by omega) hl hp)

theorem bestTo_no {l : List Sl} {a c b : Nat} (h : BestTo l a c b) (hb : slBet (at0 l c) (at0 l b) = false) : BestTo l a (c + 1) b := by
  obtain ⟨g1, g2, g3⟩ := h
  refine ⟨g1, g2, fun x h0 hx hl hp => ?_⟩
  by_cases e : x = c
  · subst e; exact hb
  · exact g3 x h0 (by omega) hl hp

/-- .. of all of them. -/
def BestOf (l : List Sl) (a b : Nat) : Prop := b < l.length ∧ (b = a ∨ (0 < b ∧ par b = a ∧ slBet (at0 l b) (at0 l a) = true)) ∧ ∀ x, 0 < x → x < l.length → par x = a → slBet (at0 l x) (at0 l b) = false

theorem bestTo_end {l : List Sl} {a c b : Nat} (h : BestTo l a c b) (hc : l.length ≤ c ∨ 2 * a + 2 < c) : BestOf l a b := by
  obtain ⟨g1, g2, g3⟩ := h
  refine ⟨g1, g2, fun x h0 hl hp => g3 x h0 ?_ hl hp⟩
  unfold par at hp
  omega

set_option maxHeartbeats 3200000 in
set_option maxRecDepth 100000 in
theorem best_any {w : World} {base B : Nat} {v : Value} {M : Nat} {l : List Sl} (h : HOk w base B v M l) {a : Nat} (ha : a < l.length) :
    Calls Try.prog 152 #[.pointer (some ⟨B, 0, none⟩), .int .i64 a] w fun e w' => ∃ b : Nat, e = .returned (.int .i64 b) ∧ BestOf l a b ∧ Below w.heap.size w w' := by
  obtain ⟨g, cap, rfl, hcap, hlc⟩ := h.hat.block (by omega)
  have hl := h.few
  have H := Lib.hid h
  clear h
  go_enter Try.func152, Try.ntmps152
  go_wp2_with fail
  go_loopw [5, 6] (fun s t wr => ∃ b c : Nat, s = .int .i64 b ∧ t = .int .i64 c ∧ 2 * a + 1 ≤ c ∧ c ≤ 2 * a + 3 ∧ b < l.length ∧ Hid (BestTo l a c b) ∧ Hid (Below w.heap.size w wr)) (fun _ t _ => 2 * a + 3 - (intOf t).toNat)
  case atStart => exact ⟨a, 2 * a + 1, rfl, by go_num, by omega, by omega, ha, bestTo_start ha, Below.refl _ _⟩
  case round =>
    obtain ⟨b, c, rfl, rfl, hc1, hc2, hbl, HB, HN⟩ := hrel
    have HH := Lib.hid (H.out.later HN.out)
    obtain ⟨c0, c1, f0, f1⟩ := HH.out.hat.cells
    by_cases hin : c < l.length
    · by_cases h2 : c ≤ 2 * a + 2
      · have t1 : decide ((c : Int) ≤ 2 * (a : Int) + 2) = true := by simp; omega
        have t2 : decide ((c : Int) < (l.length : Int)) = true := by simp; omega
        obtain ⟨⟨x, x0, x1, x2⟩, hx⟩ : ∃ s, at0 l c = s := ⟨_, rfl⟩
        obtain ⟨⟨y, y0, y1, y2⟩, hy⟩ : ∃ s, at0 l b = s := ⟨_, rfl⟩
        obtain ⟨s0, s1, s2, s3⟩ := cells4 (HH.out.hat.own.row slOK hin)
        obtain ⟨r0, r1, r2, r3⟩ := cells4 (HH.out.hat.own.row slOK hbl)
        rw [show l.getD c Sl.zero = at0 l c from rfl, hx] at s0 s1 s2 s3
        rw [show l.getD b Sl.zero = at0 l b from rfl, hy] at r0 r1 r2 r3
        simp only at s0 s1 s2 s3 r0 r1 r2 r3
        have q0 := cell_regrown c0
        have p0 := cell_regrown s0
        have p1 := cell_regrown s1
        have p2 := cell_regrown s2
        have p3 := cell_regrown s3
        have o0 := cell_regrown r0
        have o1 := cell_regrown r1
        have o2 := cell_regrown r2
        have o3 := cell_regrown r3
        have hb0 : (0 : Int) ≤ (b : Int) := by omega
        have hb1 : (b : Int) < (l.length : Int) := by omega
        have hcc0 : (0 : Int) ≤ (c : Int) := by omega
        have hcc1 : (c : Int) < (l.length : Int) := by omega
        have hBe := better_any x x0 x1 x2 y y0 y1 y2
        cases hr : slBet ⟨x, x0, x1, x2⟩ ⟨y, y0, y1, y2⟩ with
        | true =>
          rw [hr] at hBe
          have HBe := Lib.hid hBe
          have HB2 := Lib.hid (bestTo_yes HB.out hin hc1 h2 (by rw [hx, hy]; exact hr))
          clear hr hBe hx hy s0 s1 s2 s3 r0 r1 r2 r3
          go_wp2_with fail
          refine wp_region_quiet_below (by kernel_rfl) (by kernel_rfl) ?_
          repeat (go_big_quiet_step (with_reducible exact rgB HBe.out _ _ _))
          refine wpQuiet_nil ?_
          intro w5 hw5
          have B5 := Lib.hid (below2Z HN.out (regrownZ hw5))
          clear hw5 q0 p0 p1 p2 p3 o0 o1 o2 o3 c0 c1 f0 f1
          go_wp2_with fail
          go_roundw
          case rel => exact ⟨c, c + 1, rfl, by go_num, by omega, by omega, hin, HB2, B5⟩
          case measure => simp [intOf]; omega
        | false =>
          rw [hr] at hBe
          have HBe := Lib.hid hBe
          have HB2 := Lib.hid (bestTo_no HB.out (by rw [hx, hy]; exact hr))
          clear hr hBe hx hy s0 s1 s2 s3 r0 r1 r2 r3
          go_wp2_with fail
          refine wp_region_quiet_below (by kernel_rfl) (by kernel_rfl) ?_
          repeat (go_big_quiet_step (with_reducible exact rgB HBe.out _ _ _))
          refine wpQuiet_nil ?_
          intro w5 hw5
          have B5 := Lib.hid (below2Z HN.out (regrownZ hw5))
          clear hw5 q0 p0 p1 p2 p3 o0 o1 o2 o3 c0 c1 f0 f1
          go_wp2_with fail
          go_roundw
          case rel => exact ⟨b, c + 1, rfl, by go_num, by omega, by omega, hbl, HB2, B5⟩
          case measure => simp [intOf]; omega
      · have t1 : decide ((c : Int) ≤ 2 * (a : Int) + 2) = false := by simp; omega
        have HE := Lib.hid (bestTo_end HB.out (.inr (by omega)))
        go_wp2_with fail
        go_ret
        exact ⟨b, rfl, HE.out, HN.out⟩
    · have HE := Lib.hid (bestTo_end HB.out (.inl (by omega)))
      have t2 : decide ((c : Int) < (l.length : Int)) = false := by simp; omega
      by_cases h2 : c ≤ 2 * a + 2
      · have t1 : decide ((c : Int) ≤ 2 * (a : Int) + 2) = true := by simp; omega
        go_wp2_with fail
        go_ret
        exact ⟨b, rfl, HE.out, HN.out⟩
      · have t1 : decide ((c : Int) ≤ 2 * (a : Int) + 2) = false := by simp; omega
        go_wp2_with fail
        go_ret
        exact ⟨b, rfl, HE.out, HN.out⟩

end Go.Proofs.Ytkmbnpjnjlcjmaa
