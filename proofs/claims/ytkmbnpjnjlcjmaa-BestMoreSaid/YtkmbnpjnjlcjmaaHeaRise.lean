/-
  LAYER 10, THE CODE: a slot rises, sinks, settles.
-/
import Derived.Test.YtkmbnpjnjlcjmaaHeaBest
namespace Go.Proofs.Ytkmbnpjnjlcjmaa
open Go.RowKit

set_option maxHeartbeats 3200000 in
set_option maxRecDepth 100000 in
theorem rise_any {w : World} {base B : Nat} {v : Value} {M : Nat} {l : List Sl} (h : HOk w base B v M l) {a : Nat} (ha : a < l.length) (ho : Off l a) :
    Calls Try.prog 150 #[.pointer (some ⟨B, 0, none⟩), .int .i64 a] w fun e w' => ∃ (b : Nat) (m : List Sl), e = .returned (.int .i64 b) ∧ m.Perm l ∧ b < m.length ∧ Sunk m b ∧ HOk w' base B v M m ∧ Turn w w' base B v M := by
  obtain ⟨g, cap, rfl, hcap, hlc⟩ := h.hat.block (by omega)
  have hl := h.few
  have H := Lib.hid h
  have HO := Lib.hid ho
  clear h ho
  go_enter Try.func150, Try.ntmps150
  go_wp2_with fail
  go_loopw [1] (fun s wr => ∃ (b : Nat) (m : List Sl), s = .int .i64 b ∧ b < l.length ∧ Hid (m.Perm l) ∧ Hid (Off m b) ∧ Hid (HOk wr base B (.slice (some ⟨g, 0, none⟩) l.length cap) M m) ∧ Hid (Turn w wr base B (.slice (some ⟨g, 0, none⟩) l.length cap) M)) (fun s _ => (intOf s).toNat)
  case atStart => exact ⟨a, l, rfl, ha, List.Perm.refl _, HO, H, turn_below (Below.refl _ _) H.out.base⟩
  case round =>
    clear H HO
    obtain ⟨b, m, rfl, hbl, HP, HO, HH, HT⟩ := hrel
    have hml := HP.out.length_eq
    by_cases h0 : 0 < b
    · have hp := par_lt h0
      obtain ⟨c0, c1, f0, f1⟩ := HH.out.hat.cells
      obtain ⟨⟨x, x0, x1, x2⟩, hx⟩ : ∃ s, at0 m b = s := ⟨_, rfl⟩
      obtain ⟨⟨y, y0, y1, y2⟩, hy⟩ : ∃ s, at0 m (par b) = s := ⟨_, rfl⟩
      obtain ⟨s0, s1, s2, s3⟩ := cells4 (HH.out.hat.own.row slOK (k := b) (by omega))
      obtain ⟨r0, r1, r2, r3⟩ := cells4 (HH.out.hat.own.row slOK (k := par b) (by omega))
      rw [show m.getD b Sl.zero = at0 m b from rfl, hx] at s0 s1 s2 s3
      rw [show m.getD (par b) Sl.zero = at0 m (par b) from rfl, hy] at r0 r1 r2 r3
      simp only at s0 s1 s2 s3 r0 r1 r2 r3
      have q0 := cell_regrown c0
      have p0 := cell_regrown s0
      have p1 := cell_regrown s1
      have p2 := cell_regrown s2
      have p3 := cell_regrown s3
      have o0 := cell_regrown r0
      have o1 := cell_regrown r1
      have o2 := cell_regrown r2
      have o3 := cell_regrown r3
      have t1 : decide (0 < (b : Int)) = true := by simp; omega
      have hb0 : (0 : Int) ≤ (b : Int) := by omega
      have hb1 : (b : Int) < (l.length : Int) := by omega
      have hq0 : (0 : Int) ≤ (par b : Int) := by omega
      have hq1 : (par b : Int) < (l.length : Int) := by omega
      have HPa := Lib.hid (parent_any b h0 (by omega))
      have hBe := better_any x x0 x1 x2 y y0 y1 y2
      cases hr : slBet ⟨x, x0, x1, x2⟩ ⟨y, y0, y1, y2⟩ with
      | true =>
        rw [hr] at hBe
        have HBe := Lib.hid hBe
        have HO2 := Lib.hid (off_rise HO.out h0 (by omega) (by rw [hx, hy]; exact hr))
        have HP2 := Lib.hid ((swp_perm (l := m) (i := b) (j := par b) (by omega) (by omega) (by omega)).trans HP.out)
        clear hr hBe hx hy s0 s1 s2 s3 r0 r1 r2 r3
        go_wp2_with fail
        refine wp_region_quiet_below (by kernel_rfl) (by kernel_rfl) ?_
        repeat (go_big_quiet_step (first | with_reducible exact rgS HPa.out _ _ _ | with_reducible exact rgB HBe.out _ _ _))
        refine wpQuiet_nil ?_
        intro w5 hw5
        have b5 := regrownZ hw5
        have H5 := Lib.hid (HH.out.later b5)
        have T5 := Lib.hid (HT.out.trans (turn_below b5 HH.out.base))
        clear hw5 b5 q0 p0 p1 p2 p3 o0 o1 o2 o3 c0 c1 f0 f1
        go_wp2_with fail
        refine (HPa.out _).mono ?_
        rintro e w6 ⟨rfl, rfl⟩
        go_wp2_with fail
        refine (swap_any H5.out (i := b) (j := par b) (by omega) (by omega) (by omega)).mono ?_
        rintro e w6 ⟨rfl, h6, t6⟩
        have H6 := Lib.hid h6
        have T6 := Lib.hid (T5.out.trans t6)
        clear h6 t6
        go_wp2_with fail
        refine (HPa.out _).mono ?_
        rintro e w7 ⟨rfl, rfl⟩
        go_wp2_with fail
        go_roundw
        case rel => exact ⟨par b, swp m b (par b), rfl, by omega, HP2, HO2, H6, T6⟩
        case measure => simp [intOf]; omega
      | false =>
        rw [hr] at hBe
        have HBe := Lib.hid hBe
        have HS := Lib.hid (off_sunk HO.out (fun _ => by rw [hx, hy]; exact hr))
        clear hr hBe hx hy s0 s1 s2 s3 r0 r1 r2 r3
        go_wp2_with fail
        refine wp_region_quiet_below (by kernel_rfl) (by kernel_rfl) ?_
        repeat (go_big_quiet_step (first | with_reducible exact rgS HPa.out _ _ _ | with_reducible exact rgB HBe.out _ _ _))
        refine wpQuiet_nil ?_
        intro w5 hw5
        have b5 := regrownZ hw5
        have H5 := Lib.hid (HH.out.later b5)
        have T5 := Lib.hid (HT.out.trans (turn_below b5 HH.out.base))
        clear hw5 b5 q0 p0 p1 p2 p3 o0 o1 o2 o3 c0 c1 f0 f1
        go_wp2_with fail
        go_ret
        exact ⟨b, m, rfl, HP.out, by omega, HS.out, H5.out, T5.out⟩
    · obtain rfl : b = 0 := by omega
      have HS := Lib.hid (off_sunk HO.out (fun h => absurd h (by omega)))
      have t1 : decide ((0 : Int) < ((0 : Nat) : Int)) = false := by simp
      go_wp2_with fail
      refine wp_region_quiet_below (by kernel_rfl) (by kernel_rfl) ?_
      repeat (go_big_quiet_step (fail))
      refine wpQuiet_nil ?_
      intro w5 hw5
      have b5 := regrownZ hw5
      have H5 := Lib.hid (HH.out.later b5)
      have T5 := Lib.hid (HT.out.trans (turn_below b5 HH.out.base))
      clear hw5 b5
      go_wp2_with fail
      go_ret
      exact ⟨0, m, rfl, HP.out, by omega, HS.out, H5.out, T5.out⟩

set_option maxHeartbeats 3200000 in
set_option maxRecDepth 100000 in
theorem sink_any {w : World} {base B : Nat} {v : Value} {M : Nat} {l : List Sl} (h : HOk w base B v M l) {a : Nat} (ha : a < l.length) (ho : Sunk l a) :
    Calls Try.prog 149 #[.pointer (some ⟨B, 0, none⟩), .int .i64 a] w fun e w' => ∃ m : List Sl, e = .returned (.tuple #[]) ∧ m.Perm l ∧ HeapOK m ∧ HOk w' base B v M m ∧ Turn w w' base B v M := by
  have hl := h.few
  have H := Lib.hid h
  have HO := Lib.hid ho
  clear h ho
  go_enter Try.func149, Try.ntmps149
  go_wp2_with fail
  go_loopw [1] (fun s wr => ∃ (b : Nat) (m : List Sl), s = .int .i64 b ∧ b < l.length ∧ Hid (m.Perm l) ∧ Hid (Sunk m b) ∧ Hid (HOk wr base B v M m) ∧ Hid (Turn w wr base B v M)) (fun s _ => l.length - (intOf s).toNat)
  case atStart => exact ⟨a, l, rfl, ha, List.Perm.refl _, HO, H, turn_below (Below.refl _ _) H.out.base⟩
  case round =>
    clear H HO
    obtain ⟨b, m, rfl, hbl, HP, HO, HH, HT⟩ := hrel
    have hml := HP.out.length_eq
    go_wp2_with fail
    refine (best_any HH.out (a := b) (by omega)).mono ?_
    rintro e w5 ⟨c, rfl, hc, b5⟩
    obtain ⟨hc1, hc2, hc3⟩ := hc
    have H5 := Lib.hid (HH.out.later b5)
    have T5 := Lib.hid (HT.out.trans (turn_below b5 HH.out.base))
    clear b5
    rcases hc2 with rfl | ⟨hc0, hcp, hcb⟩
    · have HE := Lib.hid (sunk_end HO.out hc3)
      have t1 : ((c : Int) == (c : Int)) = true := by simp
      clear hc3
      go_wp2_with fail
      exact bodyPost_ret (v := .tuple #[]) (by simp [results, Try.results149, go_sem]) rfl ⟨m, rfl, HP.out, HE.out, H5.out, T5.out⟩
    · have hlt : b < c := by have := par_lt hc0; omega
      have HS2 := Lib.hid (sunk_next HO.out hc0 hc1 hcp hcb hc3)
      have HP2 := Lib.hid ((swp_perm (l := m) (i := b) (j := c) (by omega) (by omega) (by omega)).trans HP.out)
      have t1 : ((c : Int) == (b : Int)) = false := by simp; omega
      clear hc3 hcb
      go_wp2_with fail
      refine (swap_any H5.out (i := b) (j := c) (by omega) (by omega) (by omega)).mono ?_
      rintro e w6 ⟨rfl, h6, t6⟩
      have H6 := Lib.hid h6
      have T6 := Lib.hid (T5.out.trans t6)
      clear h6 t6
      go_wp2_with fail
      go_roundw
      case rel => exact ⟨c, swp m b c, rfl, by omega, HP2, HS2, H6, T6⟩
      case measure => simp [intOf]; omega

set_option maxHeartbeats 3200000 in
set_option maxRecDepth 100000 in
theorem settle_any {w : World} {base B : Nat} {v : Value} {M : Nat} {l : List Sl} (h : HOk w base B v M l) {a : Nat} (ha : a < l.length) (ho : Off l a) :
    Calls Try.prog 142 #[.pointer (some ⟨B, 0, none⟩), .int .i64 a] w fun e w' => ∃ m : List Sl, e = .returned (.tuple #[]) ∧ m.Perm l ∧ HeapOK m ∧ HOk w' base B v M m ∧ Turn w w' base B v M := by
  have H := Lib.hid h
  have HO := Lib.hid ho
  clear h ho
  go_enter Try.func142, Try.ntmps142
  go_wp2_with fail
  refine (rise_any H.out ha HO.out).mono ?_
  rintro e w1 ⟨b, m, rfl, hp, hb, hs, h1, t1⟩
  have H1 := Lib.hid h1
  have T1 := Lib.hid t1
  have HP := Lib.hid hp
  have HS := Lib.hid hs
  clear h1 t1 hp hs
  go_wp2_with fail
  refine (sink_any H1.out hb HS.out).mono ?_
  rintro e w2 ⟨m2, rfl, hp, hs, h2, t2⟩
  have H2 := Lib.hid h2
  have T2 := Lib.hid (T1.out.trans t2)
  have HP2 := Lib.hid (hp.trans HP.out)
  have HS2 := Lib.hid hs
  clear h2 t2 hp hs
  go_wp2_with fail
  go_end0
  exact ⟨m2, rfl, HP2.out, HS2.out, H2.out, T2.out⟩

end Go.Proofs.Ytkmbnpjnjlcjmaa
