/-
  LAYER 16, THE DOCUMENT's: what may be, levels, what is taken, waits.
-/
import Derived.Test.YtnmdjkecjlpkkaaPacAns
namespace Go.Proofs.Ytnmdjkecjlpkkaa
open Go.RowKit

set_option maxHeartbeats 1600000 in
set_option maxRecDepth 100000 in
theorem rptime_any (n : Int) (w : World) :
    Calls Try.prog 47 #[.int .i64 n] w fun e w' => e = .returned (.bool (pcTime n)) ∧ w = w' := by
  unfold pcTime
  cases h1 : decide (0 ≤ n)
  · go_enter Try.func47, Try.ntmps47
    go_wp2_with fail
    go_ret
    exact ⟨rfl, rfl⟩
  · go_enter Try.func47, Try.ntmps47
    go_wp2_with fail
    go_ret
    exact ⟨rfl, rfl⟩

set_option maxHeartbeats 1600000 in
set_option maxRecDepth 100000 in
theorem rpmay_any (a b d e : Int) {r : Bool} (h : Hid (pcMay ⟨a, b, d, e⟩ = r)) (w : World) :
    Calls Try.prog 40 #[.agg #[.int .i64 a, .int .i64 b, .int .i64 d, .int .i64 e]] w fun e w' => e = .returned (.bool r) ∧ Below w.heap.size w w' := by
  have B0 := Lib.hid (bl_newZ w (.cells #[.int .i64 a, .int .i64 b, .int .i64 d, .int .i64 e] 52))
  have HR := h.out
  unfold pcMay at HR
  simp only at HR
  clear h
  cases t0 : decide (1 ≤ a) with
  | false =>
    rw [t0] at HR
    obtain rfl : false = r := HR
    go_enter Try.func40, Try.ntmps40
    go_wp2_with fail
    go_ret
    exact ⟨rfl, B0.out⟩
  | true =>
    cases t1 : decide (a ≤ 16) with
    | false =>
      rw [t0, t1] at HR
      obtain rfl : false = r := HR
      go_enter Try.func40, Try.ntmps40
      go_wp2_with fail
      go_ret
      exact ⟨rfl, B0.out⟩
    | true =>
      cases t2 : decide (1 ≤ b) with
      | false =>
        rw [t0, t1, t2] at HR
        obtain rfl : false = r := HR
        go_enter Try.func40, Try.ntmps40
        go_wp2_with fail
        go_ret
        exact ⟨rfl, B0.out⟩
      | true =>
        cases t3 : decide (b ≤ 64) with
        | false =>
          rw [t0, t1, t2, t3] at HR
          obtain rfl : false = r := HR
          go_enter Try.func40, Try.ntmps40
          go_wp2_with fail
          go_ret
          exact ⟨rfl, B0.out⟩
        | true =>
          cases t4 : decide (1 ≤ d) with
          | false =>
            rw [t0, t1, t2, t3, t4] at HR
            obtain rfl : false = r := HR
            go_enter Try.func40, Try.ntmps40
            go_wp2_with fail
            go_ret
            exact ⟨rfl, B0.out⟩
          | true =>
            cases t5 : decide (d ≤ 16) with
            | false =>
              rw [t0, t1, t2, t3, t4, t5] at HR
              obtain rfl : false = r := HR
              go_enter Try.func40, Try.ntmps40
              go_wp2_with fail
              go_ret
              exact ⟨rfl, B0.out⟩
            | true =>
              cases t6 : decide (1 ≤ e) with
              | false =>
                rw [t0, t1, t2, t3, t4, t5, t6] at HR
                obtain rfl : false = r := HR
                go_enter Try.func40, Try.ntmps40
                go_wp2_with fail
                go_ret
                exact ⟨rfl, B0.out⟩
              | true =>
                cases t7 : decide (e ≤ 1000) with
                | false =>
                  rw [t0, t1, t2, t3, t4, t5, t6, t7] at HR
                  obtain rfl : false = r := HR
                  go_enter Try.func40, Try.ntmps40
                  go_wp2_with fail
                  go_ret
                  exact ⟨rfl, B0.out⟩
                | true =>
                  rw [t0, t1, t2, t3, t4, t5, t6, t7] at HR
                  obtain rfl : true = r := HR
                  go_enter Try.func40, Try.ntmps40
                  go_wp2_with fail
                  go_ret
                  exact ⟨rfl, B0.out⟩

set_option maxHeartbeats 1600000 in
set_option maxRecDepth 100000 in
theorem rpnew_any (a b d e now : Int) {x y : Int} {n : Nat} (h : Hid (pcNew ⟨a, b, d, e⟩ now = (⟨x, y⟩, n))) (w : World) :
    Calls Try.prog 36 #[.agg #[.int .i64 a, .int .i64 b, .int .i64 d, .int .i64 e], .int .i64 now] w fun e w' => e = .returned (.tuple #[.agg #[.int .i64 x, .int .i64 y], .int .i64 (n : Int)]) ∧ Below w.heap.size w w' := by
  have HB := Lib.hid (below2Z (bl_newZ w (.cells #[.int .i64 a, .int .i64 b, .int .i64 d, .int .i64 e] 52)) (bl_newZ _ (.cells #[.int .i64 0, .int .i64 0] 54)))
  have K0 := Lib.hid ((cellsAt_made (w := w) (cs := #[.int .i64 a, .int .i64 b, .int .i64 d, .int .i64 e]) (vs := [.int .i64 a, .int .i64 b, .int .i64 d, .int .i64 e]) rfl 52 rfl).later (bl_newZ _ (.cells #[.int .i64 0, .int .i64 0] 54)))
  have K2 := Lib.hid (boxR_at (w.alloc (.cells #[.int .i64 a, .int .i64 b, .int .i64 d, .int .i64 e] 52)) (B := w.heap.size + 1) (by simp))
  have FZ := Lib.hid (boxR_free (w.alloc (.cells #[.int .i64 a, .int .i64 b, .int .i64 d, .int .i64 e] 52)) (B := w.heap.size + 1) (by simp))
  obtain ⟨q1, h1⟩ : ∃ q, pcMay ⟨a, b, d, e⟩ = q := ⟨_, rfl⟩
  have H1 := Lib.hid (rpmay_any a b d e (Lib.hid h1))
  have H2 := Lib.hid (rptime_any now)
  obtain ⟨q2, h2⟩ : ∃ q, pcTime now = q := ⟨_, rfl⟩
  rw [h2] at H2
  have HR := h.out
  unfold pcNew at HR
  rw [h1, h2] at HR
  clear h h1 h2
  cases q1 with
  | false =>
    simp at HR
    obtain ⟨⟨rfl, rfl⟩, rfl⟩ := HR
    go_enter Try.func36, Try.ntmps36
    go_wp2_with fail
    refine (H1.out _).mono ?_
    rintro e w1 ⟨rfl, b1⟩
    have fz := free_later (World.block_lt_of_cell? _ _ (K2.out 0 _ rfl)) FZ.out b1
    replace K0 := Lib.hid (K0.out.later b1)
    replace K2 := Lib.hid (K2.out.later b1)
    replace FZ := Lib.hid fz
    replace HB := Lib.hid (below2Z HB.out b1)
    clear fz b1
    obtain ⟨c0, c1, c2, c3⟩ := cells4P K0.out
    obtain ⟨z0, z1⟩ := cells2P K2.out
    have f0 := FZ.out 0
    have f1 := FZ.out 1
    go_wp2_with fail
    obtain ⟨r0, r1⟩ := set2_get w1 (w.heap.size + 1) (.int .i64 0) (.int .i64 0) z0 z1
    have hB := set2_below HB.out (w.heap.size + 1) (by omega) (.int .i64 0) (.int .i64 0)
    show bodyPost _ _ _ _ _ (setMany w1 [(⟨w.heap.size + 1, 0, none⟩, .int .i64 0), (⟨w.heap.size + 1, 1, none⟩, .int .i64 0)])
    exact bodyPost_ret (v := .tuple #[.agg #[.int .i64 0, .int .i64 0], .int .i64 1]) (by simp [results, Try.results36, go_sem, r0, r1]) rfl ⟨rfl, hB⟩
  | true =>
    cases q2 with
    | false =>
      simp at HR
      obtain ⟨⟨rfl, rfl⟩, rfl⟩ := HR
      go_enter Try.func36, Try.ntmps36
      go_wp2_with fail
      refine (H1.out _).mono ?_
      rintro e w1 ⟨rfl, b1⟩
      have fz := free_later (World.block_lt_of_cell? _ _ (K2.out 0 _ rfl)) FZ.out b1
      replace K0 := Lib.hid (K0.out.later b1)
      replace K2 := Lib.hid (K2.out.later b1)
      replace FZ := Lib.hid fz
      replace HB := Lib.hid (below2Z HB.out b1)
      clear fz b1
      obtain ⟨c0, c1, c2, c3⟩ := cells4P K0.out
      obtain ⟨z0, z1⟩ := cells2P K2.out
      have f0 := FZ.out 0
      have f1 := FZ.out 1
      go_wp2_with fail
      refine (H2.out _).mono ?_
      rintro e w2 ⟨rfl, rfl⟩
      go_wp2_with fail
      obtain ⟨r0, r1⟩ := set2_get w1 (w.heap.size + 1) (.int .i64 0) (.int .i64 0) z0 z1
      have hB := set2_below HB.out (w.heap.size + 1) (by omega) (.int .i64 0) (.int .i64 0)
      show bodyPost _ _ _ _ _ (setMany w1 [(⟨w.heap.size + 1, 0, none⟩, .int .i64 0), (⟨w.heap.size + 1, 1, none⟩, .int .i64 0)])
      exact bodyPost_ret (v := .tuple #[.agg #[.int .i64 0, .int .i64 0], .int .i64 1]) (by simp [results, Try.results36, go_sem, r0, r1]) rfl ⟨rfl, hB⟩
    | true =>
      simp at HR
      obtain ⟨⟨rfl, rfl⟩, rfl⟩ := HR
      go_enter Try.func36, Try.ntmps36
      go_wp2_with fail
      refine (H1.out _).mono ?_
      rintro e w1 ⟨rfl, b1⟩
      have fz := free_later (World.block_lt_of_cell? _ _ (K2.out 0 _ rfl)) FZ.out b1
      replace K0 := Lib.hid (K0.out.later b1)
      replace K2 := Lib.hid (K2.out.later b1)
      replace FZ := Lib.hid fz
      replace HB := Lib.hid (below2Z HB.out b1)
      clear fz b1
      obtain ⟨c0, c1, c2, c3⟩ := cells4P K0.out
      obtain ⟨z0, z1⟩ := cells2P K2.out
      have f0 := FZ.out 0
      have f1 := FZ.out 1
      go_wp2_with fail
      refine (H2.out _).mono ?_
      rintro e w2 ⟨rfl, rfl⟩
      go_wp2_with fail
      obtain ⟨r0, r1⟩ := set2_get w1 (w.heap.size + 1) (.int .i64 b) (.int .i64 now) z0 z1
      have hB := set2_below HB.out (w.heap.size + 1) (by omega) (.int .i64 b) (.int .i64 now)
      show bodyPost _ _ _ _ _ (setMany w1 [(⟨w.heap.size + 1, 0, none⟩, .int .i64 b), (⟨w.heap.size + 1, 1, none⟩, .int .i64 now)])
      exact bodyPost_ret (v := .tuple #[.agg #[.int .i64 b, .int .i64 now], .int .i64 0]) (by simp [results, Try.results36, go_sem, r0, r1]) rfl ⟨rfl, hB⟩

theorem pcOne_split (a b d e tok at' : Int) : pcOne ⟨a, b, d, e⟩ ⟨tok, at'⟩ = (pcMay ⟨a, b, d, e⟩ && (decide (0 ≤ tok) && (decide (tok ≤ b) && pcTime at'))) := rfl

set_option maxHeartbeats 1600000 in
set_option maxRecDepth 100000 in
theorem rpone_any (a b d e tok at' : Int) {r : Bool} (h : Hid (pcOne ⟨a, b, d, e⟩ ⟨tok, at'⟩ = r)) (w : World) :
    Calls Try.prog 46 #[.agg #[.int .i64 a, .int .i64 b, .int .i64 d, .int .i64 e], .agg #[.int .i64 tok, .int .i64 at']] w fun e w' => e = .returned (.bool r) ∧ Below w.heap.size w w' := by
  have HB := Lib.hid (boxes_below w a b d e tok at')
  have K0 := Lib.hid (boxes_cfg w a b d e tok at')
  have K1 := Lib.hid (boxes_bkt w a b d e tok at')
  have HR := h.out
  rw [pcOne_split] at HR
  obtain ⟨q1, h1⟩ : ∃ q, pcMay ⟨a, b, d, e⟩ = q := ⟨_, rfl⟩
  have H1 := Lib.hid (rpmay_any a b d e (Lib.hid h1))
  have H2 := Lib.hid (rptime_any at')
  obtain ⟨q2, h2⟩ : ∃ q, pcTime at' = q := ⟨_, rfl⟩
  rw [h2] at H2 HR
  rw [h1] at HR
  clear h h1 h2
  cases q1 with
  | false =>
    obtain rfl : false = r := HR
    go_enter Try.func46, Try.ntmps46
    go_wp2_with fail
    refine (H1.out _).mono ?_
    rintro e w1 ⟨rfl, b1⟩
    replace K0 := Lib.hid (K0.out.later b1)
    replace K1 := Lib.hid (K1.out.later b1)
    replace HB := Lib.hid (below2Z HB.out b1)
    obtain ⟨c0, c1, c2, c3⟩ := cells4P K0.out
    obtain ⟨d0, d1⟩ := cells2P K1.out
    clear b1
    go_wp2_with fail
    go_ret
    exact ⟨rfl, HB.out⟩
  | true =>
    cases t1 : decide (0 ≤ tok) with
    | false =>
      rw [t1] at HR
      obtain rfl : false = r := HR
      go_enter Try.func46, Try.ntmps46
      go_wp2_with fail
      refine (H1.out _).mono ?_
      rintro e w1 ⟨rfl, b1⟩
      replace K0 := Lib.hid (K0.out.later b1)
      replace K1 := Lib.hid (K1.out.later b1)
      replace HB := Lib.hid (below2Z HB.out b1)
      obtain ⟨c0, c1, c2, c3⟩ := cells4P K0.out
      obtain ⟨d0, d1⟩ := cells2P K1.out
      clear b1
      go_wp2_with fail
      go_ret
      exact ⟨rfl, HB.out⟩
    | true =>
      cases t2 : decide (tok ≤ b) with
      | false =>
        rw [t1, t2] at HR
        obtain rfl : false = r := HR
        go_enter Try.func46, Try.ntmps46
        go_wp2_with fail
        refine (H1.out _).mono ?_
        rintro e w1 ⟨rfl, b1⟩
        replace K0 := Lib.hid (K0.out.later b1)
        replace K1 := Lib.hid (K1.out.later b1)
        replace HB := Lib.hid (below2Z HB.out b1)
        obtain ⟨c0, c1, c2, c3⟩ := cells4P K0.out
        obtain ⟨d0, d1⟩ := cells2P K1.out
        clear b1
        go_wp2_with fail
        go_ret
        exact ⟨rfl, HB.out⟩
      | true =>
        rw [t1, t2] at HR
        replace HR : q2 = r := by rw [← HR]; rfl
        subst HR
        go_enter Try.func46, Try.ntmps46
        go_wp2_with fail
        refine (H1.out _).mono ?_
        rintro e w1 ⟨rfl, b1⟩
        replace K0 := Lib.hid (K0.out.later b1)
        replace K1 := Lib.hid (K1.out.later b1)
        replace HB := Lib.hid (below2Z HB.out b1)
        obtain ⟨c0, c1, c2, c3⟩ := cells4P K0.out
        obtain ⟨d0, d1⟩ := cells2P K1.out
        clear b1
        go_wp2_with fail
        refine (H2.out _).mono ?_
        rintro e w2 ⟨rfl, rfl⟩
        go_wp2_with fail
        go_ret
        exact ⟨rfl, HB.out⟩

set_option maxHeartbeats 1600000 in
set_option maxRecDepth 100000 in
theorem rplevel_any (a b d e tok at' now : Int) {r : Int} (h : Hid (pcLevel ⟨a, b, d, e⟩ ⟨tok, at'⟩ now = r)) (w : World) :
    Calls Try.prog 42 #[.agg #[.int .i64 a, .int .i64 b, .int .i64 d, .int .i64 e], .agg #[.int .i64 tok, .int .i64 at'], .int .i64 now] w fun e w' => e = .returned (.int .i64 r) ∧ Below w.heap.size w w' := by
  have HB := Lib.hid (boxes_below w a b d e tok at')
  have K0 := Lib.hid (boxes_cfg w a b d e tok at')
  have K1 := Lib.hid (boxes_bkt w a b d e tok at')
  have HR := h.out
  unfold pcLevel at HR
  clear h
  obtain ⟨q1, h1⟩ : ∃ q, pcOne ⟨a, b, d, e⟩ ⟨tok, at'⟩ = q := ⟨_, rfl⟩
  obtain ⟨q2, h2⟩ : ∃ q, pcTime now = q := ⟨_, rfl⟩
  have H1 := Lib.hid (rpone_any a b d e tok at' (Lib.hid h1))
  have H2 := Lib.hid (rptime_any now)
  rw [h2] at H2
  rw [h1, h2] at HR
  cases q1 with
  | false =>
    simp at HR
    subst HR
    clear h1 h2
    go_enter Try.func42, Try.ntmps42
    go_wp2_with fail
    refine (H1.out _).mono ?_
    rintro e w1 ⟨rfl, b1⟩
    replace K0 := Lib.hid (K0.out.later b1)
    replace K1 := Lib.hid (K1.out.later b1)
    replace HB := Lib.hid (below2Z HB.out b1)
    clear b1
    go_wp2_with fail
    go_ret
    exact ⟨rfl, HB.out⟩
  | true =>
    cases q2 with
    | false =>
      simp at HR
      subst HR
      clear h1 h2
      go_enter Try.func42, Try.ntmps42
      go_wp2_with fail
      refine (H1.out _).mono ?_
      rintro e w1 ⟨rfl, b1⟩
      replace K0 := Lib.hid (K0.out.later b1)
      replace K1 := Lib.hid (K1.out.later b1)
      replace HB := Lib.hid (below2Z HB.out b1)
      clear b1
      go_wp2_with fail
      refine (H2.out _).mono ?_
      rintro e w2 ⟨rfl, rfl⟩
      go_wp2_with fail
      go_ret
      exact ⟨rfl, HB.out⟩
    | true =>
      simp only [Bool.and_self, if_true] at HR
      obtain ⟨hm, o1, o2, o3, o4⟩ := pcOne_iff.1 h1
      obtain ⟨_, _, m1, m2, m3, m4, _, _⟩ := pcMay_iff.1 hm
      obtain ⟨s1, s2⟩ := pcTime_iff.1 h2
      simp only at o1 o2 o3 o4 m1 m2 m3 m4
      unfold pcLev at HR
      simp only at HR
      by_cases hn : now ≤ at'
      · rw [if_pos hn] at HR
        subst HR
        have t1 : decide (now ≤ at') = true := by simpa using hn
        clear h1 h2 hm o1 o2 o3 o4 m1 m2 m3 m4 s1 s2 hn
        go_enter Try.func42, Try.ntmps42
        go_wp2_with fail
        refine (H1.out _).mono ?_
        rintro e w1 ⟨rfl, b1⟩
        replace K0 := Lib.hid (K0.out.later b1)
        replace K1 := Lib.hid (K1.out.later b1)
        replace HB := Lib.hid (below2Z HB.out b1)
        obtain ⟨c0, c1, c2, c3⟩ := cells4P K0.out
        obtain ⟨d0, d1⟩ := cells2P K1.out
        clear b1
        go_wp2_with fail
        refine (H2.out _).mono ?_
        rintro e w2 ⟨rfl, rfl⟩
        go_wp2_with fail
        go_ret
        exact ⟨rfl, HB.out⟩
      · rw [if_neg hn] at HR
        subst HR
        have t1 : decide (now ≤ at') = false := by simpa using hn
        have hp : 0 ≤ (now - at') * d ∧ (now - at') * d ≤ 1099511627776 * 16 := ⟨Int.mul_nonneg (by omega) (by omega), Int.mul_le_mul (by omega) m4 (by omega) (by omega)⟩
        have w1' : IntKind.i64.wrap (now - at') = now - at' := IntWalk.i64_in _ (by omega)
        have w2' : IntKind.i64.wrap ((now - at') * d) = (now - at') * d := IntWalk.i64_in _ (by omega)
        have w3' : IntKind.i64.wrap (tok + (now - at') * d) = tok + (now - at') * d := IntWalk.i64_in _ (by omega)
        clear h1 h2 hm o1 o2 o3 o4 m1 m2 m3 m4 s1 s2 hn hp
        go_enter Try.func42, Try.ntmps42
        go_wp2_with fail
        refine (H1.out _).mono ?_
        rintro e w1 ⟨rfl, b1⟩
        replace K0 := Lib.hid (K0.out.later b1)
        replace K1 := Lib.hid (K1.out.later b1)
        replace HB := Lib.hid (below2Z HB.out b1)
        obtain ⟨c0, c1, c2, c3⟩ := cells4P K0.out
        obtain ⟨d0, d1⟩ := cells2P K1.out
        clear b1
        go_wp2_with fail
        refine (H2.out _).mono ?_
        rintro e w2 ⟨rfl, rfl⟩
        go_wp2_with fail
        go_ret
        exact ⟨rfl, HB.out⟩

set_option maxHeartbeats 1600000 in
set_option maxRecDepth 100000 in
theorem rpwait_any (a b d e tok at' now : Int) {r : Int} (h : Hid (pcWait ⟨a, b, d, e⟩ ⟨tok, at'⟩ now = r)) (w : World) :
    Calls Try.prog 44 #[.agg #[.int .i64 a, .int .i64 b, .int .i64 d, .int .i64 e], .agg #[.int .i64 tok, .int .i64 at'], .int .i64 now] w fun e w' => e = .returned (.int .i64 r) ∧ Below w.heap.size w w' := by
  have HB := Lib.hid (boxes_below w a b d e tok at')
  have K0 := Lib.hid (boxes_cfg w a b d e tok at')
  have K1 := Lib.hid (boxes_bkt w a b d e tok at')
  have HR := h.out
  unfold pcWait at HR
  clear h
  obtain ⟨q1, h1⟩ : ∃ q, pcOne ⟨a, b, d, e⟩ ⟨tok, at'⟩ = q := ⟨_, rfl⟩
  obtain ⟨q2, h2⟩ : ∃ q, pcTime now = q := ⟨_, rfl⟩
  have H1 := Lib.hid (rpone_any a b d e tok at' (Lib.hid h1))
  have H2 := Lib.hid (rptime_any now)
  rw [h2] at H2
  rw [h1, h2] at HR
  cases q1 with
  | false =>
    simp at HR
    subst HR
    clear h1 h2
    go_enter Try.func44, Try.ntmps44
    go_wp2_with fail
    refine (H1.out _).mono ?_
    rintro e w1 ⟨rfl, b1⟩
    replace K0 := Lib.hid (K0.out.later b1)
    replace K1 := Lib.hid (K1.out.later b1)
    replace HB := Lib.hid (below2Z HB.out b1)
    clear b1
    go_wp2_with fail
    go_ret
    exact ⟨rfl, HB.out⟩
  | true =>
    cases q2 with
    | false =>
      simp at HR
      subst HR
      clear h1 h2
      go_enter Try.func44, Try.ntmps44
      go_wp2_with fail
      refine (H1.out _).mono ?_
      rintro e w1 ⟨rfl, b1⟩
      replace K0 := Lib.hid (K0.out.later b1)
      replace K1 := Lib.hid (K1.out.later b1)
      replace HB := Lib.hid (below2Z HB.out b1)
      clear b1
      go_wp2_with fail
      refine (H2.out _).mono ?_
      rintro e w2 ⟨rfl, rfl⟩
      go_wp2_with fail
      go_ret
      exact ⟨rfl, HB.out⟩
    | true =>
      simp only [Bool.and_self, if_true] at HR
      have hl := pcLevel_in h1 h2
      obtain ⟨lev, hlev⟩ : ∃ v, pcLev ⟨a, b, d, e⟩ ⟨tok, at'⟩ now = v := ⟨_, rfl⟩
      rw [hlev] at hl HR
      have HL := Lib.hid (rplevel_any a b d e tok at' now (Lib.hid hl))
      clear h1 h2 hlev hl
      by_cases h0 : 1 ≤ lev
      · rw [if_pos h0] at HR
        subst HR
        have t1 : decide (1 ≤ lev) = true := by simpa using h0
        clear h0
        go_enter Try.func44, Try.ntmps44
        go_wp2_with fail
        refine (H1.out _).mono ?_
        rintro e w1 ⟨rfl, b1⟩
        replace K0 := Lib.hid (K0.out.later b1)
        replace K1 := Lib.hid (K1.out.later b1)
        replace HB := Lib.hid (below2Z HB.out b1)
        obtain ⟨c0, c1, c2, c3⟩ := cells4P K0.out
        obtain ⟨d0, d1⟩ := cells2P K1.out
        clear b1
        go_wp2_with fail
        refine (H2.out _).mono ?_
        rintro e w2 ⟨rfl, rfl⟩
        go_wp2_with fail
        clear c0 c1 c2 c3 d0 d1
        refine (HL.out _).mono ?_
        rintro e w3 ⟨rfl, b3⟩
        replace K0 := Lib.hid (K0.out.later b3)
        replace K1 := Lib.hid (K1.out.later b3)
        replace HB := Lib.hid (below2Z HB.out b3)
        clear b3
        go_wp2_with fail
        go_ret
        exact ⟨rfl, HB.out⟩
      · rw [if_neg h0] at HR
        subst HR
        have t1 : decide (1 ≤ lev) = false := by simpa using h0
        clear h0
        go_enter Try.func44, Try.ntmps44
        go_wp2_with fail
        refine (H1.out _).mono ?_
        rintro e w1 ⟨rfl, b1⟩
        replace K0 := Lib.hid (K0.out.later b1)
        replace K1 := Lib.hid (K1.out.later b1)
        replace HB := Lib.hid (below2Z HB.out b1)
        obtain ⟨c0, c1, c2, c3⟩ := cells4P K0.out
        obtain ⟨d0, d1⟩ := cells2P K1.out
        clear b1
        go_wp2_with fail
        refine (H2.out _).mono ?_
        rintro e w2 ⟨rfl, rfl⟩
        go_wp2_with fail
        clear c0 c1 c2 c3 d0 d1
        refine (HL.out _).mono ?_
        rintro e w3 ⟨rfl, b3⟩
        replace K0 := Lib.hid (K0.out.later b3)
        replace K1 := Lib.hid (K1.out.later b3)
        replace HB := Lib.hid (below2Z HB.out b3)
        clear b3
        go_wp2_with fail
        go_ret
        exact ⟨rfl, HB.out⟩

set_option maxHeartbeats 1600000 in
set_option maxRecDepth 100000 in
theorem rptake_any (a b d e tok at' now : Int) {x y : Int} {is : Bool} (h : Hid (pcTake ⟨a, b, d, e⟩ ⟨tok, at'⟩ now = (⟨x, y⟩, is))) (w : World) :
    Calls Try.prog 38 #[.agg #[.int .i64 a, .int .i64 b, .int .i64 d, .int .i64 e], .agg #[.int .i64 tok, .int .i64 at'], .int .i64 now] w fun e w' => e = .returned (.tuple #[.agg #[.int .i64 x, .int .i64 y], .bool is]) ∧ Below w.heap.size w w' := by
  have HB := Lib.hid (below2Z (boxes_below w a b d e tok at') (bl_newZ _ (.cells #[.int .i64 0, .int .i64 0] 54)))
  have K0 := Lib.hid ((boxes_cfg w a b d e tok at').later (bl_newZ _ (.cells #[.int .i64 0, .int .i64 0] 54)))
  have K1 := Lib.hid ((boxes_bkt w a b d e tok at').later (bl_newZ _ (.cells #[.int .i64 0, .int .i64 0] 54)))
  have K2 := Lib.hid (boxR_at (boxes w a b d e tok at') (B := w.heap.size + 1 + 1) (by simp [boxes]))
  have FZ := Lib.hid (boxR_free (boxes w a b d e tok at') (B := w.heap.size + 1 + 1) (by simp [boxes]))
  have HR := h.out
  unfold pcTake at HR
  clear h
  obtain ⟨q1, h1⟩ : ∃ q, pcOne ⟨a, b, d, e⟩ ⟨tok, at'⟩ = q := ⟨_, rfl⟩
  obtain ⟨q2, h2⟩ : ∃ q, pcTime now = q := ⟨_, rfl⟩
  have H1 := Lib.hid (rpone_any a b d e tok at' (Lib.hid h1))
  have H2 := Lib.hid (rptime_any now)
  rw [h2] at H2
  rw [h1, h2] at HR
  cases q1 with
  | false =>
    simp at HR
    obtain ⟨⟨rfl, rfl⟩, rfl⟩ := HR
    clear h1 h2
    go_enter Try.func38, Try.ntmps38
    go_wp2_with fail
    refine (H1.out _).mono ?_
    rintro e w1 ⟨rfl, b1⟩
    have fz := free_later (World.block_lt_of_cell? _ _ (K2.out 0 _ rfl)) FZ.out b1
    replace K0 := Lib.hid (K0.out.later b1)
    replace K1 := Lib.hid (K1.out.later b1)
    replace K2 := Lib.hid (K2.out.later b1)
    replace FZ := Lib.hid fz
    replace HB := Lib.hid (below2Z HB.out b1)
    clear fz b1
    obtain ⟨c0, c1, c2, c3⟩ := cells4P K0.out
    obtain ⟨d0, d1⟩ := cells2P K1.out
    obtain ⟨z0, z1⟩ := cells2P K2.out
    have f0 := FZ.out 0
    have f1 := FZ.out 1
    go_wp2_with fail
    obtain ⟨r0, r1⟩ := set2_get w1 (w.heap.size + 1 + 1) (.int .i64 tok) (.int .i64 at') z0 z1
    have hB := set2_below HB.out (w.heap.size + 1 + 1) (by omega) (.int .i64 tok) (.int .i64 at')
    show bodyPost _ _ _ _ _ (setMany w1 [(⟨w.heap.size + 1 + 1, 0, none⟩, .int .i64 tok), (⟨w.heap.size + 1 + 1, 1, none⟩, .int .i64 at')])
    exact bodyPost_ret (v := .tuple #[.agg #[.int .i64 tok, .int .i64 at'], .bool false]) (by simp [results, Try.results38, go_sem, r0, r1]) rfl ⟨rfl, hB⟩
  | true =>
    cases q2 with
    | false =>
      simp at HR
      obtain ⟨⟨rfl, rfl⟩, rfl⟩ := HR
      clear h1 h2
      go_enter Try.func38, Try.ntmps38
      go_wp2_with fail
      refine (H1.out _).mono ?_
      rintro e w1 ⟨rfl, b1⟩
      have fz := free_later (World.block_lt_of_cell? _ _ (K2.out 0 _ rfl)) FZ.out b1
      replace K0 := Lib.hid (K0.out.later b1)
      replace K1 := Lib.hid (K1.out.later b1)
      replace K2 := Lib.hid (K2.out.later b1)
      replace FZ := Lib.hid fz
      replace HB := Lib.hid (below2Z HB.out b1)
      clear fz b1
      obtain ⟨c0, c1, c2, c3⟩ := cells4P K0.out
      obtain ⟨d0, d1⟩ := cells2P K1.out
      obtain ⟨z0, z1⟩ := cells2P K2.out
      have f0 := FZ.out 0
      have f1 := FZ.out 1
      go_wp2_with fail
      refine (H2.out _).mono ?_
      rintro e w2 ⟨rfl, rfl⟩
      go_wp2_with fail
      obtain ⟨r0, r1⟩ := set2_get w1 (w.heap.size + 1 + 1) (.int .i64 tok) (.int .i64 at') z0 z1
      have hB := set2_below HB.out (w.heap.size + 1 + 1) (by omega) (.int .i64 tok) (.int .i64 at')
      show bodyPost _ _ _ _ _ (setMany w1 [(⟨w.heap.size + 1 + 1, 0, none⟩, .int .i64 tok), (⟨w.heap.size + 1 + 1, 1, none⟩, .int .i64 at')])
      exact bodyPost_ret (v := .tuple #[.agg #[.int .i64 tok, .int .i64 at'], .bool false]) (by simp [results, Try.results38, go_sem, r0, r1]) rfl ⟨rfl, hB⟩
    | true =>
      simp only [Bool.and_self, if_true] at HR
      have hl := pcLevel_in h1 h2
      obtain ⟨g1, g2⟩ := pcLev_in (now := now) h1
      obtain ⟨lev, hlev⟩ : ∃ v, pcLev ⟨a, b, d, e⟩ ⟨tok, at'⟩ now = v := ⟨_, rfl⟩
      rw [hlev] at hl HR g1 g2
      have HL := Lib.hid (rplevel_any a b d e tok at' now (Lib.hid hl))
      clear h1 h2 hlev hl
      by_cases h0 : lev = 0
      · subst h0
        simp at HR
        obtain ⟨⟨rfl, rfl⟩, rfl⟩ := HR
        clear g1 g2
        go_enter Try.func38, Try.ntmps38
        go_wp2_with fail
        refine (H1.out _).mono ?_
        rintro e w1 ⟨rfl, b1⟩
        have fz := free_later (World.block_lt_of_cell? _ _ (K2.out 0 _ rfl)) FZ.out b1
        replace K0 := Lib.hid (K0.out.later b1)
        replace K1 := Lib.hid (K1.out.later b1)
        replace K2 := Lib.hid (K2.out.later b1)
        replace FZ := Lib.hid fz
        replace HB := Lib.hid (below2Z HB.out b1)
        clear fz b1
        obtain ⟨c0, c1, c2, c3⟩ := cells4P K0.out
        obtain ⟨d0, d1⟩ := cells2P K1.out
        obtain ⟨z0, z1⟩ := cells2P K2.out
        have f0 := FZ.out 0
        have f1 := FZ.out 1
        go_wp2_with fail
        refine (H2.out _).mono ?_
        rintro e w2 ⟨rfl, rfl⟩
        go_wp2_with fail
        clear c0 c1 c2 c3 d0 d1 z0 z1 f0 f1
        refine (HL.out _).mono ?_
        rintro e w3 ⟨rfl, b3⟩
        have fz := free_later (World.block_lt_of_cell? _ _ (K2.out 0 _ rfl)) FZ.out b3
        replace K0 := Lib.hid (K0.out.later b3)
        replace K1 := Lib.hid (K1.out.later b3)
        replace K2 := Lib.hid (K2.out.later b3)
        replace FZ := Lib.hid fz
        replace HB := Lib.hid (below2Z HB.out b3)
        clear fz b3
        obtain ⟨c0, c1, c2, c3⟩ := cells4P K0.out
        obtain ⟨d0, d1⟩ := cells2P K1.out
        obtain ⟨z0, z1⟩ := cells2P K2.out
        have f0 := FZ.out 0
        have f1 := FZ.out 1
        go_wp2_with fail
        obtain ⟨r0, r1⟩ := set2_get w3 (w.heap.size + 1 + 1) (.int .i64 0) (.int .i64 (max now at')) z0 z1
        have hB := set2_below HB.out (w.heap.size + 1 + 1) (by omega) (.int .i64 0) (.int .i64 (max now at'))
        show bodyPost _ _ _ _ _ (setMany w3 [(⟨w.heap.size + 1 + 1, 0, none⟩, .int .i64 0), (⟨w.heap.size + 1 + 1, 1, none⟩, .int .i64 (max now at'))])
        exact bodyPost_ret (v := .tuple #[.agg #[.int .i64 0, .int .i64 (max now at')], .bool false]) (by simp [results, Try.results38, go_sem, r0, r1]) rfl ⟨rfl, hB⟩
      · rw [if_neg h0] at HR
        simp only [Prod.mk.injEq, Bkt.mk.injEq] at HR
        obtain ⟨⟨rfl, rfl⟩, rfl⟩ := HR
        have t1 : (lev == 0) = false := by rw [beq_eq_false_iff_ne]; exact h0
        have w1' : IntKind.i64.wrap (lev - 1) = lev - 1 := IntWalk.i64_in _ (by omega)
        clear g1 g2 h0
        go_enter Try.func38, Try.ntmps38
        go_wp2_with fail
        refine (H1.out _).mono ?_
        rintro e w1 ⟨rfl, b1⟩
        have fz := free_later (World.block_lt_of_cell? _ _ (K2.out 0 _ rfl)) FZ.out b1
        replace K0 := Lib.hid (K0.out.later b1)
        replace K1 := Lib.hid (K1.out.later b1)
        replace K2 := Lib.hid (K2.out.later b1)
        replace FZ := Lib.hid fz
        replace HB := Lib.hid (below2Z HB.out b1)
        clear fz b1
        obtain ⟨c0, c1, c2, c3⟩ := cells4P K0.out
        obtain ⟨d0, d1⟩ := cells2P K1.out
        obtain ⟨z0, z1⟩ := cells2P K2.out
        have f0 := FZ.out 0
        have f1 := FZ.out 1
        go_wp2_with fail
        refine (H2.out _).mono ?_
        rintro e w2 ⟨rfl, rfl⟩
        go_wp2_with fail
        clear c0 c1 c2 c3 d0 d1 z0 z1 f0 f1
        refine (HL.out _).mono ?_
        rintro e w3 ⟨rfl, b3⟩
        have fz := free_later (World.block_lt_of_cell? _ _ (K2.out 0 _ rfl)) FZ.out b3
        replace K0 := Lib.hid (K0.out.later b3)
        replace K1 := Lib.hid (K1.out.later b3)
        replace K2 := Lib.hid (K2.out.later b3)
        replace FZ := Lib.hid fz
        replace HB := Lib.hid (below2Z HB.out b3)
        clear fz b3
        obtain ⟨c0, c1, c2, c3⟩ := cells4P K0.out
        obtain ⟨d0, d1⟩ := cells2P K1.out
        obtain ⟨z0, z1⟩ := cells2P K2.out
        have f0 := FZ.out 0
        have f1 := FZ.out 1
        go_wp2_with fail
        obtain ⟨r0, r1⟩ := set2_get w3 (w.heap.size + 1 + 1) (.int .i64 (lev - 1)) (.int .i64 (max now at')) z0 z1
        have hB := set2_below HB.out (w.heap.size + 1 + 1) (by omega) (.int .i64 (lev - 1)) (.int .i64 (max now at'))
        show bodyPost _ _ _ _ _ (setMany w3 [(⟨w.heap.size + 1 + 1, 0, none⟩, .int .i64 (lev - 1)), (⟨w.heap.size + 1 + 1, 1, none⟩, .int .i64 (max now at'))])
        exact bodyPost_ret (v := .tuple #[.agg #[.int .i64 (lev - 1), .int .i64 (max now at')], .bool true]) (by simp [results, Try.results38, go_sem, r0, r1]) rfl ⟨rfl, hB⟩

end Go.Proofs.Ytnmdjkecjlpkkaa
