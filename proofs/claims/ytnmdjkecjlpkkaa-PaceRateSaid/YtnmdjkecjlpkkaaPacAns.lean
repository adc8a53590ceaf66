/-
  LAYER 16: New, Level, Take and Wait of the code, and the document's.
-/
import Derived.Test.YtnmdjkecjlpkkaaPacCode
import Derived.Test.YtnmdjkecjlpkkaaSubSet
namespace Go.Proofs.Ytnmdjkecjlpkkaa
open Go.RowKit

theorem set2_get (w : World) (B : Nat) (a0 a1 : Value) {u0 u1 : Value} (h0 : w.cell? ⟨B, 0, none⟩ = some u0) (h1 : w.cell? ⟨B, 1, none⟩ = some u1) :
    (setMany w [(⟨B, 0, none⟩, a0), (⟨B, 1, none⟩, a1)]).cell? ⟨B, 0, none⟩ = some a0 ∧ (setMany w [(⟨B, 0, none⟩, a0), (⟨B, 1, none⟩, a1)]).cell? ⟨B, 1, none⟩ = some a1 := by
  have hm := setMany_get [(⟨B, 0, none⟩, a0), (⟨B, 1, none⟩, a1)] w (by simp) (by simp [h0, h1])
  exact ⟨hm (_, _) (by simp), hm (_, _) (by simp)⟩

theorem set2_below {w w1 : World} (h : Below w.heap.size w w1) (B : Nat) (hB : w.heap.size ≤ B) (a0 a1 : Value) : Below w.heap.size w (setMany w1 [(⟨B, 0, none⟩, a0), (⟨B, 1, none⟩, a1)]) :=
  setMany_below _ h (by simp [hB])

/-- A block for a bucket that is told. -/
def boxR (w : World) : World := w.alloc (.cells #[.int .i64 0, .int .i64 0] 54)

theorem boxR_at (w : World) {B : Nat} (hB : B = w.heap.size) : CellsAt (boxR w) B 0 [.int .i64 0, .int .i64 0] := cellsAt_made rfl 54 hB
theorem boxR_free (w : World) {B : Nat} (hB : B = w.heap.size) : ∀ i, (boxR w).frozen? ⟨B, i, none⟩ = false := by
  subst hB
  exact freeAt_made 54

set_option maxHeartbeats 1600000 in
set_option maxRecDepth 100000 in
theorem pnew_any (a b d e now : Int) {x y : Int} {n : Nat} (h : Hid (pcNew ⟨a, b, d, e⟩ now = (⟨x, y⟩, n))) (w : World) :
    Calls Try.prog 35 #[.agg #[.int .i64 a, .int .i64 b, .int .i64 d, .int .i64 e], .int .i64 now] w fun e w' => e = .returned (.tuple #[.agg #[.int .i64 x, .int .i64 y], .int .i64 (n : Int)]) ∧ Below w.heap.size w w' := by
  have HB := Lib.hid (below2Z (bl_newZ w (.cells #[.int .i64 a, .int .i64 b, .int .i64 d, .int .i64 e] 52)) (bl_newZ _ (.cells #[.int .i64 0, .int .i64 0] 54)))
  have K0 := Lib.hid ((cellsAt_made (w := w) (cs := #[.int .i64 a, .int .i64 b, .int .i64 d, .int .i64 e]) (vs := [.int .i64 a, .int .i64 b, .int .i64 d, .int .i64 e]) rfl 52 rfl).later (bl_newZ _ (.cells #[.int .i64 0, .int .i64 0] 54)))
  have K2 := Lib.hid (boxR_at (w.alloc (.cells #[.int .i64 a, .int .i64 b, .int .i64 d, .int .i64 e] 52)) (B := w.heap.size + 1) (by simp))
  have FZ := Lib.hid (boxR_free (w.alloc (.cells #[.int .i64 a, .int .i64 b, .int .i64 d, .int .i64 e] 52)) (B := w.heap.size + 1) (by simp))
  obtain ⟨q1, h1⟩ : ∃ q, pcMay ⟨a, b, d, e⟩ = q := ⟨_, rfl⟩
  have H1 := Lib.hid (pmay_any a b d e (Lib.hid h1))
  have H2 := Lib.hid (ptick_any now)
  obtain ⟨q2, h2⟩ : ∃ q, pcTime now = q := ⟨_, rfl⟩
  rw [h2] at H2
  have HR := h.out
  unfold pcNew at HR
  rw [h1, h2] at HR
  clear h h1 h2
  cases q1 with
  | false =>
    simp at HR
    obtain ⟨⟨rfl, rfl⟩, rfl⟩ := HR
    go_enter Try.func35, Try.ntmps35
    go_wp2_with fail
    refine (H1.out _).mono ?_
    rintro e w1 ⟨rfl, b1⟩
    have fz := free_later (World.block_lt_of_cell? _ _ (K2.out 0 _ rfl)) FZ.out b1
    replace K0 := Lib.hid (K0.out.later b1)
    replace K2 := Lib.hid (K2.out.later b1)
    replace FZ := Lib.hid fz
    replace HB := Lib.hid (below2Z HB.out b1)
    clear fz b1
    obtain ⟨c0, c1, c2, c3⟩ := cells4P K0.out
    obtain ⟨z0, z1⟩ := cells2P K2.out
    have f0 := FZ.out 0
    have f1 := FZ.out 1
    go_wp2_with fail
    obtain ⟨r0, r1⟩ := set2_get w1 (w.heap.size + 1) (.int .i64 0) (.int .i64 0) z0 z1
    have hB := set2_below HB.out (w.heap.size + 1) (by omega) (.int .i64 0) (.int .i64 0)
    show bodyPost _ _ _ _ _ (setMany w1 [(⟨w.heap.size + 1, 0, none⟩, .int .i64 0), (⟨w.heap.size + 1, 1, none⟩, .int .i64 0)])
    exact bodyPost_ret (v := .tuple #[.agg #[.int .i64 0, .int .i64 0], .int .i64 1]) (by simp [results, Try.results35, go_sem, r0, r1]) rfl ⟨rfl, hB⟩
  | true =>
    cases q2 with
    | false =>
      simp at HR
      obtain ⟨⟨rfl, rfl⟩, rfl⟩ := HR
      go_enter Try.func35, Try.ntmps35
      go_wp2_with fail
      refine (H1.out _).mono ?_
      rintro e w1 ⟨rfl, b1⟩
      have fz := free_later (World.block_lt_of_cell? _ _ (K2.out 0 _ rfl)) FZ.out b1
      replace K0 := Lib.hid (K0.out.later b1)
      replace K2 := Lib.hid (K2.out.later b1)
      replace FZ := Lib.hid fz
      replace HB := Lib.hid (below2Z HB.out b1)
      clear fz b1
      obtain ⟨c0, c1, c2, c3⟩ := cells4P K0.out
      obtain ⟨z0, z1⟩ := cells2P K2.out
      have f0 := FZ.out 0
      have f1 := FZ.out 1
      go_wp2_with fail
      refine (H2.out _).mono ?_
      rintro e w2 ⟨rfl, rfl⟩
      go_wp2_with fail
      obtain ⟨r0, r1⟩ := set2_get w1 (w.heap.size + 1) (.int .i64 0) (.int .i64 0) z0 z1
      have hB := set2_below HB.out (w.heap.size + 1) (by omega) (.int .i64 0) (.int .i64 0)
      show bodyPost _ _ _ _ _ (setMany w1 [(⟨w.heap.size + 1, 0, none⟩, .int .i64 0), (⟨w.heap.size + 1, 1, none⟩, .int .i64 0)])
      exact bodyPost_ret (v := .tuple #[.agg #[.int .i64 0, .int .i64 0], .int .i64 1]) (by simp [results, Try.results35, go_sem, r0, r1]) rfl ⟨rfl, hB⟩
    | true =>
      simp at HR
      obtain ⟨⟨rfl, rfl⟩, rfl⟩ := HR
      go_enter Try.func35, Try.ntmps35
      go_wp2_with fail
      refine (H1.out _).mono ?_
      rintro e w1 ⟨rfl, b1⟩
      have fz := free_later (World.block_lt_of_cell? _ _ (K2.out 0 _ rfl)) FZ.out b1
      replace K0 := Lib.hid (K0.out.later b1)
      replace K2 := Lib.hid (K2.out.later b1)
      replace FZ := Lib.hid fz
      replace HB := Lib.hid (below2Z HB.out b1)
      clear fz b1
      obtain ⟨c0, c1, c2, c3⟩ := cells4P K0.out
      obtain ⟨z0, z1⟩ := cells2P K2.out
      have f0 := FZ.out 0
      have f1 := FZ.out 1
      go_wp2_with fail
      refine (H2.out _).mono ?_
      rintro e w2 ⟨rfl, rfl⟩
      go_wp2_with fail
      obtain ⟨r0, r1⟩ := set2_get w1 (w.heap.size + 1) (.int .i64 b) (.int .i64 now) z0 z1
      have hB := set2_below HB.out (w.heap.size + 1) (by omega) (.int .i64 b) (.int .i64 now)
      show bodyPost _ _ _ _ _ (setMany w1 [(⟨w.heap.size + 1, 0, none⟩, .int .i64 b), (⟨w.heap.size + 1, 1, none⟩, .int .i64 now)])
      exact bodyPost_ret (v := .tuple #[.agg #[.int .i64 b, .int .i64 now], .int .i64 0]) (by simp [results, Try.results35, go_sem, r0, r1]) rfl ⟨rfl, hB⟩

theorem pcLev_in {a b d e tok at' now : Int} (h : pcOne ⟨a, b, d, e⟩ ⟨tok, at'⟩ = true) : 0 ≤ pcLev ⟨a, b, d, e⟩ ⟨tok, at'⟩ now ∧ pcLev ⟨a, b, d, e⟩ ⟨tok, at'⟩ now ≤ 64 := by
  obtain ⟨g1, g2, -⟩ := pcLev_ge (now := now) h
  obtain ⟨hm, -⟩ := pcOne_iff.1 h
  obtain ⟨-, -, -, m2, -⟩ := pcMay_iff.1 hm
  simp only at g2 m2
  omega

theorem pcMax_in {a b d e tok at' now : Int} (h : pcOne ⟨a, b, d, e⟩ ⟨tok, at'⟩ = true) (ht : pcTime now = true) : 0 ≤ max now at' ∧ max now at' ≤ 1099511627776 := by
  obtain ⟨-, -, -, h3, h4⟩ := pcOne_iff.1 h
  obtain ⟨t1, t2⟩ := pcTime_iff.1 ht
  simp only at h3 h4
  omega

set_option maxHeartbeats 1600000 in
set_option maxRecDepth 100000 in
theorem plevel_any (a b d e tok at' now : Int) {r : Int} (h : Hid (pcLevel ⟨a, b, d, e⟩ ⟨tok, at'⟩ now = r)) (w : World) :
    Calls Try.prog 41 #[.agg #[.int .i64 a, .int .i64 b, .int .i64 d, .int .i64 e], .agg #[.int .i64 tok, .int .i64 at'], .int .i64 now] w fun e w' => e = .returned (.int .i64 r) ∧ Below w.heap.size w w' := by
  have HB := Lib.hid (boxes_below w a b d e tok at')
  have K0 := Lib.hid (boxes_cfg w a b d e tok at')
  have K1 := Lib.hid (boxes_bkt w a b d e tok at')
  have HR := h.out
  unfold pcLevel at HR
  obtain ⟨q, hq⟩ : ∃ q, (pcOne ⟨a, b, d, e⟩ ⟨tok, at'⟩ && pcTime now) = q := ⟨_, rfl⟩
  have H1 := Lib.hid (pmayBe_any a b d e tok at' now (Lib.hid hq))
  rw [hq] at HR
  clear h
  cases q with
  | false =>
    simp at HR
    subst HR
    clear hq
    go_enter Try.func41, Try.ntmps41
    go_wp2_with fail
    refine (H1.out _).mono ?_
    rintro e w1 ⟨rfl, b1⟩
    replace K0 := Lib.hid (K0.out.later b1)
    replace K1 := Lib.hid (K1.out.later b1)
    replace HB := Lib.hid (below2Z HB.out b1)
    clear b1
    go_wp2_with fail
    go_ret
    exact ⟨rfl, HB.out⟩
  | true =>
    simp at HR
    rw [Bool.and_eq_true] at hq
    obtain ⟨re, im, R, -, HO⟩ := ponward_any a b d e tok at' now (Lib.hid hq.1) (Lib.hid hq.2)
    have HO := Lib.hid HO
    obtain ⟨g1, g2⟩ := pcLev_in (now := now) hq.1
    rw [HR] at R g1 g2
    have HT := Lib.hid (ptokens_any (im := im) R (by omega) (by omega))
    clear hq HR R g1 g2
    go_enter Try.func41, Try.ntmps41
    go_wp2_with fail
    refine (H1.out _).mono ?_
    rintro e w1 ⟨rfl, b1⟩
    replace K0 := Lib.hid (K0.out.later b1)
    replace K1 := Lib.hid (K1.out.later b1)
    replace HB := Lib.hid (below2Z HB.out b1)
    obtain ⟨c0, c1, c2, c3⟩ := cells4P K0.out
    obtain ⟨d0, d1⟩ := cells2P K1.out
    clear b1
    go_wp2_with fail
    clear c0 c1 c2 c3 d0 d1
    refine (HO.out _).mono ?_
    rintro e w2 ⟨rfl, b2⟩
    replace K0 := Lib.hid (K0.out.later b2)
    replace K1 := Lib.hid (K1.out.later b2)
    replace HB := Lib.hid (below2Z HB.out b2)
    clear b2
    go_wp2_with fail
    refine (HT.out _).mono ?_
    rintro e w3 ⟨rfl, rfl⟩
    go_wp2_with fail
    go_ret
    exact ⟨rfl, HB.out⟩

set_option maxHeartbeats 1600000 in
set_option maxRecDepth 100000 in
theorem ptake_any (a b d e tok at' now : Int) {x y : Int} {is : Bool} (h : Hid (pcTake ⟨a, b, d, e⟩ ⟨tok, at'⟩ now = (⟨x, y⟩, is))) (w : World) :
    Calls Try.prog 37 #[.agg #[.int .i64 a, .int .i64 b, .int .i64 d, .int .i64 e], .agg #[.int .i64 tok, .int .i64 at'], .int .i64 now] w fun e w' => e = .returned (.tuple #[.agg #[.int .i64 x, .int .i64 y], .bool is]) ∧ Below w.heap.size w w' := by
  have HB := Lib.hid (below2Z (boxes_below w a b d e tok at') (bl_newZ _ (.cells #[.int .i64 0, .int .i64 0] 54)))
  have K0 := Lib.hid ((boxes_cfg w a b d e tok at').later (bl_newZ _ (.cells #[.int .i64 0, .int .i64 0] 54)))
  have K1 := Lib.hid ((boxes_bkt w a b d e tok at').later (bl_newZ _ (.cells #[.int .i64 0, .int .i64 0] 54)))
  have K2 := Lib.hid (boxR_at (boxes w a b d e tok at') (B := w.heap.size + 1 + 1) (by simp [boxes]))
  have FZ := Lib.hid (boxR_free (boxes w a b d e tok at') (B := w.heap.size + 1 + 1) (by simp [boxes]))
  have HR := h.out
  unfold pcTake at HR
  obtain ⟨q, hq⟩ : ∃ q, (pcOne ⟨a, b, d, e⟩ ⟨tok, at'⟩ && pcTime now) = q := ⟨_, rfl⟩
  have H1 := Lib.hid (pmayBe_any a b d e tok at' now (Lib.hid hq))
  rw [hq] at HR
  clear h
  cases q with
  | false =>
    simp at HR
    obtain ⟨⟨rfl, rfl⟩, rfl⟩ := HR
    clear hq
    go_enter Try.func37, Try.ntmps37
    go_wp2_with fail
    refine (H1.out _).mono ?_
    rintro e w1 ⟨rfl, b1⟩
    have fz := free_later (World.block_lt_of_cell? _ _ (K2.out 0 _ rfl)) FZ.out b1
    replace K0 := Lib.hid (K0.out.later b1)
    replace K1 := Lib.hid (K1.out.later b1)
    replace K2 := Lib.hid (K2.out.later b1)
    replace FZ := Lib.hid fz
    replace HB := Lib.hid (below2Z HB.out b1)
    clear fz b1
    obtain ⟨c0, c1, c2, c3⟩ := cells4P K0.out
    obtain ⟨d0, d1⟩ := cells2P K1.out
    obtain ⟨z0, z1⟩ := cells2P K2.out
    have f0 := FZ.out 0
    have f1 := FZ.out 1
    go_wp2_with fail
    obtain ⟨r0, r1⟩ := set2_get w1 (w.heap.size + 1 + 1) (.int .i64 tok) (.int .i64 at') z0 z1
    have hB := set2_below HB.out (w.heap.size + 1 + 1) (by omega) (.int .i64 tok) (.int .i64 at')
    show bodyPost _ _ _ _ _ (setMany w1 [(⟨w.heap.size + 1 + 1, 0, none⟩, .int .i64 tok), (⟨w.heap.size + 1 + 1, 1, none⟩, .int .i64 at')])
    exact bodyPost_ret (v := .tuple #[.agg #[.int .i64 tok, .int .i64 at'], .bool false]) (by simp [results, Try.results37, go_sem, r0, r1]) rfl ⟨rfl, hB⟩
  | true =>
    simp only [if_true] at HR
    rw [Bool.and_eq_true] at hq
    obtain ⟨re, im, R, M, HO⟩ := ponward_any a b d e tok at' now (Lib.hid hq.1) (Lib.hid hq.2)
    have HO := Lib.hid HO
    obtain ⟨g1, g2⟩ := pcLev_in (now := now) hq.1
    obtain ⟨m1, m2⟩ := pcMax_in hq.1 hq.2
    obtain ⟨lev, hlev⟩ : ∃ v, pcLev ⟨a, b, d, e⟩ ⟨tok, at'⟩ now = v := ⟨_, rfl⟩
    obtain ⟨top, htop⟩ : ∃ v, max now at' = v := ⟨_, rfl⟩
    rw [hlev] at R g1 g2 HR
    rw [htop] at M m1 m2 HR
    have HT := Lib.hid (ptokens_any (im := im) R (by omega) (by omega))
    clear hq hlev htop
    by_cases h0 : lev = 0
    · subst h0
      simp at HR
      obtain ⟨⟨rfl, rfl⟩, rfl⟩ := HR
      have HK := Lib.hid (pbucketOf_any R (by omega) (by omega) M (by omega) (by omega))
      clear R M g1 g2 m1 m2
      go_enter Try.func37, Try.ntmps37
      go_wp2_with fail
      refine (H1.out _).mono ?_
      rintro e w1 ⟨rfl, b1⟩
      have fz := free_later (World.block_lt_of_cell? _ _ (K2.out 0 _ rfl)) FZ.out b1
      replace K0 := Lib.hid (K0.out.later b1)
      replace K1 := Lib.hid (K1.out.later b1)
      replace K2 := Lib.hid (K2.out.later b1)
      replace FZ := Lib.hid fz
      replace HB := Lib.hid (below2Z HB.out b1)
      clear fz b1
      obtain ⟨c0, c1, c2, c3⟩ := cells4P K0.out
      obtain ⟨d0, d1⟩ := cells2P K1.out
      go_wp2_with fail
      clear c0 c1 c2 c3 d0 d1
      refine (HO.out _).mono ?_
      rintro e w2 ⟨rfl, b2⟩
      have fz := free_later (World.block_lt_of_cell? _ _ (K2.out 0 _ rfl)) FZ.out b2
      replace K0 := Lib.hid (K0.out.later b2)
      replace K1 := Lib.hid (K1.out.later b2)
      replace K2 := Lib.hid (K2.out.later b2)
      replace FZ := Lib.hid fz
      replace HB := Lib.hid (below2Z HB.out b2)
      clear fz b2
      go_wp2_with fail
      refine (HT.out _).mono ?_
      rintro e w9 ⟨rfl, rfl⟩
      go_wp2_with fail
      refine (HK.out _).mono ?_
      rintro e w3 ⟨rfl, b3⟩
      have fz := free_later (World.block_lt_of_cell? _ _ (K2.out 0 _ rfl)) FZ.out b3
      replace K0 := Lib.hid (K0.out.later b3)
      replace K1 := Lib.hid (K1.out.later b3)
      replace K2 := Lib.hid (K2.out.later b3)
      replace FZ := Lib.hid fz
      replace HB := Lib.hid (below2Z HB.out b3)
      clear fz b3
      obtain ⟨z0, z1⟩ := cells2P K2.out
      have f0 := FZ.out 0
      have f1 := FZ.out 1
      go_wp2_with fail
      obtain ⟨r0, r1⟩ := set2_get w3 (w.heap.size + 1 + 1) (.int .i64 0) (.int .i64 top) z0 z1
      have hB := set2_below HB.out (w.heap.size + 1 + 1) (by omega) (.int .i64 0) (.int .i64 top)
      show bodyPost _ _ _ _ _ (setMany w3 [(⟨w.heap.size + 1 + 1, 0, none⟩, .int .i64 0), (⟨w.heap.size + 1 + 1, 1, none⟩, .int .i64 top)])
      exact bodyPost_ret (v := .tuple #[.agg #[.int .i64 0, .int .i64 top], .bool false]) (by simp [results, Try.results37, go_sem, r0, r1]) rfl ⟨rfl, hB⟩
    · rw [if_neg h0] at HR
      simp only [Prod.mk.injEq, Bkt.mk.injEq] at HR
      obtain ⟨⟨rfl, rfl⟩, rfl⟩ := HR
      have t1 : (lev == 0) = false := by rw [beq_eq_false_iff_ne]; exact h0
      obtain ⟨p, hp, P⟩ := sub_whole R isF_one (int_whole (by omega) (by omega))
      obtain ⟨q, hq, Q⟩ := sub_whole M isF_zero (int_whole (by omega) (by omega))
      rw [Int.sub_zero] at Q
      have hs : cSumBits .sub .f64 re im 4607182418800017408 0 = some (p, q) := by simp only [cSumBits, floatBits, FloatKind.format, hp, hq, Option.bind_some]
      have r1 := fun w => run_complex_sum (P := Try.prog) w .sub (.inr rfl) 94 .f64 _ _ _ _ _ _ hs
      have HK := Lib.hid (pbucketOf_any P (by omega) (by omega) Q (by omega) (by omega))
      clear R M g1 g2 m1 m2 hp hq P Q hs h0
      go_enter Try.func37, Try.ntmps37
      go_wp2_with fail
      refine (H1.out _).mono ?_
      rintro e w1 ⟨rfl, b1⟩
      have fz := free_later (World.block_lt_of_cell? _ _ (K2.out 0 _ rfl)) FZ.out b1
      replace K0 := Lib.hid (K0.out.later b1)
      replace K1 := Lib.hid (K1.out.later b1)
      replace K2 := Lib.hid (K2.out.later b1)
      replace FZ := Lib.hid fz
      replace HB := Lib.hid (below2Z HB.out b1)
      clear fz b1
      obtain ⟨c0, c1, c2, c3⟩ := cells4P K0.out
      obtain ⟨d0, d1⟩ := cells2P K1.out
      go_wp2_with fail
      clear c0 c1 c2 c3 d0 d1
      refine (HO.out _).mono ?_
      rintro e w2 ⟨rfl, b2⟩
      have fz := free_later (World.block_lt_of_cell? _ _ (K2.out 0 _ rfl)) FZ.out b2
      replace K0 := Lib.hid (K0.out.later b2)
      replace K1 := Lib.hid (K1.out.later b2)
      replace K2 := Lib.hid (K2.out.later b2)
      replace FZ := Lib.hid fz
      replace HB := Lib.hid (below2Z HB.out b2)
      clear fz b2
      go_wp2_with fail
      refine (HT.out _).mono ?_
      rintro e w9 ⟨rfl, rfl⟩
      go_wp2_with fail
      refine (HK.out _).mono ?_
      rintro e w3 ⟨rfl, b3⟩
      have fz := free_later (World.block_lt_of_cell? _ _ (K2.out 0 _ rfl)) FZ.out b3
      replace K0 := Lib.hid (K0.out.later b3)
      replace K1 := Lib.hid (K1.out.later b3)
      replace K2 := Lib.hid (K2.out.later b3)
      replace FZ := Lib.hid fz
      replace HB := Lib.hid (below2Z HB.out b3)
      clear fz b3
      obtain ⟨z0, z1⟩ := cells2P K2.out
      have f0 := FZ.out 0
      have f1 := FZ.out 1
      go_wp2_with fail
      obtain ⟨r0, r1⟩ := set2_get w3 (w.heap.size + 1 + 1) (.int .i64 (lev - 1)) (.int .i64 top) z0 z1
      have hB := set2_below HB.out (w.heap.size + 1 + 1) (by omega) (.int .i64 (lev - 1)) (.int .i64 top)
      show bodyPost _ _ _ _ _ (setMany w3 [(⟨w.heap.size + 1 + 1, 0, none⟩, .int .i64 (lev - 1)), (⟨w.heap.size + 1 + 1, 1, none⟩, .int .i64 top)])
      exact bodyPost_ret (v := .tuple #[.agg #[.int .i64 (lev - 1), .int .i64 top], .bool true]) (by simp [results, Try.results37, go_sem, r0, r1]) rfl ⟨rfl, hB⟩

set_option maxHeartbeats 1600000 in
set_option maxRecDepth 100000 in
theorem pwait_any (a b d e tok at' now : Int) {r : Int} (h : Hid (pcWait ⟨a, b, d, e⟩ ⟨tok, at'⟩ now = r)) (w : World) :
    Calls Try.prog 43 #[.agg #[.int .i64 a, .int .i64 b, .int .i64 d, .int .i64 e], .agg #[.int .i64 tok, .int .i64 at'], .int .i64 now] w fun e w' => e = .returned (.int .i64 r) ∧ Below w.heap.size w w' := by
  have HB := Lib.hid (boxes_below w a b d e tok at')
  have K0 := Lib.hid (boxes_cfg w a b d e tok at')
  have K1 := Lib.hid (boxes_bkt w a b d e tok at')
  have HR := h.out
  unfold pcWait at HR
  obtain ⟨q, hq⟩ : ∃ q, (pcOne ⟨a, b, d, e⟩ ⟨tok, at'⟩ && pcTime now) = q := ⟨_, rfl⟩
  have H1 := Lib.hid (pmayBe_any a b d e tok at' now (Lib.hid hq))
  rw [hq] at HR
  clear h
  cases q with
  | false =>
    simp at HR
    subst HR
    clear hq
    go_enter Try.func43, Try.ntmps43
    go_wp2_with fail
    refine (H1.out _).mono ?_
    rintro e w1 ⟨rfl, b1⟩
    replace K0 := Lib.hid (K0.out.later b1)
    replace K1 := Lib.hid (K1.out.later b1)
    replace HB := Lib.hid (below2Z HB.out b1)
    clear b1
    go_wp2_with fail
    go_ret
    exact ⟨rfl, HB.out⟩
  | true =>
    simp only [if_true] at HR
    rw [Bool.and_eq_true] at hq
    obtain ⟨g1, g2⟩ := pcLev_in (now := now) hq.1
    have hl := pcLevel_in hq.1 hq.2
    obtain ⟨lev, hlev⟩ : ∃ v, pcLev ⟨a, b, d, e⟩ ⟨tok, at'⟩ now = v := ⟨_, rfl⟩
    rw [hlev] at hl g1 g2 HR
    have HL := Lib.hid (plevel_any a b d e tok at' now (Lib.hid hl))
    clear hq hlev hl
    by_cases h0 : lev = 0
    · subst h0
      rw [if_neg (by decide)] at HR
      subst HR
      clear g1 g2
      go_enter Try.func43, Try.ntmps43
      go_wp2_with fail
      refine (H1.out _).mono ?_
      rintro e w1 ⟨rfl, b1⟩
      replace K0 := Lib.hid (K0.out.later b1)
      replace K1 := Lib.hid (K1.out.later b1)
      replace HB := Lib.hid (below2Z HB.out b1)
      obtain ⟨c0, c1, c2, c3⟩ := cells4P K0.out
      obtain ⟨d0, d1⟩ := cells2P K1.out
      clear b1
      go_wp2_with fail
      clear c0 c1 c2 c3 d0 d1
      refine (HL.out _).mono ?_
      rintro e w2 ⟨rfl, b2⟩
      replace K0 := Lib.hid (K0.out.later b2)
      replace K1 := Lib.hid (K1.out.later b2)
      replace HB := Lib.hid (below2Z HB.out b2)
      clear b2
      go_wp2_with fail
      go_ret
      exact ⟨rfl, HB.out⟩
    · rw [if_pos (by omega)] at HR
      subst HR
      have t1 : (lev == 0) = false := by rw [beq_eq_false_iff_ne]; exact h0
      clear g1 g2 h0
      go_enter Try.func43, Try.ntmps43
      go_wp2_with fail
      refine (H1.out _).mono ?_
      rintro e w1 ⟨rfl, b1⟩
      replace K0 := Lib.hid (K0.out.later b1)
      replace K1 := Lib.hid (K1.out.later b1)
      replace HB := Lib.hid (below2Z HB.out b1)
      obtain ⟨c0, c1, c2, c3⟩ := cells4P K0.out
      obtain ⟨d0, d1⟩ := cells2P K1.out
      clear b1
      go_wp2_with fail
      clear c0 c1 c2 c3 d0 d1
      refine (HL.out _).mono ?_
      rintro e w2 ⟨rfl, b2⟩
      replace K0 := Lib.hid (K0.out.later b2)
      replace K1 := Lib.hid (K1.out.later b2)
      replace HB := Lib.hid (below2Z HB.out b2)
      clear b2
      go_wp2_with fail
      go_ret
      exact ⟨rfl, HB.out⟩

end Go.Proofs.Ytnmdjkecjlpkkaa
