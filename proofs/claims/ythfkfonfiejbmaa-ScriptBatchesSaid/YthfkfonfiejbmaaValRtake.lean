/-
  THE CONTRACT OF THE DOCUMENT'S ANSWER TO Take (of a value).
-/
import Derived.Test.YthfkfonfiejbmaaValTake
namespace Go.Proofs.Ythfkfonfiejbmaa
open Go.RowKit

theorem rtake_eq32 (l : List UInt8) (hl : l.length ≤ 4294967296) (p : Nat) (w : World) {t : List UInt8} {f er : Nat} (h : Hid (vtake l p 32 = (t, f, er))) :
    Calls Try.prog 30 #[.string ⟨l.toArray⟩, .int .i64 p, .int .i64 32] w fun e w' => e = .returned (.tuple #[.string ⟨t.toArray⟩, .int .i64 f, .int .i64 er]) ∧ w = w' := rtake_eq l hl p 32 (by decide) w h

set_option maxHeartbeats 400000 in
set_option maxRecDepth 100000 in
theorem rvatake_out (l : List UInt8) (_hl : l.length ≤ 4294967296) (p : Int) (hp : p < 0 ∨ (l.length : Int) < p) (w : World) :
    Calls Try.prog 50 #[.string ⟨l.toArray⟩, .int .i64 p] w fun e w' => e = .returned (tripleW (vaTake l p)) ∧ Below w.heap.size w w' := by
  have HR : Hid (vaTake l p = (Val.zero, 0, 1)) := by show _ = _; unfold vaTake; rw [if_pos hp]
  rcases hp with h | h
  all_goals
    go_enter Try.func50, Try.ntmps50
    go_wp2_with fail
    exact bodyPost_ret (v := tripleW (Val.zero, 0, 1)) (by simp [results, Try.results50, go_sem, tripleW, valV, Val.zero]) rfl ⟨by rw [HR.out], (Below.refl _ _).alloc (Nat.le_refl _) _⟩

set_option maxHeartbeats 400000 in
set_option maxRecDepth 100000 in
theorem rvatake_cut (l : List UInt8) (_hl : l.length ≤ 4294967296) (q : Nat) (hq : q ≤ l.length) (h2 : l.length < q + 2) (w : World) :
    Calls Try.prog 50 #[.string ⟨l.toArray⟩, .int .i64 q] w fun e w' => e = .returned (tripleW (vaTake l q)) ∧ Below w.heap.size w w' := by
  have HR : Hid (vaTake l q = (Val.zero, 0, 2)) := by show _ = _; unfold vaTake; rw [if_neg (by omega), if_pos (by omega)]
  go_enter Try.func50, Try.ntmps50
  go_wp2_with fail
  exact bodyPost_ret (v := tripleW (Val.zero, 0, 2)) (by simp [results, Try.results50, go_sem, tripleW, valV, Val.zero]) rfl ⟨by rw [HR.out], (Below.refl _ _).alloc (Nat.le_refl _) _⟩

set_option maxHeartbeats 400000 in
set_option maxRecDepth 100000 in
theorem rvatake_get (l : List UInt8) (hl : l.length ≤ 4294967296) (q : Nat) (h2 : q + 2 ≤ l.length) {n f er : Nat} (hg : Hid (vget l ((q : Int) + 2) = (n, f, er))) (he : er ≠ 0) (w : World) :
    Calls Try.prog 50 #[.string ⟨l.toArray⟩, .int .i64 q] w fun e w' => e = .returned (tripleW (vaTake l q)) ∧ Below w.heap.size w w' := by
  have HR : Hid (vaTake l q = (Val.zero, 0, er)) := by show _ = _; unfold vaTake; rw [if_neg (by omega), if_neg (by omega), hg.out, if_pos he]
  have t1 : ((er : Int) != 0) = true := by simp; omega
  clear he
  go_enter Try.func50, Try.ntmps50
  go_wp2_with fail
  refine (rget_eq l hl _ _ hg).mono ?_
  rintro e w' ⟨rfl, rfl⟩
  go_wp2_with fail
  exact bodyPost_ret (v := tripleW (Val.zero, 0, er)) (by simp [results, Try.results50, go_sem, tripleW, valV, Val.zero]) rfl ⟨by rw [HR.out], (Below.refl _ _).alloc (Nat.le_refl _) _⟩

set_option maxHeartbeats 400000 in
set_option maxRecDepth 100000 in
theorem rvatake_text (l : List UInt8) (hl : l.length ≤ 4294967296) (q : Nat) (h2 : q + 2 ≤ l.length) {n f : Nat} (hg : Hid (vget l ((q : Int) + 2) = (n, f, 0))) {t : List UInt8} {k er : Nat} (ht : Hid (vtake l f 32 = (t, k, er))) (he : er ≠ 0) (w : World) :
    Calls Try.prog 50 #[.string ⟨l.toArray⟩, .int .i64 q] w fun e w' => e = .returned (tripleW (vaTake l q)) ∧ Below w.heap.size w w' := by
  have HR : Hid (vaTake l q = (Val.zero, 0, er)) := by show _ = _; unfold vaTake; rw [if_neg (by omega), if_neg (by omega), hg.out]; simp only [ne_eq, not_true_eq_false, if_false]; rw [ht.out, if_pos he]
  have t1 : ((er : Int) != 0) = true := by simp; omega
  clear he
  go_enter Try.func50, Try.ntmps50
  go_wp2_with fail
  refine (rget_eq l hl _ _ hg).mono ?_
  rintro e w' ⟨rfl, rfl⟩
  go_wp2_with fail
  refine (rtake_eq32 l hl _ _ ht).mono ?_
  rintro e w' ⟨rfl, rfl⟩
  go_wp2_with fail
  exact bodyPost_ret (v := tripleW (Val.zero, 0, er)) (by simp [results, Try.results50, go_sem, tripleW, valV, Val.zero]) rfl ⟨by rw [HR.out], (Below.refl _ _).alloc (Nat.le_refl _) _⟩

set_option maxHeartbeats 800000 in
set_option maxRecDepth 100000 in
theorem rvatake_end (l : List UInt8) (hl : l.length ≤ 4294967296) (q : Nat) (h2 : q + 2 ≤ l.length) {n f : Nat} (hg : Hid (vget l ((q : Int) + 2) = (n, f, 0))) {t : List UInt8} {k : Nat} (ht : Hid (vtake l f 32 = (t, k, 0))) (w : World) :
    Calls Try.prog 50 #[.string ⟨l.toArray⟩, .int .i64 q] w fun e w' => e = .returned (tripleW (vaTake l q)) ∧ Below w.heap.size w w' := by
  have hn := (vget_facts hg.out).1
  have hq1 : q < (⟨l.toArray⟩ : ByteArray).size := by rw [size_bytes]; omega
  have hq2 : q + 1 < (⟨l.toArray⟩ : ByteArray).size := by rw [size_bytes]; omega
  obtain ⟨x, hx⟩ : ∃ x : UInt8, (⟨l.toArray⟩ : ByteArray)[q]'hq1 = x := ⟨_, rfl⟩
  obtain ⟨y, hy⟩ : ∃ y : UInt8, (⟨l.toArray⟩ : ByteArray)[q + 1]'hq2 = y := ⟨_, rfl⟩
  have hx256 := x.toNat_lt
  have hy256 := y.toNat_lt
  have htl := (vtake_bytes ht.out).2.2.2
  have HX : Hid (l.getD q 0 = x) := by show _ = _; rw [← hx, List.getD, bytes_at l q hq1]; rfl
  have HY : Hid (l.getD (q + 1) 0 = y) := by show _ = _; rw [← hy, List.getD, bytes_at l (q + 1) hq2]; rfl
  have HTw : Hid (vaTwo l q n t = ⟨x.toNat, (y.toNat : Int) - 128, n, t⟩) := by show _ = _; unfold vaTwo; simp only [Int.toNat_natCast]; rw [HX.out, HY.out]
  have HE : Hid (vaTake l q = if vaMay ⟨x.toNat, (y.toNat : Int) - 128, n, t⟩ = false then (Val.zero, 0, 3) else (⟨x.toNat, (y.toNat : Int) - 128, n, t⟩, k, 0)) := by
    show _ = _
    unfold vaTake; rw [if_neg (by omega), if_neg (by omega), hg.out]; simp only [ne_eq, not_true_eq_false, if_false]; rw [ht.out]; simp only [not_true_eq_false, if_false]; rw [HTw.out]
  by_cases hs : n ≤ 1099511627776
  · have e1 : IntKind.i64.wrap (n : Int) = n := IntWalk.i64_in _ (by omega)
    have e2 : IntKind.i64.wrap ((y.toNat : Int) - 128) = (y.toNat : Int) - 128 := IntWalk.i64_in _ (by omega)
    have e3 : IntKind.i64.wrap ((q : Int) + 1) = (q : Int) + 1 := IntWalk.i64_in _ (by omega)
    have e4 : ((q : Int) + 1).toNat = q + 1 := by omega
    cases hm : vaMay ⟨x.toNat, (y.toNat : Int) - 128, n, t⟩ with
    | false =>
      have HR := HE.out
      rw [if_pos hm] at HR
      have HR' := Lib.hid HR
      have HM := Lib.hid (rmay_eq x.toNat ((y.toNat : Int) - 128) n t (by omega) (Lib.hid (show vaMay ⟨x.toNat, (y.toNat : Int) - 128, n, t⟩ = false from hm)))
      clear HR hm HE
      go_enter Try.func50, Try.ntmps50
      go_wp2_with fail
      refine (rget_eq l hl _ _ hg).mono ?_
      rintro e w' ⟨rfl, rfl⟩
      go_wp2_with fail
      refine (rtake_eq32 l hl _ _ ht).mono ?_
      rintro e w' ⟨rfl, rfl⟩
      go_wp2_with fail
      go_region
      go_wp2_with fail
      refine (HM.out _).mono ?_
      rintro e w1 ⟨rfl, hb1⟩
      obtain ⟨⟨q0, q1, q2, q3⟩, ⟨f0, f1, f2, f3⟩, ⟨s0, s1, s2, s3⟩, hB1⟩ := two_blocks hb1
      have HB1 := Lib.hid hB1
      clear hb1 hB1
      go_wp2_with fail
      obtain ⟨r0, r1, r2, r3⟩ := four_set w1 w.heap.size (.int .i64 0) (.int .i64 0) (.int .i64 0) (.string ⟨#[]⟩) _ _ _ _ q0 q1 q2 q3
      unfold set4 at r0 r1 r2 r3
      exact bodyPost_ret (v := tripleW (Val.zero, 0, 3)) (by simp [results, Try.results50, go_sem, tripleW, valV, Val.zero, r0, r1, r2, r3]) rfl ⟨by rw [HR'.out], set4_below HB1.out _ (Nat.le_refl _) _ _ _ _⟩
    | true =>
      have HR := HE.out
      rw [if_neg (by rw [hm]; decide)] at HR
      have HR' := Lib.hid HR
      have HM := Lib.hid (rmay_eq x.toNat ((y.toNat : Int) - 128) n t (by omega) (Lib.hid (show vaMay ⟨x.toNat, (y.toNat : Int) - 128, n, t⟩ = true from hm)))
      clear HR hm HE
      go_enter Try.func50, Try.ntmps50
      go_wp2_with fail
      refine (rget_eq l hl _ _ hg).mono ?_
      rintro e w' ⟨rfl, rfl⟩
      go_wp2_with fail
      refine (rtake_eq32 l hl _ _ ht).mono ?_
      rintro e w' ⟨rfl, rfl⟩
      go_wp2_with fail
      go_region
      go_wp2_with fail
      refine (HM.out _).mono ?_
      rintro e w1 ⟨rfl, hb1⟩
      obtain ⟨⟨q0, q1, q2, q3⟩, ⟨f0, f1, f2, f3⟩, ⟨s0, s1, s2, s3⟩, hB1⟩ := two_blocks hb1
      have HB1 := Lib.hid hB1
      clear hb1 hB1
      go_wp2_with fail
      obtain ⟨r0, r1, r2, r3⟩ := four_set w1 w.heap.size (.int .i64 x.toNat) (.int .i64 ((y.toNat : Int) - 128)) (.int .i64 n) (.string ⟨t.toArray⟩) _ _ _ _ q0 q1 q2 q3
      unfold set4 at r0 r1 r2 r3
      exact bodyPost_ret (v := tripleW (⟨x.toNat, (y.toNat : Int) - 128, n, t⟩, k, 0)) (by simp [results, Try.results50, go_sem, tripleW, valV, r0, r1, r2, r3]) rfl ⟨by rw [HR'.out], set4_below HB1.out _ (Nat.le_refl _) _ _ _ _⟩
  · have hm0 : vaMay ⟨x.toNat, (y.toNat : Int) - 128, n, t⟩ = false := by
      unfold vaMay
      rcases numsOk_cases (x.toNat : Int) ((y.toNat : Int) - 128) (n : Int) with ⟨_, h⟩ | ⟨h, _⟩
      · omega
      · simp only; rw [h]; rfl
    have HR := HE.out
    rw [if_pos hm0] at HR
    have HR' := Lib.hid HR
    have hs' : 1099511627776 < n := by omega
    clear HR hm0 HE hs
    go_enter Try.func50, Try.ntmps50
    go_wp2_with fail
    refine (rget_eq l hl _ _ hg).mono ?_
    rintro e w' ⟨rfl, rfl⟩
    go_wp2_with fail
    refine (rtake_eq32 l hl _ _ ht).mono ?_
    rintro e w' ⟨rfl, rfl⟩
    go_wp2_with fail
    exact bodyPost_ret (v := tripleW (Val.zero, 0, 3)) (by simp [results, Try.results50, go_sem, tripleW, valV, Val.zero]) rfl ⟨by rw [HR'.out], (Below.refl _ _).alloc (Nat.le_refl _) _⟩

theorem rvatake_any (l : List UInt8) (hl : l.length ≤ 4294967296) (p : Int) (w : World) :
    Calls Try.prog 50 #[.string ⟨l.toArray⟩, .int .i64 p] w fun e w' => e = .returned (tripleW (vaTake l p)) ∧ Below w.heap.size w w' := by
  by_cases hp : p < 0 ∨ (l.length : Int) < p
  · exact rvatake_out l hl p hp w
  · obtain ⟨q, rfl⟩ := Int.eq_ofNat_of_zero_le (show 0 ≤ p by omega)
    by_cases h2 : l.length < q + 2
    · exact rvatake_cut l hl q (by omega) h2 w
    · obtain ⟨n, f, er, hg⟩ : ∃ n f er, vget l ((q : Int) + 2) = (n, f, er) := ⟨_, _, _, rfl⟩
      by_cases he : er = 0
      · subst he
        obtain ⟨t, k, es, ht⟩ : ∃ t k es, vtake l f 32 = (t, k, es) := ⟨_, _, _, rfl⟩
        by_cases hes : es = 0
        · subst hes
          exact rvatake_end l hl q (by omega) (Lib.hid hg) (Lib.hid ht) w
        · exact rvatake_text l hl q (by omega) (Lib.hid hg) (Lib.hid ht) hes w
      · exact rvatake_get l hl q (by omega) (Lib.hid hg) he w

theorem rvatake_eq (l : List UInt8) (hl : l.length ≤ 4294967296) (p : Int) {a b c : Int} {t : List UInt8} {f er : Nat} (h : Hid (vaTake l p = (⟨a, b, c, t⟩, f, er))) (w : World) :
    Calls Try.prog 50 #[.string ⟨l.toArray⟩, .int .i64 p] w fun e w' => e = .returned (.tuple #[.agg #[.int .i64 a, .int .i64 b, .int .i64 c, .string ⟨t.toArray⟩], .int .i64 f, .int .i64 er]) ∧ Below w.heap.size w w' := by
  have := rvatake_any l hl p w
  rwa [h.out] at this

end Go.Proofs.Ythfkfonfiejbmaa
