/-
  TEXTS OF THE PROOF, one behind the other: FraRfew, CliDoc, CliFrs, HeldC, FrAll.
-/
import Derived.Test.YtekkofldhhdpgaaT10
import Derived.Test.YtekkofldhhdpgaaT21
import Derived.Test.YtekkofldhhdpgaaT09
import Derived.Test.YtekkofldhhdpgaaT18

section

/-
  LAYER 6, THE DOCUMENT: Few.
-/
namespace Go.Proofs.Ytekkofldhhdpgaa
open Go.RowKit

/-- Few rows, of few bytes. -/
def fewF (f : Frm) : Bool := fewT f.t && (decide (f.c.length ≤ 60) && decide (f.v.st.length ≤ 100))

set_option maxHeartbeats 800000 in
set_option maxRecDepth 100000 in
theorem fewf_eq {w : World} {v : Value} {t : List Row} (hv : Tab w v t) (k s : Int) (on : Bool) (c : List UInt8) (sh pr si : Int) (st : List UInt8) (sum : Nat) (hc : c.length ≤ maxLen) (hst : st.length ≤ maxLen)
    {r : Bool} (h : Hid (fewF ⟨k, s, on, c, ⟨sh, pr, si, st⟩, sum, t⟩ = r)) :
    Calls Try.prog 20 #[.agg #[.int .i64 k, .int .i64 s, .bool on, .string ⟨c.toArray⟩, .int .i64 sh, .int .i64 pr, .int .i64 si, .string ⟨st.toArray⟩, .int .u64 sum, v]] w fun e w' => e = .returned (.bool r) ∧ Below w.heap.size w w' := by
  unfold maxLen at hc hst
  have B0 : Hid (Below w.heap.size w (w.alloc (.cells #[.int .i64 k, .int .i64 s, .bool on, .string ⟨c.toArray⟩, .int .i64 sh, .int .i64 pr, .int .i64 si, .string ⟨st.toArray⟩, .int .u64 sum, v] 34))) := Lib.hid ((Below.refl _ _).alloc (Nat.le_refl _) _)
  have HV := Lib.hid (hv.later B0.out)
  obtain ⟨z, hz⟩ : ∃ z, fewT t = z := ⟨_, rfl⟩
  have HF := Lib.hid (fewt_eq HV.out (Lib.hid hz))
  have e := h.out
  unfold fewF at e
  simp only [hz] at e
  clear h hz hv
  cases z with
  | false =>
    obtain rfl : false = r := by simpa using e
    go_enter Try.func20, Try.ntmps20
    go_wp2_with fail
    refine HF.out.mono ?_
    rintro e w1 ⟨rfl, rfl⟩
    go_wp2_with fail
    go_ret
    exact ⟨rfl, B0.out⟩
  | true =>
    by_cases h1 : c.length ≤ 60
    · by_cases h2 : st.length ≤ 100
      · obtain rfl : true = r := by simpa [h1, h2] using e
        have t1 : decide ((c.length : Int) ≤ 60) = true := by simp; omega
        have t2 : decide ((st.length : Int) ≤ 100) = true := by simp; omega
        clear h1 h2
        go_enter Try.func20, Try.ntmps20
        go_wp2_with fail
        refine HF.out.mono ?_
        rintro e w1 ⟨rfl, rfl⟩
        go_wp2_with fail
        go_ret
        exact ⟨rfl, B0.out⟩
      · obtain rfl : false = r := by simpa [h1, h2] using e
        have t1 : decide ((c.length : Int) ≤ 60) = true := by simp; omega
        have t2 : decide ((st.length : Int) ≤ 100) = false := by simp; omega
        clear h1 h2
        go_enter Try.func20, Try.ntmps20
        go_wp2_with fail
        refine HF.out.mono ?_
        rintro e w1 ⟨rfl, rfl⟩
        go_wp2_with fail
        go_ret
        exact ⟨rfl, B0.out⟩
    · obtain rfl : false = r := by simpa [h1] using e
      have t2 : decide ((c.length : Int) ≤ 60) = false := by simp; omega
      go_enter Try.func20, Try.ntmps20
      go_wp2_with fail
      refine HF.out.mono ?_
      rintro e w1 ⟨rfl, rfl⟩
      go_wp2_with fail
      go_ret
      exact ⟨rfl, B0.out⟩

end Go.Proofs.Ytekkofldhhdpgaa

end

section

/-
  LAYER 19, THE DOCUMENT: Few, Same.
-/
namespace Go.Proofs.Ytekkofldhhdpgaa
open Go.RowKit

set_option maxHeartbeats 3200000 in
set_option maxRecDepth 100000 in
theorem clfew_eq {w : World} {v : Value} {t : List Row} (hv : Tab w v t) (n : Int) (o : Bool) {r : Bool} (h : Hid (fewT t = r)) :
    Calls Try.prog 19 #[.agg #[v, .int .i64 n, .bool o]] w fun e w' => e = .returned (.bool r) ∧ Below w.heap.size w w' := by
  obtain ⟨ca, cc, rfl, -⟩ := hv.open'
  have b0 := bl_newZ w (.cells #[.slice ca t.length cc, .int .i64 n, .bool o] 27)
  have HB := Lib.hid b0
  have VA := Lib.hid (hv.later b0)
  have CB := newQ w (.cells #[.slice ca t.length cc, .int .i64 n, .bool o] 27)
  replace CB := Lib.hid CB
  clear b0
  clear hv
  go_enter Try.func19, Try.ntmps19
  obtain ⟨⟨CBc0, CBc1, CBc2⟩, ⟨CBf0, CBf1, CBf2⟩⟩ := blk3 CB.out
  go_wp2_with fail
  clear CBc0 CBc1 CBc2 CBf0 CBf1 CBf2
  refine (fewt_eq VA.out h).mono ?_
  rintro e w' ⟨rfl, rfl⟩
  go_wp2_with fail
  go_ret
  exact ⟨rfl, HB.out⟩

set_option maxHeartbeats 3200000 in
set_option maxRecDepth 100000 in
theorem rclsame_t {w : World} {v1 v2 : Value} {t1 t2 : List Row} (hv1 : Tab w v1 t1) (hv2 : Tab w v2 t2) (n1 n2 : Int) (o1 o2 : Bool) (HR : Hid (tSame t1 t2 = false))  :
    Calls Try.prog 22 #[.agg #[v1, .int .i64 n1, .bool o1], .agg #[v2, .int .i64 n2, .bool o2]] w fun e w' => e = .returned (.bool false) ∧ Below w.heap.size w w' := by
  obtain ⟨va, ca, rfl, -⟩ := hv1.open'
  obtain ⟨vb, cb, rfl, -⟩ := hv2.open'
  have b0 := bl_newZ w (.cells #[.slice va t1.length ca, .int .i64 n1, .bool o1] 27)
  have b1 := bl_newZ (w.alloc (.cells #[.slice va t1.length ca, .int .i64 n1, .bool o1] 27)) (.cells #[.slice vb t2.length cb, .int .i64 n2, .bool o2] 27)
  have HB := Lib.hid (below2Z b0 b1)
  have VA := Lib.hid ((hv1.later b0).later b1)
  have VB := Lib.hid ((hv2.later b0).later b1)
  have CA := newQ w (.cells #[.slice va t1.length ca, .int .i64 n1, .bool o1] 27)
  replace CA := upQ CA b1
  replace CA := Lib.hid CA
  have CB := newQ (w.alloc (.cells #[.slice va t1.length ca, .int .i64 n1, .bool o1] 27)) (.cells #[.slice vb t2.length cb, .int .i64 n2, .bool o2] 27)
  rw [World.size_alloc] at CB
  replace CB := Lib.hid CB
  clear b0 b1
  clear hv1 hv2
  go_enter Try.func22, Try.ntmps22
  obtain ⟨⟨CAc0, CAc1, CAc2⟩, ⟨CAf0, CAf1, CAf2⟩⟩ := blk3 CA.out
  obtain ⟨⟨CBc0, CBc1, CBc2⟩, ⟨CBf0, CBf1, CBf2⟩⟩ := blk3 CB.out
  go_wp2_with fail
  clear CAc0 CAc1 CAc2 CAf0 CAf1 CAf2 CBc0 CBc1 CBc2 CBf0 CBf1 CBf2
  refine (tsame_eq VA.out VB.out HR).mono ?_
  rintro e w3 ⟨rfl, b3⟩
  replace CA := Lib.hid (upQ CA.out b3)
  replace CB := Lib.hid (upQ CB.out b3)
  replace VA := Lib.hid (VA.out.later b3)
  replace VB := Lib.hid (VB.out.later b3)
  replace HB := Lib.hid (below2Z HB.out b3)
  clear b3
  obtain ⟨⟨CAc0, CAc1, CAc2⟩, ⟨CAf0, CAf1, CAf2⟩⟩ := blk3 CA.out
  obtain ⟨⟨CBc0, CBc1, CBc2⟩, ⟨CBf0, CBf1, CBf2⟩⟩ := blk3 CB.out
  go_wp2_with fail
  clear CAc0 CAc1 CAc2 CAf0 CAf1 CAf2 CBc0 CBc1 CBc2 CBf0 CBf1 CBf2
  go_ret
  exact ⟨rfl, HB.out⟩

set_option maxHeartbeats 3200000 in
set_option maxRecDepth 100000 in
theorem rclsame_a {w : World} {v1 v2 : Value} {t1 t2 : List Row} (hv1 : Tab w v1 t1) (hv2 : Tab w v2 t2) (n1 n2 : Int) (o1 o2 : Bool) (HR : Hid (tSame t1 t2 = true)) (h : ¬ n1 = n2) :
    Calls Try.prog 22 #[.agg #[v1, .int .i64 n1, .bool o1], .agg #[v2, .int .i64 n2, .bool o2]] w fun e w' => e = .returned (.bool false) ∧ Below w.heap.size w w' := by
  have g1 : (n1 == n2) = false := by rw [beq_eq_false_iff_ne]; exact h
  clear h
  obtain ⟨va, ca, rfl, -⟩ := hv1.open'
  obtain ⟨vb, cb, rfl, -⟩ := hv2.open'
  have b0 := bl_newZ w (.cells #[.slice va t1.length ca, .int .i64 n1, .bool o1] 27)
  have b1 := bl_newZ (w.alloc (.cells #[.slice va t1.length ca, .int .i64 n1, .bool o1] 27)) (.cells #[.slice vb t2.length cb, .int .i64 n2, .bool o2] 27)
  have HB := Lib.hid (below2Z b0 b1)
  have VA := Lib.hid ((hv1.later b0).later b1)
  have VB := Lib.hid ((hv2.later b0).later b1)
  have CA := newQ w (.cells #[.slice va t1.length ca, .int .i64 n1, .bool o1] 27)
  replace CA := upQ CA b1
  replace CA := Lib.hid CA
  have CB := newQ (w.alloc (.cells #[.slice va t1.length ca, .int .i64 n1, .bool o1] 27)) (.cells #[.slice vb t2.length cb, .int .i64 n2, .bool o2] 27)
  rw [World.size_alloc] at CB
  replace CB := Lib.hid CB
  clear b0 b1
  clear hv1 hv2
  go_enter Try.func22, Try.ntmps22
  obtain ⟨⟨CAc0, CAc1, CAc2⟩, ⟨CAf0, CAf1, CAf2⟩⟩ := blk3 CA.out
  obtain ⟨⟨CBc0, CBc1, CBc2⟩, ⟨CBf0, CBf1, CBf2⟩⟩ := blk3 CB.out
  go_wp2_with fail
  clear CAc0 CAc1 CAc2 CAf0 CAf1 CAf2 CBc0 CBc1 CBc2 CBf0 CBf1 CBf2
  refine (tsame_eq VA.out VB.out HR).mono ?_
  rintro e w3 ⟨rfl, b3⟩
  replace CA := Lib.hid (upQ CA.out b3)
  replace CB := Lib.hid (upQ CB.out b3)
  replace VA := Lib.hid (VA.out.later b3)
  replace VB := Lib.hid (VB.out.later b3)
  replace HB := Lib.hid (below2Z HB.out b3)
  clear b3
  obtain ⟨⟨CAc0, CAc1, CAc2⟩, ⟨CAf0, CAf1, CAf2⟩⟩ := blk3 CA.out
  obtain ⟨⟨CBc0, CBc1, CBc2⟩, ⟨CBf0, CBf1, CBf2⟩⟩ := blk3 CB.out
  go_wp2_with fail
  clear CAc0 CAc1 CAc2 CAf0 CAf1 CAf2 CBc0 CBc1 CBc2 CBf0 CBf1 CBf2
  go_ret
  exact ⟨rfl, HB.out⟩

set_option maxHeartbeats 3200000 in
set_option maxRecDepth 100000 in
theorem rclsame_b {w : World} {v1 v2 : Value} {t1 t2 : List Row} (hv1 : Tab w v1 t1) (hv2 : Tab w v2 t2) (n1 n2 : Int) (o1 o2 : Bool) (HR : Hid (tSame t1 t2 = true)) (h : n1 = n2) {r : Bool} (h2 : (o1 == o2) = r) :
    Calls Try.prog 22 #[.agg #[v1, .int .i64 n1, .bool o1], .agg #[v2, .int .i64 n2, .bool o2]] w fun e w' => e = .returned (.bool r) ∧ Below w.heap.size w w' := by
  have g1 : (n1 == n2) = true := by rw [beq_iff_eq]; exact h
  clear h
  have g2 : (o1 == o2) = r := h2
  clear h2
  obtain ⟨va, ca, rfl, -⟩ := hv1.open'
  obtain ⟨vb, cb, rfl, -⟩ := hv2.open'
  have b0 := bl_newZ w (.cells #[.slice va t1.length ca, .int .i64 n1, .bool o1] 27)
  have b1 := bl_newZ (w.alloc (.cells #[.slice va t1.length ca, .int .i64 n1, .bool o1] 27)) (.cells #[.slice vb t2.length cb, .int .i64 n2, .bool o2] 27)
  have HB := Lib.hid (below2Z b0 b1)
  have VA := Lib.hid ((hv1.later b0).later b1)
  have VB := Lib.hid ((hv2.later b0).later b1)
  have CA := newQ w (.cells #[.slice va t1.length ca, .int .i64 n1, .bool o1] 27)
  replace CA := upQ CA b1
  replace CA := Lib.hid CA
  have CB := newQ (w.alloc (.cells #[.slice va t1.length ca, .int .i64 n1, .bool o1] 27)) (.cells #[.slice vb t2.length cb, .int .i64 n2, .bool o2] 27)
  rw [World.size_alloc] at CB
  replace CB := Lib.hid CB
  clear b0 b1
  clear hv1 hv2
  go_enter Try.func22, Try.ntmps22
  obtain ⟨⟨CAc0, CAc1, CAc2⟩, ⟨CAf0, CAf1, CAf2⟩⟩ := blk3 CA.out
  obtain ⟨⟨CBc0, CBc1, CBc2⟩, ⟨CBf0, CBf1, CBf2⟩⟩ := blk3 CB.out
  go_wp2_with fail
  clear CAc0 CAc1 CAc2 CAf0 CAf1 CAf2 CBc0 CBc1 CBc2 CBf0 CBf1 CBf2
  refine (tsame_eq VA.out VB.out HR).mono ?_
  rintro e w3 ⟨rfl, b3⟩
  replace CA := Lib.hid (upQ CA.out b3)
  replace CB := Lib.hid (upQ CB.out b3)
  replace VA := Lib.hid (VA.out.later b3)
  replace VB := Lib.hid (VB.out.later b3)
  replace HB := Lib.hid (below2Z HB.out b3)
  clear b3
  obtain ⟨⟨CAc0, CAc1, CAc2⟩, ⟨CAf0, CAf1, CAf2⟩⟩ := blk3 CA.out
  obtain ⟨⟨CBc0, CBc1, CBc2⟩, ⟨CBf0, CBf1, CBf2⟩⟩ := blk3 CB.out
  go_wp2_with fail
  clear CAc0 CAc1 CAc2 CAf0 CAf1 CAf2 CBc0 CBc1 CBc2 CBf0 CBf1 CBf2
  go_ret
  exact ⟨rfl, HB.out⟩

theorem rclsame_eq {w : World} {v1 v2 : Value} {t1 t2 : List Row} (hv1 : Tab w v1 t1) (hv2 : Tab w v2 t2) (n1 n2 : Int) (o1 o2 : Bool) {r : Bool} (h : Hid (clSame ⟨t1, n1, o1⟩ ⟨t2, n2, o2⟩ = r)) :
    Calls Try.prog 22 #[.agg #[v1, .int .i64 n1, .bool o1], .agg #[v2, .int .i64 n2, .bool o2]] w fun e w' => e = .returned (.bool r) ∧ Below w.heap.size w w' := by
  have h := h.out
  unfold clSame at h
  simp only at h
  cases ht : tSame t1 t2 with
  | false =>
    rw [ht, Bool.and_false, Bool.and_false] at h
    subst h
    exact rclsame_t hv1 hv2 n1 n2 o1 o2 (Lib.hid ht)
  | true =>
    by_cases h1 : n1 = n2
    · rw [ht, show decide (n1 = n2) = true from decide_eq_true h1, Bool.and_true, Bool.true_and] at h
      exact rclsame_b hv1 hv2 n1 n2 o1 o2 (Lib.hid ht) h1 h
    · rw [show decide (n1 = n2) = false from decide_eq_false h1, Bool.false_and] at h
      subst h
      exact rclsame_a hv1 hv2 n1 n2 o1 o2 (Lib.hid ht) h1

theorem fewT_len {t : List Row} (h : fewT t = true) : t.length ≤ 1000 := by
  unfold fewT at h
  simp only [Bool.and_eq_true, decide_eq_true_eq] at h
  omega

end Go.Proofs.Ytekkofldhhdpgaa

end

section

/-
  LAYER 19, THE DOCUMENT: Frames.
-/
namespace Go.Proofs.Ytekkofldhhdpgaa
open Go.RowKit

def frsFew (l : List FrS) : Bool := l.all fun p => fewF p.f

theorem frsFew_at {l : List FrS} (h : frsFew l = true) {i : Nat} (hi : i < l.length) : fewF (l.getD i FrS.zero).f = true := by
  unfold frsFew at h
  rw [List.all_eq_true] at h
  refine h _ ?_
  rw [List.getD_eq_getElem?_getD, List.getElem?_eq_getElem hi]
  exact List.getElem_mem hi

theorem frsFew_no {l : List FrS} {i : Nat} (hi : i < l.length) (h : fewF (l.getD i FrS.zero).f = false) : frsFew l = false := by
  cases hf : frsFew l with
  | false => rfl
  | true => rw [frsFew_at hf hi] at h; cases h

theorem frsFew_all {l : List FrS} (h : ∀ i, i < l.length → fewF (l.getD i FrS.zero).f = true) : frsFew l = true := by
  unfold frsFew
  rw [List.all_eq_true]
  intro p hp
  obtain ⟨i, hi, rfl⟩ := List.getElem_of_mem hp
  have := h i hi
  rwa [List.getD_eq_getElem?_getD, List.getElem?_eq_getElem hi] at this

theorem fr_at {w : World} {l : List FrS} (h : ∀ p ∈ l, FrFit w p) {i : Nat} (hi : i < l.length) : FrFit w (l.getD i FrS.zero) := by
  refine h _ ?_
  rw [List.getD_eq_getElem?_getD, List.getElem?_eq_getElem hi]
  exact List.getElem_mem hi

theorem tab_lenC {w : World} {a : Option Addr} {n cap : Nat} {t : List Row} (h : Tab w (.slice a n cap) t) : n = t.length := by
  obtain ⟨ad, c, e, _⟩ := h
  simp only [Value.slice.injEq] at e
  exact e.2.1

set_option maxHeartbeats 3200000 in
set_option maxRecDepth 100000 in
theorem clfrs_a {w : World} {v : Value} {l : List FrS} (hv : RdS frVals 10 FrS.zero w v l) (h : 30 < l.length) :
    Calls Try.prog 6 #[v, .int .i64 30] w fun e w' => e = .returned (.bool false) ∧ Below w.heap.size w w' := by
  have tA : decide ((30 : Int) < (l.length : Int)) = true := by rw [decide_eq_true_eq]; omega
  have tAb : decide (30 < l.length) = true := by rw [decide_eq_true_eq]; omega
  obtain ⟨a, cap, rfl, -⟩ := hv.open'
  go_enter Try.func6, Try.ntmps6
  go_wp2_with fail
  go_ret
  exact ⟨rfl, Below.refl _ _⟩

set_option maxHeartbeats 3200000 in
set_option maxRecDepth 100000 in
theorem clfrs_b {w : World} {v : Value} {l : List FrS} (hv : RdS frVals 10 FrS.zero w v l) (hf : ∀ p ∈ l, FrFit w p) (h : l.length ≤ 30) :
    Calls Try.prog 6 #[v, .int .i64 30] w fun e w' => e = .returned (.bool (frsFew l)) ∧ Below w.heap.size w w' := by
  have tA : decide ((30 : Int) < (l.length : Int)) = false := by rw [decide_eq_false_iff_not]; omega
  have tAb : decide (30 < l.length) = false := by rw [decide_eq_false_iff_not]; omega
  obtain ⟨a, cap, rfl, -⟩ := hv.open'
  have HV := Lib.hid hv
  have HFT := Lib.hid hf
  clear hv hf
  go_enter Try.func6, Try.ntmps6
  go_wp2_with fail
  go_loopw [5] (fun i wr => ∃ k : Nat, k ≤ l.length ∧ i = .int .i64 k ∧ Hid (∀ i, i < k → fewF (l.getD i FrS.zero).f = true) ∧ Hid (Below w.heap.size w wr)) (fun i _ => l.length - (intOf i).toNat)
  case atStart => exact ⟨0, by omega, rfl, Lib.hid (fun i hi => by omega), Lib.hid (Below.refl _ _)⟩
  case round =>
    obtain ⟨k, hk, rfl, HA, HB⟩ := hrel
    by_cases hlt : k < l.length
    · obtain ⟨b, off, rfl, hc⟩ := HV.out.row HB.out k hlt
      have hfit := fr_at HFT.out hlt
      obtain ⟨r, hr⟩ : ∃ r, fewF (l.getD k FrS.zero).f = r := ⟨_, rfl⟩
      have HR2 := Lib.hid hr
      generalize hp : l.getD k FrS.zero = p at hc hfit hr
      have HP := Lib.hid hp
      clear hp
      obtain ⟨⟨fk, fs, fon, fc, ⟨fsh, fpr, fsi, fst⟩, fsum, ft⟩, ta, tn, tc⟩ := p
      obtain ⟨⟨m1, m2, m3, m4⟩, ht⟩ := hfit
      simp only at m1 m2 m3 m4 ht hr
      have HR := Lib.hid hr
      have VT := Lib.hid (ht.later HB.out)
      clear hr ht
      have q0 : wr.cell? ⟨b, off + k * 10, none⟩ = some (.int .i64 fk) := hc 0 _ rfl
      have q1 : wr.cell? ⟨b, off + k * 10 + 1, none⟩ = some (.int .i64 fs) := hc 1 _ rfl
      have q2 : wr.cell? ⟨b, off + k * 10 + 2, none⟩ = some (.bool fon) := hc 2 _ rfl
      have q3 : wr.cell? ⟨b, off + k * 10 + 3, none⟩ = some (.string ⟨fc.toArray⟩) := hc 3 _ rfl
      have q4 : wr.cell? ⟨b, off + k * 10 + 4, none⟩ = some (.int .i64 fsh) := hc 4 _ rfl
      have q5 : wr.cell? ⟨b, off + k * 10 + 5, none⟩ = some (.int .i64 fpr) := hc 5 _ rfl
      have q6 : wr.cell? ⟨b, off + k * 10 + 6, none⟩ = some (.int .i64 fsi) := hc 6 _ rfl
      have q7 : wr.cell? ⟨b, off + k * 10 + 7, none⟩ = some (.string ⟨fst.toArray⟩) := hc 7 _ rfl
      have q8 : wr.cell? ⟨b, off + k * 10 + 8, none⟩ = some (.int .u64 fsum) := hc 8 _ rfl
      have q9 : wr.cell? ⟨b, off + k * 10 + 9, none⟩ = some (.slice ta tn tc) := hc 9 _ rfl
      clear hc
      go_wp2_with fail
      clear q0 q1 q2 q3 q4 q5 q6 q7 q8 q9
      refine (fewf_eq VT.out fk fs fon fc fsh fpr fsi fst fsum m1 m2 HR).mono ?_
      rintro e w2 ⟨rfl, b2⟩
      have HB2 := Lib.hid (below2Z HB.out b2)
      clear b2
      cases r with
      | false =>
        go_wp2_with fail
        go_ret
        exact ⟨by rw [frsFew_no hlt HR2.out]; rfl, HB2.out⟩
      | true =>
        go_wp2_with fail
        go_roundw
        case rel => exact ⟨k + 1, by omega, by go_num, Lib.hid (fun i hi => by
          by_cases h : i = k
          · rw [h]; exact HR2.out
          · exact HA.out i (by omega)), HB2⟩
        case measure => simp [intOf]; omega
    · have hall : frsFew l = true := frsFew_all fun i hi => HA.out i (by omega)
      have HALL := Lib.hid hall
      clear hall
      go_wp2_with fail
      go_ret
      exact ⟨by rw [HALL.out]; rfl, HB.out⟩

theorem clfrs_eq {w : World} {v : Value} {l : List FrS} (hv : RdS frVals 10 FrS.zero w v l) (hf : ∀ p ∈ l, FrFit w p) {r : Bool} (h : Hid ((decide (l.length ≤ 30) && frsFew l) = r)) :
    Calls Try.prog 6 #[v, .int .i64 30] w fun e w' => e = .returned (.bool r) ∧ Below w.heap.size w w' := by
  have h := h.out
  by_cases hl : l.length ≤ 30
  · rw [decide_eq_true hl, Bool.true_and] at h
    subst h
    exact clfrs_b hv hf hl
  · rw [decide_eq_false hl, Bool.false_and] at h
    subst h
    exact clfrs_a hv (by omega)

end Go.Proofs.Ytekkofldhhdpgaa

end

section

/-
  A FEW CELLS THAT A DRAWN REGION READS, KEPT THROUGH ITS CALLS: over any program.
-/
namespace Go.Proofs.Ytekkofldhhdpgaa
open Go.RowKit

/-- Cells that a drawn region reads. -/
def heldC (X : World) (cs : List (Nat × Nat × Value)) : Prop := ∀ p ∈ cs, X.cell? ⟨p.1, p.2.1, none⟩ = some p.2.2

theorem heldC_nil (X : World) : heldC X [] := fun p h => by cases h
theorem heldC_cons {X : World} {b o : Nat} {v : Value} {cs : List (Nat × Nat × Value)} (h : X.cell? ⟨b, o, none⟩ = some v) (ht : heldC X cs) : heldC X ((b, o, v) :: cs) := fun p hp => by
  rcases List.mem_cons.1 hp with rfl | hp
  · exact h
  · exact ht p hp
theorem heldC_up {W X : World} {cs : List (Nat × Nat × Value)} (hb : Below W.heap.size W X) (h : heldC W cs) : heldC X cs := fun p hp => cellLaterZ (h p hp) hb
theorem heldC_get {X : World} {cs : List (Nat × Nat × Value)} (h : heldC X cs) {b o : Nat} {v : Value} (hm : (b, o, v) ∈ cs) : X.cell? ⟨b, o, none⟩ = some v := h _ hm

end Go.Proofs.Ytekkofldhhdpgaa

end

section

/-
  LAYER 19: what the walks want of a frame of a list.
-/
namespace Go.Proofs.Ytekkofldhhdpgaa
open Go.RowKit

/-- All that a walk wants of a frame of the list. -/
theorem fr_all {w : World} {l : List FrS} (hf : ∀ p ∈ l, FrFit w p) (hfew : frsFew l = true) {i : Nat} (hi : i < l.length) {p : FrS} (hp : l.getD i FrS.zero = p) :
    Tab w p.tv p.f.t ∧ Short p.f.t ∧ p.f.t.length ≤ 1000 ∧ p.f.c.length ≤ 4294967296 ∧ p.f.v.st.length ≤ 4294967296 ∧ (Lit.int .i64 p.f.k).wf = true ∧ p.n = p.f.t.length := by
  subst hp
  have h1 := fr_at hf hi
  have h2 := frsFew_at hfew hi
  have h3 := h2
  unfold fewF at h2
  simp only [Bool.and_eq_true, decide_eq_true_eq] at h2
  exact ⟨h1.2, fewT_short h2.1, fewT_len h2.1, by omega, by omega, h1.1.2.2.2, tab_lenC h1.2⟩

end Go.Proofs.Ytekkofldhhdpgaa

end
