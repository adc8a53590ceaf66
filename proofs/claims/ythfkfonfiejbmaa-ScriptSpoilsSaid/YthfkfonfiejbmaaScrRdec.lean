/-
  LAYER 23, THE DOCUMENT: Encode, read, Decode.
-/
import Derived.Test.YthfkfonfiejbmaaScrRef
import Derived.Test.YthfkfonfiejbmaaScrDec
import Derived.Test.YthfkfonfiejbmaaValRtake
namespace Go.Proofs.Ythfkfonfiejbmaa
open Go.RowKit

set_option maxHeartbeats 1600000 in
set_option maxRecDepth 100000 in
theorem rscenc_no (k : Int) (u o st : List UInt8) (id a b c : Int) (hs : evShort ⟨k, u, o, id, ⟨a, b, c, st⟩⟩) (HM : Hid (scMay ⟨k, u, o, id, ⟨a, b, c, st⟩⟩ = false)) (w : World) :
    Calls Try.prog 27 #[.agg #[.int .i64 k, .string ⟨u.toArray⟩, .string ⟨o.toArray⟩, .int .i64 id, .int .i64 a, .int .i64 b, .int .i64 c, .string ⟨st.toArray⟩]] w fun e w' => e = .returned (.tuple #[.string ⟨#[]⟩, .int .i64 1]) ∧ Below w.heap.size w w' := by
  have HB0 := Lib.hid (bl_newZ w (.cells #[.int .i64 k, .string ⟨u.toArray⟩, .string ⟨o.toArray⟩, .int .i64 id, .int .i64 a, .int .i64 b, .int .i64 c, .string ⟨st.toArray⟩] 26))
  go_enter Try.func27, Try.ntmps27
  go_wp2_with fail
  refine (rscmay_any k u o st id a b c hs HM _).mono ?_
  rintro e w1 ⟨rfl, b1⟩
  have HB1 := Lib.hid (below2Z HB0.out b1)
  clear b1
  go_wp2_with fail
  go_ret2
  exact ⟨rfl, HB1.out⟩

theorem rscenc_any (k : Int) (u o st : List UInt8) (id a b c : Int) (hs : evShort ⟨k, u, o, id, ⟨a, b, c, st⟩⟩) {t : List UInt8} {er : Nat} (hr : Hid (scEnc ⟨k, u, o, id, ⟨a, b, c, st⟩⟩ = (t, er))) (w : World) :
    Calls Try.prog 27 #[.agg #[.int .i64 k, .string ⟨u.toArray⟩, .string ⟨o.toArray⟩, .int .i64 id, .int .i64 a, .int .i64 b, .int .i64 c, .string ⟨st.toArray⟩]] w fun e w' => e = .returned (.tuple #[.string ⟨t.toArray⟩, .int .i64 er]) ∧ Below w.heap.size w w' := by
  have e := hr.out
  cases hm : scMay ⟨k, u, o, id, ⟨a, b, c, st⟩⟩ with
  | false =>
    rw [scEnc_no hm] at e
    simp only [Prod.mk.injEq] at e
    obtain ⟨rfl, rfl⟩ := e
    exact rscenc_no k u o st id a b c hs (Lib.hid hm) w
  | true =>
    rw [scEnc_yes hm] at e
    simp only [Prod.mk.injEq] at e
    obtain ⟨rfl, rfl⟩ := e
    rcases scMay_kinds hm with ⟨k1, k6, hu, ho, hi, hv⟩ | ⟨k7, hu, ho, i0, i4, hv⟩ | ⟨k8, hu, ho, i0, i4, hv⟩
    · exact rscenc_low k u o st id a b c hs hm k1 k6 hu ho w
    · simp only at k7
      subst k7
      exact rscenc_show u o st id a b c hs hm hu i0 i4 hv w
    · simp only at k8
      subst k8
      exact rscenc_leave u o st id a b c hs hm hu i0 i4 w

set_option maxHeartbeats 1600000 in
set_option maxRecDepth 100000 in
theorem rread_nil (w : World) :
    Calls Try.prog 26 #[.string ⟨#[]⟩] w fun e w' => e = .returned (.agg #[.int .i64 0, .string ⟨#[]⟩, .string ⟨#[]⟩, .int .i64 0, .int .i64 0, .int .i64 0, .int .i64 0, .string ⟨#[]⟩]) ∧ Below w.heap.size w w' := by
  have b0 := bl_newZ w (.cells #[.int .i64 0, .string ⟨#[]⟩, .string ⟨#[]⟩, .int .i64 0, .int .i64 0, .int .i64 0, .int .i64 0, .string ⟨#[]⟩] 26)
  have HB := Lib.hid b0
  have R := newQ w (.cells #[.int .i64 0, .string ⟨#[]⟩, .string ⟨#[]⟩, .int .i64 0, .int .i64 0, .int .i64 0, .int .i64 0, .string ⟨#[]⟩] 26)
  replace R := Lib.hid R
  clear b0
  go_enter Try.func26, Try.ntmps26
  go_wp2_with fail
  refine bodyPost_ret (v := .agg #[.int .i64 0, .string ⟨#[]⟩, .string ⟨#[]⟩, .int .i64 0, .int .i64 0, .int .i64 0, .int .i64 0, .string ⟨#[]⟩]) (by simp [results, Try.results26, go_sem]) rfl ⟨rfl, ?_⟩
  exact HB.out

set_option maxHeartbeats 1600000 in
set_option maxRecDepth 100000 in
theorem rread_err (l : List UInt8) (hl : l.length ≤ 4294967296) (hne : 1 ≤ l.length) {u : List UInt8} {p er : Nat} (HU : Hid (idTake l 1 = (u, p, er))) (he : er ≠ 0) (w : World) :
    Calls Try.prog 26 #[.string ⟨l.toArray⟩] w fun e w' => e = .returned (.agg #[.int .i64 0, .string ⟨#[]⟩, .string ⟨#[]⟩, .int .i64 0, .int .i64 0, .int .i64 0, .int .i64 0, .string ⟨#[]⟩]) ∧ Below w.heap.size w w' := by
  have hnil2 : l ≠ [] := by intro h; rw [h] at hne; simp at hne
  have hnil : (l == []) = false := by cases l <;> simp at hne ⊢
  have t1 : ((er : Int) != 0) = true := by simp; omega
  clear he
  have b0 := bl_newZ w (.cells #[.int .i64 0, .string ⟨#[]⟩, .string ⟨#[]⟩, .int .i64 0, .int .i64 0, .int .i64 0, .int .i64 0, .string ⟨#[]⟩] 26)
  have HB := Lib.hid b0
  have R := newQ w (.cells #[.int .i64 0, .string ⟨#[]⟩, .string ⟨#[]⟩, .int .i64 0, .int .i64 0, .int .i64 0, .int .i64 0, .string ⟨#[]⟩] 26)
  replace R := Lib.hid R
  clear b0
  go_enter Try.func26, Try.ntmps26
  go_wp2_with fail
  refine (ridtake_eq l hl 1 HU _).mono ?_
  rintro e wp ⟨rfl, rfl⟩
  generalize w.alloc (.cells #[.int .i64 0, .string ⟨#[]⟩, .string ⟨#[]⟩, .int .i64 0, .int .i64 0, .int .i64 0, .int .i64 0, .string ⟨#[]⟩] 26) = w2 at R HB ⊢
  obtain ⟨⟨Rc0, Rc1, Rc2, Rc3, Rc4, Rc5, Rc6, Rc7⟩, ⟨Rf0, Rf1, Rf2, Rf3, Rf4, Rf5, Rf6, Rf7⟩⟩ := blk8 R.out
  go_wp2_with fail
  refine bodyPost_ret (v := .agg #[.int .i64 0, .string ⟨#[]⟩, .string ⟨#[]⟩, .int .i64 0, .int .i64 0, .int .i64 0, .int .i64 0, .string ⟨#[]⟩]) (by simp [results, Try.results26, go_sem, Rc0, Rc1, Rc2, Rc3, Rc4, Rc5, Rc6, Rc7]) rfl ⟨rfl, ?_⟩
  exact ((((((((HB.out.setCell (Nat.le_refl _) _).setCell (Nat.le_refl _) _).setCell (Nat.le_refl _) _).setCell (Nat.le_refl _) _).setCell (Nat.le_refl _) _).setCell (Nat.le_refl _) _).setCell (Nat.le_refl _) _).setCell (Nat.le_refl _) _)

set_option maxHeartbeats 1600000 in
set_option maxRecDepth 100000 in
theorem rread_low (l : List UInt8) (hl : l.length ≤ 4294967296) (hne : 1 ≤ l.length) {kb : UInt8} (hb : l.getD 0 0 = kb) {u : List UInt8} {p : Nat} (HU : Hid (idTake l 1 = (u, p, 0))) (h6 : kb.toNat ≤ 6) {o : List UInt8} {q er : Nat} (HO : Hid (idTake l p = (o, q, er))) (w : World) :
    Calls Try.prog 26 #[.string ⟨l.toArray⟩] w fun e w' => e = .returned (.agg #[.int .i64 (kb.toNat : Int), .string ⟨u.toArray⟩, .string ⟨o.toArray⟩, .int .i64 0, .int .i64 0, .int .i64 0, .int .i64 0, .string ⟨#[]⟩]) ∧ Below w.heap.size w w' := by
  have hs1 : (⟨l.toArray⟩ : ByteArray).size = l.length := size_bytes l
  have hq0 : 0 < (⟨l.toArray⟩ : ByteArray).size := by omega
  have hb0 := getD_byte l 0 (by omega) hq0
  rw [hb] at hb0
  have hk256 := kb.toNat_lt
  have hnil : (l == []) = false := by cases l <;> simp at hne ⊢
  have hnil2 : l ≠ [] := by intro h; rw [h] at hne; simp at hne
  clear hb
  have t6 : decide ((kb.toNat : Int) ≤ 6) = true := by rw [decide_eq_true_eq]; omega
  have b0 := bl_newZ w (.cells #[.int .i64 0, .string ⟨#[]⟩, .string ⟨#[]⟩, .int .i64 0, .int .i64 0, .int .i64 0, .int .i64 0, .string ⟨#[]⟩] 26)
  have HB := Lib.hid b0
  have R := newQ w (.cells #[.int .i64 0, .string ⟨#[]⟩, .string ⟨#[]⟩, .int .i64 0, .int .i64 0, .int .i64 0, .int .i64 0, .string ⟨#[]⟩] 26)
  replace R := Lib.hid R
  clear b0
  go_enter Try.func26, Try.ntmps26
  go_wp2_with fail
  refine (ridtake_eq l hl 1 HU _).mono ?_
  rintro e wp ⟨rfl, rfl⟩
  generalize w.alloc (.cells #[.int .i64 0, .string ⟨#[]⟩, .string ⟨#[]⟩, .int .i64 0, .int .i64 0, .int .i64 0, .int .i64 0, .string ⟨#[]⟩] 26) = w2 at R HB ⊢
  go_wp2_with fail
  have hRl0 := Lib.hid (Array.getElem?_eq_some_iff.1 R.out).1
  have b3 := bl_newZ w2 (.cells #[.int .i64 (kb.toNat : Int), .string ⟨u.toArray⟩, .string ⟨#[]⟩, .int .i64 0, .int .i64 0, .int .i64 0, .int .i64 0, .string ⟨#[]⟩] 26)
  have E := newQ w2 (.cells #[.int .i64 (kb.toNat : Int), .string ⟨u.toArray⟩, .string ⟨#[]⟩, .int .i64 0, .int .i64 0, .int .i64 0, .int .i64 0, .string ⟨#[]⟩] 26)
  have hE : w.heap.size ≤ w2.heap.size := HB.out.size
  replace R := Lib.hid (upQ R.out b3)
  replace HB := Lib.hid (below2Z HB.out b3)
  clear b3
  replace E := Lib.hid E
  generalize w2.alloc (.cells #[.int .i64 (kb.toNat : Int), .string ⟨u.toArray⟩, .string ⟨#[]⟩, .int .i64 0, .int .i64 0, .int .i64 0, .int .i64 0, .string ⟨#[]⟩] 26) = w4 at R E HB ⊢
  have hRE : ¬ w.heap.size = w2.heap.size := by have := hRl0.out; omega
  clear hRl0
  generalize w2.heap.size = BE at E hE hRE ⊢
  refine (ridtake_eq l hl p HO _).mono ?_
  rintro e wp ⟨rfl, rfl⟩
  obtain ⟨⟨Ec0, Ec1, Ec2, Ec3, Ec4, Ec5, Ec6, Ec7⟩, ⟨Ef0, Ef1, Ef2, Ef3, Ef4, Ef5, Ef6, Ef7⟩⟩ := blk8 E.out
  obtain ⟨⟨Rc0, Rc1, Rc2, Rc3, Rc4, Rc5, Rc6, Rc7⟩, ⟨Rf0, Rf1, Rf2, Rf3, Rf4, Rf5, Rf6, Rf7⟩⟩ := blk8 R.out
  go_wp2_with fail
  refine bodyPost_ret (v := .agg #[.int .i64 (kb.toNat : Int), .string ⟨u.toArray⟩, .string ⟨o.toArray⟩, .int .i64 0, .int .i64 0, .int .i64 0, .int .i64 0, .string ⟨#[]⟩]) (by simp [results, Try.results26, go_sem, Rc0, Rc1, Rc2, Rc3, Rc4, Rc5, Rc6, Rc7]) rfl ⟨rfl, ?_⟩
  exact (((((((((HB.out.setCell hE _).setCell (Nat.le_refl _) _).setCell (Nat.le_refl _) _).setCell (Nat.le_refl _) _).setCell (Nat.le_refl _) _).setCell (Nat.le_refl _) _).setCell (Nat.le_refl _) _).setCell (Nat.le_refl _) _).setCell (Nat.le_refl _) _)

set_option maxHeartbeats 1600000 in
set_option maxRecDepth 100000 in
theorem rread_cut (l : List UInt8) (hl : l.length ≤ 4294967296) (hne : 1 ≤ l.length) {kb : UInt8} (hb : l.getD 0 0 = kb) {u : List UInt8} {p : Nat} (HU : Hid (idTake l 1 = (u, p, 0))) (h6 : 6 < kb.toNat) (hp : l.length ≤ p) (w : World) :
    Calls Try.prog 26 #[.string ⟨l.toArray⟩] w fun e w' => e = .returned (.agg #[.int .i64 0, .string ⟨#[]⟩, .string ⟨#[]⟩, .int .i64 0, .int .i64 0, .int .i64 0, .int .i64 0, .string ⟨#[]⟩]) ∧ Below w.heap.size w w' := by
  have hs1 : (⟨l.toArray⟩ : ByteArray).size = l.length := size_bytes l
  have hq0 : 0 < (⟨l.toArray⟩ : ByteArray).size := by omega
  have hb0 := getD_byte l 0 (by omega) hq0
  rw [hb] at hb0
  have hk256 := kb.toNat_lt
  have hnil : (l == []) = false := by cases l <;> simp at hne ⊢
  have hnil2 : l ≠ [] := by intro h; rw [h] at hne; simp at hne
  clear hb
  have t6 : decide ((kb.toNat : Int) ≤ 6) = false := by rw [decide_eq_false_iff_not]; omega
  have t6b : decide (kb.toNat ≤ 6) = false := by rw [decide_eq_false_iff_not]; omega
  have t9 : decide ((l.length : Int) ≤ (p : Int)) = true := by rw [decide_eq_true_eq]; omega
  have b0 := bl_newZ w (.cells #[.int .i64 0, .string ⟨#[]⟩, .string ⟨#[]⟩, .int .i64 0, .int .i64 0, .int .i64 0, .int .i64 0, .string ⟨#[]⟩] 26)
  have HB := Lib.hid b0
  have R := newQ w (.cells #[.int .i64 0, .string ⟨#[]⟩, .string ⟨#[]⟩, .int .i64 0, .int .i64 0, .int .i64 0, .int .i64 0, .string ⟨#[]⟩] 26)
  replace R := Lib.hid R
  clear b0
  go_enter Try.func26, Try.ntmps26
  go_wp2_with fail
  refine (ridtake_eq l hl 1 HU _).mono ?_
  rintro e wp ⟨rfl, rfl⟩
  generalize w.alloc (.cells #[.int .i64 0, .string ⟨#[]⟩, .string ⟨#[]⟩, .int .i64 0, .int .i64 0, .int .i64 0, .int .i64 0, .string ⟨#[]⟩] 26) = w2 at R HB ⊢
  obtain ⟨⟨Rc0, Rc1, Rc2, Rc3, Rc4, Rc5, Rc6, Rc7⟩, ⟨Rf0, Rf1, Rf2, Rf3, Rf4, Rf5, Rf6, Rf7⟩⟩ := blk8 R.out
  have hR := (Array.getElem?_eq_some_iff.1 R.out).1
  go_wp2_with fail
  refine bodyPost_ret (v := .agg #[.int .i64 0, .string ⟨#[]⟩, .string ⟨#[]⟩, .int .i64 0, .int .i64 0, .int .i64 0, .int .i64 0, .string ⟨#[]⟩]) (by simp [results, Try.results26, go_sem, Rc0, Rc1, Rc2, Rc3, Rc4, Rc5, Rc6, Rc7, World.cell?_alloc_lt, hR]) rfl ⟨rfl, ?_⟩
  exact (((((((((HB.out.setCell (Nat.le_refl _) _).setCell (Nat.le_refl _) _).setCell (Nat.le_refl _) _).setCell (Nat.le_refl _) _).setCell (Nat.le_refl _) _).setCell (Nat.le_refl _) _).setCell (Nat.le_refl _) _).setCell (Nat.le_refl _) _)).alloc (by simp only [setCell_size]; exact HB.out.size) _

set_option maxHeartbeats 1600000 in
set_option maxRecDepth 100000 in
theorem rread_show (l : List UInt8) (hl : l.length ≤ 4294967296) (hne : 1 ≤ l.length) {kb : UInt8} (hb : l.getD 0 0 = kb) {u : List UInt8} {p : Nat} (HU : Hid (idTake l 1 = (u, p, 0))) (h7 : kb.toNat = 7) (hp : p < l.length) {x : UInt8} (hx : l.getD p 0 = x) {a b c : Int} {st : List UInt8} {q er : Nat} (HV : Hid (vaTake l ((p + 1 : Nat) : Int) = (⟨a, b, c, st⟩, q, er))) (w : World) :
    Calls Try.prog 26 #[.string ⟨l.toArray⟩] w fun e w' => e = .returned (.agg #[.int .i64 (kb.toNat : Int), .string ⟨u.toArray⟩, .string ⟨#[]⟩, .int .i64 (x.toNat : Int), .int .i64 a, .int .i64 b, .int .i64 c, .string ⟨st.toArray⟩]) ∧ Below w.heap.size w w' := by
  have hs1 : (⟨l.toArray⟩ : ByteArray).size = l.length := size_bytes l
  have hq0 : 0 < (⟨l.toArray⟩ : ByteArray).size := by omega
  have hb0 := getD_byte l 0 (by omega) hq0
  rw [hb] at hb0
  have hk256 := kb.toNat_lt
  have hnil : (l == []) = false := by cases l <;> simp at hne ⊢
  have hnil2 : l ≠ [] := by intro h; rw [h] at hne; simp at hne
  clear hb
  have hq : p < (⟨l.toArray⟩ : ByteArray).size := by rw [size_bytes]; exact hp
  have hbp := getD_byte l p hp hq
  rw [hx] at hbp
  have hx256 := x.toNat_lt
  clear hx
  have t9 : decide ((l.length : Int) ≤ (p : Int)) = false := by rw [decide_eq_false_iff_not]; omega
  have t9b : decide (l.length ≤ p) = false := by rw [decide_eq_false_iff_not]; omega
  have t6 : decide ((kb.toNat : Int) ≤ 6) = false := by rw [decide_eq_false_iff_not]; omega
  have t6b : decide (kb.toNat ≤ 6) = false := by rw [decide_eq_false_iff_not]; omega
  have t7 : ((kb.toNat : Int) == 7) = true := by rw [h7]; rfl
  have t7b : (kb.toNat == 7) = true := by rw [h7]; rfl
  clear h7
  have b0 := bl_newZ w (.cells #[.int .i64 0, .string ⟨#[]⟩, .string ⟨#[]⟩, .int .i64 0, .int .i64 0, .int .i64 0, .int .i64 0, .string ⟨#[]⟩] 26)
  have HB := Lib.hid b0
  have R := newQ w (.cells #[.int .i64 0, .string ⟨#[]⟩, .string ⟨#[]⟩, .int .i64 0, .int .i64 0, .int .i64 0, .int .i64 0, .string ⟨#[]⟩] 26)
  replace R := Lib.hid R
  clear b0
  go_enter Try.func26, Try.ntmps26
  go_wp2_with fail
  refine (ridtake_eq l hl 1 HU _).mono ?_
  rintro e wp ⟨rfl, rfl⟩
  generalize w.alloc (.cells #[.int .i64 0, .string ⟨#[]⟩, .string ⟨#[]⟩, .int .i64 0, .int .i64 0, .int .i64 0, .int .i64 0, .string ⟨#[]⟩] 26) = w2 at R HB ⊢
  go_wp2_with fail
  have hRl0 := Lib.hid (Array.getElem?_eq_some_iff.1 R.out).1
  have b3 := bl_newZ w2 (.cells #[.int .i64 (kb.toNat : Int), .string ⟨u.toArray⟩, .string ⟨#[]⟩, .int .i64 (x.toNat : Int), .int .i64 0, .int .i64 0, .int .i64 0, .string ⟨#[]⟩] 26)
  have E := newQ w2 (.cells #[.int .i64 (kb.toNat : Int), .string ⟨u.toArray⟩, .string ⟨#[]⟩, .int .i64 (x.toNat : Int), .int .i64 0, .int .i64 0, .int .i64 0, .string ⟨#[]⟩] 26)
  have hE : w.heap.size ≤ w2.heap.size := HB.out.size
  replace R := Lib.hid (upQ R.out b3)
  replace HB := Lib.hid (below2Z HB.out b3)
  clear b3
  replace E := Lib.hid E
  generalize w2.alloc (.cells #[.int .i64 (kb.toNat : Int), .string ⟨u.toArray⟩, .string ⟨#[]⟩, .int .i64 (x.toNat : Int), .int .i64 0, .int .i64 0, .int .i64 0, .string ⟨#[]⟩] 26) = w4 at R E HB ⊢
  have hRE : ¬ w.heap.size = w2.heap.size := by have := hRl0.out; omega
  clear hRl0
  generalize w2.heap.size = BE at E hE hRE ⊢
  refine (rvatake_eq l hl ((p + 1 : Nat) : Int) HV _).mono ?_
  rintro e w5 ⟨rfl, b5⟩
  replace R := Lib.hid (upQ R.out b5)
  replace E := Lib.hid (upQ E.out b5)
  replace HB := Lib.hid (below2Z HB.out b5)
  clear b5
  obtain ⟨⟨Ec0, Ec1, Ec2, Ec3, Ec4, Ec5, Ec6, Ec7⟩, ⟨Ef0, Ef1, Ef2, Ef3, Ef4, Ef5, Ef6, Ef7⟩⟩ := blk8 E.out
  obtain ⟨⟨Rc0, Rc1, Rc2, Rc3, Rc4, Rc5, Rc6, Rc7⟩, ⟨Rf0, Rf1, Rf2, Rf3, Rf4, Rf5, Rf6, Rf7⟩⟩ := blk8 R.out
  go_wp2_with fail
  refine bodyPost_ret (v := .agg #[.int .i64 (kb.toNat : Int), .string ⟨u.toArray⟩, .string ⟨#[]⟩, .int .i64 (x.toNat : Int), .int .i64 a, .int .i64 b, .int .i64 c, .string ⟨st.toArray⟩]) (by simp [results, Try.results26, go_sem, Rc0, Rc1, Rc2, Rc3, Rc4, Rc5, Rc6, Rc7]) rfl ⟨rfl, ?_⟩
  exact ((((((((((((HB.out.setCell hE _).setCell hE _).setCell hE _).setCell hE _).setCell (Nat.le_refl _) _).setCell (Nat.le_refl _) _).setCell (Nat.le_refl _) _).setCell (Nat.le_refl _) _).setCell (Nat.le_refl _) _).setCell (Nat.le_refl _) _).setCell (Nat.le_refl _) _).setCell (Nat.le_refl _) _)

set_option maxHeartbeats 1600000 in
set_option maxRecDepth 100000 in
theorem rread_other (l : List UInt8) (hl : l.length ≤ 4294967296) (hne : 1 ≤ l.length) {kb : UInt8} (hb : l.getD 0 0 = kb) {u : List UInt8} {p : Nat} (HU : Hid (idTake l 1 = (u, p, 0))) (h6 : 6 < kb.toNat) (h7 : ¬ kb.toNat = 7) (hp : p < l.length) {x : UInt8} (hx : l.getD p 0 = x) (w : World) :
    Calls Try.prog 26 #[.string ⟨l.toArray⟩] w fun e w' => e = .returned (.agg #[.int .i64 (kb.toNat : Int), .string ⟨u.toArray⟩, .string ⟨#[]⟩, .int .i64 (x.toNat : Int), .int .i64 0, .int .i64 0, .int .i64 0, .string ⟨#[]⟩]) ∧ Below w.heap.size w w' := by
  have hs1 : (⟨l.toArray⟩ : ByteArray).size = l.length := size_bytes l
  have hq0 : 0 < (⟨l.toArray⟩ : ByteArray).size := by omega
  have hb0 := getD_byte l 0 (by omega) hq0
  rw [hb] at hb0
  have hk256 := kb.toNat_lt
  have hnil : (l == []) = false := by cases l <;> simp at hne ⊢
  have hnil2 : l ≠ [] := by intro h; rw [h] at hne; simp at hne
  clear hb
  have hq : p < (⟨l.toArray⟩ : ByteArray).size := by rw [size_bytes]; exact hp
  have hbp := getD_byte l p hp hq
  rw [hx] at hbp
  have hx256 := x.toNat_lt
  clear hx
  have t6 : decide ((kb.toNat : Int) ≤ 6) = false := by rw [decide_eq_false_iff_not]; omega
  have t6b : decide (kb.toNat ≤ 6) = false := by rw [decide_eq_false_iff_not]; omega
  have t9 : decide ((l.length : Int) ≤ (p : Int)) = false := by rw [decide_eq_false_iff_not]; omega
  have t9b : decide (l.length ≤ p) = false := by rw [decide_eq_false_iff_not]; omega
  have t7 : ((kb.toNat : Int) == 7) = false := by simp; omega
  have t7b : (kb.toNat == 7) = false := by simp; omega
  clear h7
  have b0 := bl_newZ w (.cells #[.int .i64 0, .string ⟨#[]⟩, .string ⟨#[]⟩, .int .i64 0, .int .i64 0, .int .i64 0, .int .i64 0, .string ⟨#[]⟩] 26)
  have HB := Lib.hid b0
  have R := newQ w (.cells #[.int .i64 0, .string ⟨#[]⟩, .string ⟨#[]⟩, .int .i64 0, .int .i64 0, .int .i64 0, .int .i64 0, .string ⟨#[]⟩] 26)
  replace R := Lib.hid R
  clear b0
  go_enter Try.func26, Try.ntmps26
  go_wp2_with fail
  refine (ridtake_eq l hl 1 HU _).mono ?_
  rintro e wp ⟨rfl, rfl⟩
  generalize w.alloc (.cells #[.int .i64 0, .string ⟨#[]⟩, .string ⟨#[]⟩, .int .i64 0, .int .i64 0, .int .i64 0, .int .i64 0, .string ⟨#[]⟩] 26) = w2 at R HB ⊢
  obtain ⟨⟨Rc0, Rc1, Rc2, Rc3, Rc4, Rc5, Rc6, Rc7⟩, ⟨Rf0, Rf1, Rf2, Rf3, Rf4, Rf5, Rf6, Rf7⟩⟩ := blk8 R.out
  have hR := (Array.getElem?_eq_some_iff.1 R.out).1
  go_wp2_with fail
  refine bodyPost_ret (v := .agg #[.int .i64 (kb.toNat : Int), .string ⟨u.toArray⟩, .string ⟨#[]⟩, .int .i64 (x.toNat : Int), .int .i64 0, .int .i64 0, .int .i64 0, .string ⟨#[]⟩]) (by simp [results, Try.results26, go_sem, Rc0, Rc1, Rc2, Rc3, Rc4, Rc5, Rc6, Rc7, World.cell?_alloc_lt, hR]) rfl ⟨rfl, ?_⟩
  exact (((((((((HB.out.setCell (Nat.le_refl _) _).setCell (Nat.le_refl _) _).setCell (Nat.le_refl _) _).setCell (Nat.le_refl _) _).setCell (Nat.le_refl _) _).setCell (Nat.le_refl _) _).setCell (Nat.le_refl _) _).setCell (Nat.le_refl _) _)).alloc (by simp only [setCell_size]; exact HB.out.size) _

theorem evo_inj {k k' id id' a b c a' b' c' : Int} {u u' o o' st st' : List UInt8} (h : (⟨k, u, o, id, ⟨a, b, c, st⟩⟩ : Ev) = ⟨k', u', o', id', ⟨a', b', c', st'⟩⟩) : k = k' ∧ u = u' ∧ o = o' ∧ id = id' ∧ a = a' ∧ b = b' ∧ c = c' ∧ st = st' := by
  simp only [Ev.mk.injEq, Val.mk.injEq] at h
  exact h

theorem rread_any (l : List UInt8) (hl : l.length ≤ 4294967296) {k id a b c : Int} {u o st : List UInt8} (h : Hid (scRead l = ⟨k, u, o, id, ⟨a, b, c, st⟩⟩)) (w : World) :
    Calls Try.prog 26 #[.string ⟨l.toArray⟩] w fun e w' => e = .returned (.agg #[.int .i64 k, .string ⟨u.toArray⟩, .string ⟨o.toArray⟩, .int .i64 id, .int .i64 a, .int .i64 b, .int .i64 c, .string ⟨st.toArray⟩]) ∧ Below w.heap.size w w' := by
  have e := h.out
  clear h
  by_cases hn : l = []
  · subst hn
    obtain ⟨rfl, rfl, rfl, rfl, rfl, rfl, rfl, rfl⟩ := evo_inj (show (⟨0, [], [], 0, ⟨0, 0, 0, []⟩⟩ : Ev) = _ from e)
    exact rread_nil w
  have hne : 1 ≤ l.length := List.length_pos_iff.2 hn
  unfold scRead at e
  rw [if_neg hn] at e
  obtain ⟨u0, p, er, hu⟩ : ∃ u p er, idTake l 1 = (u, p, er) := ⟨_, _, _, rfl⟩
  rw [hu] at e
  by_cases he : er = 0
  case neg =>
    rw [if_pos (by simpa using he)] at e
    obtain ⟨rfl, rfl, rfl, rfl, rfl, rfl, rfl, rfl⟩ := evo_inj (show (⟨0, [], [], 0, ⟨0, 0, 0, []⟩⟩ : Ev) = _ from e)
    exact rread_err l hl hne (Lib.hid hu) he w
  subst he
  rw [if_neg (by simp)] at e
  obtain ⟨kb, hb⟩ : ∃ kb, l.getD 0 0 = kb := ⟨_, rfl⟩
  rw [hb] at e
  have HU := Lib.hid hu
  by_cases h6 : kb.toNat ≤ 6
  · rw [if_pos h6] at e
    obtain ⟨o0, q, er, ho⟩ : ∃ o q er, idTake l p = (o, q, er) := ⟨_, _, _, rfl⟩
    simp only at e
    rw [ho] at e
    obtain ⟨rfl, rfl, rfl, rfl, rfl, rfl, rfl, rfl⟩ := evo_inj (show (⟨(kb.toNat : Int), u0, o0, 0, ⟨0, 0, 0, []⟩⟩ : Ev) = _ from e)
    exact rread_low l hl hne hb HU h6 (Lib.hid ho) w
  rw [if_neg h6] at e
  by_cases hp : l.length ≤ p
  · rw [if_pos hp] at e
    obtain ⟨rfl, rfl, rfl, rfl, rfl, rfl, rfl, rfl⟩ := evo_inj (show (⟨0, [], [], 0, ⟨0, 0, 0, []⟩⟩ : Ev) = _ from e)
    exact rread_cut l hl hne hb HU (by omega) hp w
  rw [if_neg hp] at e
  by_cases h7 : kb.toNat = 7
  · rw [if_pos h7] at e
    obtain ⟨⟨a0, b0, c0, s0⟩, q, er, hv⟩ : ∃ v q er, vaTake l ((p + 1 : Nat) : Int) = (v, q, er) := ⟨_, _, _, rfl⟩
    simp only at e
    rw [hv] at e
    obtain ⟨rfl, rfl, rfl, rfl, rfl, rfl, rfl, rfl⟩ := evo_inj (show (⟨(kb.toNat : Int), u0, [], ((l.getD p 0).toNat : Int), ⟨a0, b0, c0, s0⟩⟩ : Ev) = _ from e)
    exact rread_show l hl hne hb HU h7 (by omega) rfl (Lib.hid hv) w
  · rw [if_neg h7] at e
    obtain ⟨rfl, rfl, rfl, rfl, rfl, rfl, rfl, rfl⟩ := evo_inj (show (⟨(kb.toNat : Int), u0, [], ((l.getD p 0).toNat : Int), ⟨0, 0, 0, []⟩⟩ : Ev) = _ from e)
    exact rread_other l hl hne hb HU (by omega) h7 (by omega) rfl w

theorem scRead_short {l : List UInt8} (hl : l.length ≤ 4294967296) : evShort (scRead l) := by
  have hz : evShort Ev.zero := ⟨by simp [Ev.zero], by simp [Ev.zero], by simp [Ev.zero, Val.zero]⟩
  have hu := idTake_short (l := l) (p := 1) rfl
  unfold scRead
  split
  · exact hz
  split
  · exact hz
  split
  · exact ⟨Nat.le_trans hu hl, Nat.le_trans (idTake_short (l := l) (p := ((idTake l 1).2.1 : Int)) rfl) hl, by simp [Val.zero]⟩
  split
  · exact hz
  · refine ⟨Nat.le_trans hu hl, by simp, ?_⟩
    simp only
    split
    · exact Nat.le_trans (vaTake_short (l := l) (p := (((idTake l 1).2.1 + 1 : Nat) : Int)) rfl) hl
    · simp [Val.zero]

theorem ropen_eq (l : List UInt8) (hl : l.length ≤ 4294967296) {t : List UInt8} {er : Nat} (h : Hid (copen l = (t, er))) (w : World) :
    Calls Try.prog 25 #[.string ⟨l.toArray⟩] w fun e w' => e = .returned (.tuple #[.string ⟨t.toArray⟩, .int .i64 er]) ∧ Below w.heap.size w w' := by
  have := ropen_any l hl w
  rw [h.out] at this
  exact this

set_option maxHeartbeats 1600000 in
set_option maxRecDepth 100000 in
theorem rscdec_err (s : List UInt8) (hl : s.length ≤ 4294967296) {t : List UInt8} {er : Nat} (HT : Hid (copen s = (t, er))) (he : er ≠ 0) (w : World) :
    Calls Try.prog 10 #[.string ⟨s.toArray⟩] w fun e w' => e = .returned (.tuple #[.agg #[.int .i64 0, .string ⟨#[]⟩, .string ⟨#[]⟩, .int .i64 0, .int .i64 0, .int .i64 0, .int .i64 0, .string ⟨#[]⟩], .int .i64 er]) ∧ Below w.heap.size w w' := by
  have t1 : ((er : Int) != 0) = true := by simp; omega
  clear he
  have b0 := bl_newZ w (.cells #[.int .i64 0, .string ⟨#[]⟩, .string ⟨#[]⟩, .int .i64 0, .int .i64 0, .int .i64 0, .int .i64 0, .string ⟨#[]⟩] 26)
  have HB := Lib.hid b0
  have R := newQ w (.cells #[.int .i64 0, .string ⟨#[]⟩, .string ⟨#[]⟩, .int .i64 0, .int .i64 0, .int .i64 0, .int .i64 0, .string ⟨#[]⟩] 26)
  replace R := Lib.hid R
  clear b0
  go_enter Try.func10, Try.ntmps10
  go_wp2_with fail
  refine (ropen_eq s hl HT _).mono ?_
  rintro e w2 ⟨rfl, b2⟩
  replace R := Lib.hid (upQ R.out b2)
  replace HB := Lib.hid (below2Z HB.out b2)
  clear b2
  obtain ⟨⟨Rc0, Rc1, Rc2, Rc3, Rc4, Rc5, Rc6, Rc7⟩, ⟨Rf0, Rf1, Rf2, Rf3, Rf4, Rf5, Rf6, Rf7⟩⟩ := blk8 R.out
  go_wp2_with fail
  refine bodyPost_ret (v := .tuple #[.agg #[.int .i64 0, .string ⟨#[]⟩, .string ⟨#[]⟩, .int .i64 0, .int .i64 0, .int .i64 0, .int .i64 0, .string ⟨#[]⟩], .int .i64 er]) (by simp [results, Try.results10, go_sem, Rc0, Rc1, Rc2, Rc3, Rc4, Rc5, Rc6, Rc7]) rfl ⟨rfl, ?_⟩
  exact ((((((((HB.out.setCell (Nat.le_refl _) _).setCell (Nat.le_refl _) _).setCell (Nat.le_refl _) _).setCell (Nat.le_refl _) _).setCell (Nat.le_refl _) _).setCell (Nat.le_refl _) _).setCell (Nat.le_refl _) _).setCell (Nat.le_refl _) _)

set_option maxHeartbeats 1600000 in
set_option maxRecDepth 100000 in
theorem rscdec_bad (s : List UInt8) (hl : s.length ≤ 4294967296) {t : List UInt8} (HT : Hid (copen s = (t, 0))) (htl : t.length ≤ 4294967296) {k id a b c : Int} {u o st : List UInt8} (HE : Hid (scRead t = ⟨k, u, o, id, ⟨a, b, c, st⟩⟩)) (hsh : evShort ⟨k, u, o, id, ⟨a, b, c, st⟩⟩) {x : List UInt8} {er : Nat} (HX : Hid (scEnc ⟨k, u, o, id, ⟨a, b, c, st⟩⟩ = (x, er))) (he : er ≠ 0) (w : World) :
    Calls Try.prog 10 #[.string ⟨s.toArray⟩] w fun e w' => e = .returned (.tuple #[.agg #[.int .i64 0, .string ⟨#[]⟩, .string ⟨#[]⟩, .int .i64 0, .int .i64 0, .int .i64 0, .int .i64 0, .string ⟨#[]⟩], .int .i64 3]) ∧ Below w.heap.size w w' := by
  have t1 : ((er : Int) != 0) = true := by simp; omega
  clear he
  have b0 := bl_newZ w (.cells #[.int .i64 0, .string ⟨#[]⟩, .string ⟨#[]⟩, .int .i64 0, .int .i64 0, .int .i64 0, .int .i64 0, .string ⟨#[]⟩] 26)
  have HB := Lib.hid b0
  have R := newQ w (.cells #[.int .i64 0, .string ⟨#[]⟩, .string ⟨#[]⟩, .int .i64 0, .int .i64 0, .int .i64 0, .int .i64 0, .string ⟨#[]⟩] 26)
  replace R := Lib.hid R
  clear b0
  go_enter Try.func10, Try.ntmps10
  go_wp2_with fail
  refine (ropen_eq s hl HT _).mono ?_
  rintro e w2 ⟨rfl, b2⟩
  replace R := Lib.hid (upQ R.out b2)
  replace HB := Lib.hid (below2Z HB.out b2)
  clear b2
  go_wp2_with fail
  refine (rread_any t htl HE _).mono ?_
  rintro e w3 ⟨rfl, b3⟩
  replace R := Lib.hid (upQ R.out b3)
  replace HB := Lib.hid (below2Z HB.out b3)
  clear b3
  go_wp2_with fail
  have hRl0 := Lib.hid (Array.getElem?_eq_some_iff.1 R.out).1
  have b4 := bl_newZ w3 (.cells #[.int .i64 k, .string ⟨u.toArray⟩, .string ⟨o.toArray⟩, .int .i64 id, .int .i64 a, .int .i64 b, .int .i64 c, .string ⟨st.toArray⟩] 26)
  have E := newQ w3 (.cells #[.int .i64 k, .string ⟨u.toArray⟩, .string ⟨o.toArray⟩, .int .i64 id, .int .i64 a, .int .i64 b, .int .i64 c, .string ⟨st.toArray⟩] 26)
  have hE : w.heap.size ≤ w3.heap.size := HB.out.size
  replace R := Lib.hid (upQ R.out b4)
  replace HB := Lib.hid (below2Z HB.out b4)
  clear b4
  replace E := Lib.hid E
  generalize w3.alloc (.cells #[.int .i64 k, .string ⟨u.toArray⟩, .string ⟨o.toArray⟩, .int .i64 id, .int .i64 a, .int .i64 b, .int .i64 c, .string ⟨st.toArray⟩] 26) = w5 at R E HB ⊢
  have hRE : ¬ w.heap.size = w3.heap.size := by have := hRl0.out; omega
  clear hRl0
  generalize w3.heap.size = BE at E hE hRE ⊢
  obtain ⟨⟨Ec0, Ec1, Ec2, Ec3, Ec4, Ec5, Ec6, Ec7⟩, ⟨Ef0, Ef1, Ef2, Ef3, Ef4, Ef5, Ef6, Ef7⟩⟩ := blk8 E.out
  clear Ec0 Ec1 Ec2 Ec3 Ec4 Ec5 Ec6 Ec7 Ef0 Ef1 Ef2 Ef3 Ef4 Ef5 Ef6 Ef7
  refine (rscenc_any k u o st id a b c hsh HX _).mono ?_
  rintro e w6 ⟨rfl, b6⟩
  replace R := Lib.hid (upQ R.out b6)
  replace E := Lib.hid (upQ E.out b6)
  replace HB := Lib.hid (below2Z HB.out b6)
  clear b6
  obtain ⟨⟨Ec0, Ec1, Ec2, Ec3, Ec4, Ec5, Ec6, Ec7⟩, ⟨Ef0, Ef1, Ef2, Ef3, Ef4, Ef5, Ef6, Ef7⟩⟩ := blk8 E.out
  obtain ⟨⟨Rc0, Rc1, Rc2, Rc3, Rc4, Rc5, Rc6, Rc7⟩, ⟨Rf0, Rf1, Rf2, Rf3, Rf4, Rf5, Rf6, Rf7⟩⟩ := blk8 R.out
  go_wp2_with fail
  refine bodyPost_ret (v := .tuple #[.agg #[.int .i64 0, .string ⟨#[]⟩, .string ⟨#[]⟩, .int .i64 0, .int .i64 0, .int .i64 0, .int .i64 0, .string ⟨#[]⟩], .int .i64 3]) (by simp [results, Try.results10, go_sem, Rc0, Rc1, Rc2, Rc3, Rc4, Rc5, Rc6, Rc7]) rfl ⟨rfl, ?_⟩
  exact ((((((((HB.out.setCell (Nat.le_refl _) _).setCell (Nat.le_refl _) _).setCell (Nat.le_refl _) _).setCell (Nat.le_refl _) _).setCell (Nat.le_refl _) _).setCell (Nat.le_refl _) _).setCell (Nat.le_refl _) _).setCell (Nat.le_refl _) _)

set_option maxHeartbeats 1600000 in
set_option maxRecDepth 100000 in
theorem rscdec_unlike (s : List UInt8) (hl : s.length ≤ 4294967296) {t : List UInt8} (HT : Hid (copen s = (t, 0))) (htl : t.length ≤ 4294967296) {k id a b c : Int} {u o st : List UInt8} (HE : Hid (scRead t = ⟨k, u, o, id, ⟨a, b, c, st⟩⟩)) (hsh : evShort ⟨k, u, o, id, ⟨a, b, c, st⟩⟩) {x : List UInt8} (HX : Hid (scEnc ⟨k, u, o, id, ⟨a, b, c, st⟩⟩ = (x, 0))) (hx : ¬ x = s) (w : World) :
    Calls Try.prog 10 #[.string ⟨s.toArray⟩] w fun e w' => e = .returned (.tuple #[.agg #[.int .i64 0, .string ⟨#[]⟩, .string ⟨#[]⟩, .int .i64 0, .int .i64 0, .int .i64 0, .int .i64 0, .string ⟨#[]⟩], .int .i64 3]) ∧ Below w.heap.size w w' := by
  have t2 : (x == s) = false := by simpa using hx
  have t3 : (x != s) = true := by simpa using hx
  clear hx
  have b0 := bl_newZ w (.cells #[.int .i64 0, .string ⟨#[]⟩, .string ⟨#[]⟩, .int .i64 0, .int .i64 0, .int .i64 0, .int .i64 0, .string ⟨#[]⟩] 26)
  have HB := Lib.hid b0
  have R := newQ w (.cells #[.int .i64 0, .string ⟨#[]⟩, .string ⟨#[]⟩, .int .i64 0, .int .i64 0, .int .i64 0, .int .i64 0, .string ⟨#[]⟩] 26)
  replace R := Lib.hid R
  clear b0
  go_enter Try.func10, Try.ntmps10
  go_wp2_with fail
  refine (ropen_eq s hl HT _).mono ?_
  rintro e w2 ⟨rfl, b2⟩
  replace R := Lib.hid (upQ R.out b2)
  replace HB := Lib.hid (below2Z HB.out b2)
  clear b2
  go_wp2_with fail
  refine (rread_any t htl HE _).mono ?_
  rintro e w3 ⟨rfl, b3⟩
  replace R := Lib.hid (upQ R.out b3)
  replace HB := Lib.hid (below2Z HB.out b3)
  clear b3
  go_wp2_with fail
  have hRl0 := Lib.hid (Array.getElem?_eq_some_iff.1 R.out).1
  have b4 := bl_newZ w3 (.cells #[.int .i64 k, .string ⟨u.toArray⟩, .string ⟨o.toArray⟩, .int .i64 id, .int .i64 a, .int .i64 b, .int .i64 c, .string ⟨st.toArray⟩] 26)
  have E := newQ w3 (.cells #[.int .i64 k, .string ⟨u.toArray⟩, .string ⟨o.toArray⟩, .int .i64 id, .int .i64 a, .int .i64 b, .int .i64 c, .string ⟨st.toArray⟩] 26)
  have hE : w.heap.size ≤ w3.heap.size := HB.out.size
  replace R := Lib.hid (upQ R.out b4)
  replace HB := Lib.hid (below2Z HB.out b4)
  clear b4
  replace E := Lib.hid E
  generalize w3.alloc (.cells #[.int .i64 k, .string ⟨u.toArray⟩, .string ⟨o.toArray⟩, .int .i64 id, .int .i64 a, .int .i64 b, .int .i64 c, .string ⟨st.toArray⟩] 26) = w5 at R E HB ⊢
  have hRE : ¬ w.heap.size = w3.heap.size := by have := hRl0.out; omega
  clear hRl0
  generalize w3.heap.size = BE at E hE hRE ⊢
  obtain ⟨⟨Ec0, Ec1, Ec2, Ec3, Ec4, Ec5, Ec6, Ec7⟩, ⟨Ef0, Ef1, Ef2, Ef3, Ef4, Ef5, Ef6, Ef7⟩⟩ := blk8 E.out
  clear Ec0 Ec1 Ec2 Ec3 Ec4 Ec5 Ec6 Ec7 Ef0 Ef1 Ef2 Ef3 Ef4 Ef5 Ef6 Ef7
  refine (rscenc_any k u o st id a b c hsh HX _).mono ?_
  rintro e w6 ⟨rfl, b6⟩
  replace R := Lib.hid (upQ R.out b6)
  replace E := Lib.hid (upQ E.out b6)
  replace HB := Lib.hid (below2Z HB.out b6)
  clear b6
  obtain ⟨⟨Ec0, Ec1, Ec2, Ec3, Ec4, Ec5, Ec6, Ec7⟩, ⟨Ef0, Ef1, Ef2, Ef3, Ef4, Ef5, Ef6, Ef7⟩⟩ := blk8 E.out
  obtain ⟨⟨Rc0, Rc1, Rc2, Rc3, Rc4, Rc5, Rc6, Rc7⟩, ⟨Rf0, Rf1, Rf2, Rf3, Rf4, Rf5, Rf6, Rf7⟩⟩ := blk8 R.out
  go_wp2_with fail
  refine bodyPost_ret (v := .tuple #[.agg #[.int .i64 0, .string ⟨#[]⟩, .string ⟨#[]⟩, .int .i64 0, .int .i64 0, .int .i64 0, .int .i64 0, .string ⟨#[]⟩], .int .i64 3]) (by simp [results, Try.results10, go_sem, Rc0, Rc1, Rc2, Rc3, Rc4, Rc5, Rc6, Rc7]) rfl ⟨rfl, ?_⟩
  exact ((((((((HB.out.setCell (Nat.le_refl _) _).setCell (Nat.le_refl _) _).setCell (Nat.le_refl _) _).setCell (Nat.le_refl _) _).setCell (Nat.le_refl _) _).setCell (Nat.le_refl _) _).setCell (Nat.le_refl _) _).setCell (Nat.le_refl _) _)

set_option maxHeartbeats 1600000 in
set_option maxRecDepth 100000 in
theorem rscdec_ok (s : List UInt8) (hl : s.length ≤ 4294967296) {t : List UInt8} (HT : Hid (copen s = (t, 0))) (htl : t.length ≤ 4294967296) {k id a b c : Int} {u o st : List UInt8} (HE : Hid (scRead t = ⟨k, u, o, id, ⟨a, b, c, st⟩⟩)) (hsh : evShort ⟨k, u, o, id, ⟨a, b, c, st⟩⟩) (HX : Hid (scEnc ⟨k, u, o, id, ⟨a, b, c, st⟩⟩ = (s, 0))) (w : World) :
    Calls Try.prog 10 #[.string ⟨s.toArray⟩] w fun e w' => e = .returned (.tuple #[.agg #[.int .i64 k, .string ⟨u.toArray⟩, .string ⟨o.toArray⟩, .int .i64 id, .int .i64 a, .int .i64 b, .int .i64 c, .string ⟨st.toArray⟩], .int .i64 0]) ∧ Below w.heap.size w w' := by
  have b0 := bl_newZ w (.cells #[.int .i64 0, .string ⟨#[]⟩, .string ⟨#[]⟩, .int .i64 0, .int .i64 0, .int .i64 0, .int .i64 0, .string ⟨#[]⟩] 26)
  have HB := Lib.hid b0
  have R := newQ w (.cells #[.int .i64 0, .string ⟨#[]⟩, .string ⟨#[]⟩, .int .i64 0, .int .i64 0, .int .i64 0, .int .i64 0, .string ⟨#[]⟩] 26)
  replace R := Lib.hid R
  clear b0
  go_enter Try.func10, Try.ntmps10
  go_wp2_with fail
  refine (ropen_eq s hl HT _).mono ?_
  rintro e w2 ⟨rfl, b2⟩
  replace R := Lib.hid (upQ R.out b2)
  replace HB := Lib.hid (below2Z HB.out b2)
  clear b2
  go_wp2_with fail
  refine (rread_any t htl HE _).mono ?_
  rintro e w3 ⟨rfl, b3⟩
  replace R := Lib.hid (upQ R.out b3)
  replace HB := Lib.hid (below2Z HB.out b3)
  clear b3
  go_wp2_with fail
  have hRl0 := Lib.hid (Array.getElem?_eq_some_iff.1 R.out).1
  have b4 := bl_newZ w3 (.cells #[.int .i64 k, .string ⟨u.toArray⟩, .string ⟨o.toArray⟩, .int .i64 id, .int .i64 a, .int .i64 b, .int .i64 c, .string ⟨st.toArray⟩] 26)
  have E := newQ w3 (.cells #[.int .i64 k, .string ⟨u.toArray⟩, .string ⟨o.toArray⟩, .int .i64 id, .int .i64 a, .int .i64 b, .int .i64 c, .string ⟨st.toArray⟩] 26)
  have hE : w.heap.size ≤ w3.heap.size := HB.out.size
  replace R := Lib.hid (upQ R.out b4)
  replace HB := Lib.hid (below2Z HB.out b4)
  clear b4
  replace E := Lib.hid E
  generalize w3.alloc (.cells #[.int .i64 k, .string ⟨u.toArray⟩, .string ⟨o.toArray⟩, .int .i64 id, .int .i64 a, .int .i64 b, .int .i64 c, .string ⟨st.toArray⟩] 26) = w5 at R E HB ⊢
  have hRE : ¬ w.heap.size = w3.heap.size := by have := hRl0.out; omega
  clear hRl0
  generalize w3.heap.size = BE at E hE hRE ⊢
  obtain ⟨⟨Ec0, Ec1, Ec2, Ec3, Ec4, Ec5, Ec6, Ec7⟩, ⟨Ef0, Ef1, Ef2, Ef3, Ef4, Ef5, Ef6, Ef7⟩⟩ := blk8 E.out
  clear Ec0 Ec1 Ec2 Ec3 Ec4 Ec5 Ec6 Ec7 Ef0 Ef1 Ef2 Ef3 Ef4 Ef5 Ef6 Ef7
  refine (rscenc_any k u o st id a b c hsh HX _).mono ?_
  rintro e w6 ⟨rfl, b6⟩
  replace R := Lib.hid (upQ R.out b6)
  replace E := Lib.hid (upQ E.out b6)
  replace HB := Lib.hid (below2Z HB.out b6)
  clear b6
  obtain ⟨⟨Ec0, Ec1, Ec2, Ec3, Ec4, Ec5, Ec6, Ec7⟩, ⟨Ef0, Ef1, Ef2, Ef3, Ef4, Ef5, Ef6, Ef7⟩⟩ := blk8 E.out
  obtain ⟨⟨Rc0, Rc1, Rc2, Rc3, Rc4, Rc5, Rc6, Rc7⟩, ⟨Rf0, Rf1, Rf2, Rf3, Rf4, Rf5, Rf6, Rf7⟩⟩ := blk8 R.out
  go_wp2_with fail
  refine bodyPost_ret (v := .tuple #[.agg #[.int .i64 k, .string ⟨u.toArray⟩, .string ⟨o.toArray⟩, .int .i64 id, .int .i64 a, .int .i64 b, .int .i64 c, .string ⟨st.toArray⟩], .int .i64 0]) (by simp [results, Try.results10, go_sem, Rc0, Rc1, Rc2, Rc3, Rc4, Rc5, Rc6, Rc7]) rfl ⟨rfl, ?_⟩
  exact ((((((((HB.out.setCell (Nat.le_refl _) _).setCell (Nat.le_refl _) _).setCell (Nat.le_refl _) _).setCell (Nat.le_refl _) _).setCell (Nat.le_refl _) _).setCell (Nat.le_refl _) _).setCell (Nat.le_refl _) _).setCell (Nat.le_refl _) _)

/-- P23.2, the document's Decode. -/
theorem rscdec_any (s : List UInt8) (hl : s.length ≤ 4294967296) {k id a b c : Int} {u o st : List UInt8} {er : Nat} (h : Hid (scDec s = (⟨k, u, o, id, ⟨a, b, c, st⟩⟩, er))) (w : World) :
    Calls Try.prog 10 #[.string ⟨s.toArray⟩] w fun e w' => e = .returned (.tuple #[.agg #[.int .i64 k, .string ⟨u.toArray⟩, .string ⟨o.toArray⟩, .int .i64 id, .int .i64 a, .int .i64 b, .int .i64 c, .string ⟨st.toArray⟩], .int .i64 er]) ∧ Below w.heap.size w w' := by
  have e := h.out
  obtain ⟨t, er0, ht⟩ : ∃ t er, copen s = (t, er) := ⟨_, _, rfl⟩
  have htl := copen_len ht
  by_cases he : er0 = 0
  case neg =>
    unfold scDec at e
    rw [ht, if_pos (by simpa using he)] at e
    obtain ⟨rfl, rfl, rfl, rfl, rfl, rfl, rfl, rfl, rfl⟩ := evn_inj (show ((⟨0, [], [], 0, ⟨0, 0, 0, []⟩⟩ : Ev), er0) = _ from e)
    exact rscdec_err s hl (Lib.hid ht) he w
  subst he
  rw [scDec_doc (by rw [ht]), ht] at e
  simp only at e
  obtain ⟨⟨k0, u0, o0, id0, ⟨a0, b0, c0, st0⟩⟩, hr⟩ : ∃ x, scRead t = x := ⟨_, rfl⟩
  have hsh := scRead_short (l := t) (by omega)
  rw [hr] at e hsh
  cases hm : scMay ⟨k0, u0, o0, id0, ⟨a0, b0, c0, st0⟩⟩ with
  | false =>
    rw [if_neg (by simp [hm])] at e
    obtain ⟨rfl, rfl, rfl, rfl, rfl, rfl, rfl, rfl, rfl⟩ := evn_inj (show ((⟨0, [], [], 0, ⟨0, 0, 0, []⟩⟩ : Ev), 3) = _ from e)
    exact rscdec_bad s hl (Lib.hid ht) (by omega) (Lib.hid hr) hsh (Lib.hid (scEnc_no hm)) (by decide) w
  | true =>
    by_cases hx : cseal (scBytes ⟨k0, u0, o0, id0, ⟨a0, b0, c0, st0⟩⟩) = s
    · rw [if_pos ⟨hm, hx⟩] at e
      obtain ⟨rfl, rfl, rfl, rfl, rfl, rfl, rfl, rfl, rfl⟩ := evn_inj e
      exact rscdec_ok s hl (Lib.hid ht) (by omega) (Lib.hid hr) hsh (Lib.hid (by rw [scEnc_yes hm, hx])) w
    · rw [if_neg (fun h => hx h.2)] at e
      obtain ⟨rfl, rfl, rfl, rfl, rfl, rfl, rfl, rfl, rfl⟩ := evn_inj (show ((⟨0, [], [], 0, ⟨0, 0, 0, []⟩⟩ : Ev), 3) = _ from e)
      exact rscdec_unlike s hl (Lib.hid ht) (by omega) (Lib.hid hr) hsh (Lib.hid (scEnc_yes hm)) hx w

end Go.Proofs.Ythfkfonfiejbmaa
