/-
  TEXTS OF THE PROOF, one behind the other: ScrTake, ScrDec.
-/
import Derived.Test.YthfkfonfiejbmaaGreatC11

section

/-
  LAYER 23, THE CODE: take.
-/
namespace Go.Proofs.YthfkfonfiejbmaaGreat
open Go.RowKit

set_option maxHeartbeats 1600000 in
set_option maxRecDepth 100000 in
theorem sctake_nil (w : World) :
    Calls Tryz.prog 26 #[.string ⟨#[]⟩] w fun e w' => e = .returned (.tuple #[.agg #[.int .i64 0, .string ⟨#[]⟩, .string ⟨#[]⟩, .int .i64 0, .int .i64 0, .int .i64 0, .int .i64 0, .string ⟨#[]⟩], .bool false]) ∧ Below w.heap.size w w' := by
  have b0 := bl_newZ w (.cells #[.int .i64 0, .string ⟨#[]⟩, .string ⟨#[]⟩, .int .i64 0, .int .i64 0, .int .i64 0, .int .i64 0, .string ⟨#[]⟩] 29)
  have HB := Lib.hid b0
  have R := newQ w (.cells #[.int .i64 0, .string ⟨#[]⟩, .string ⟨#[]⟩, .int .i64 0, .int .i64 0, .int .i64 0, .int .i64 0, .string ⟨#[]⟩] 29)
  replace R := Lib.hid R
  clear b0
  go_enter Tryz.func26, Tryz.ntmps26
  go_wp2_with fail
  refine bodyPost_ret (v := .tuple #[.agg #[.int .i64 0, .string ⟨#[]⟩, .string ⟨#[]⟩, .int .i64 0, .int .i64 0, .int .i64 0, .int .i64 0, .string ⟨#[]⟩], .bool false]) (by simp [results, Tryz.results26, go_sem]) rfl ⟨rfl, ?_⟩
  exact HB.out

set_option maxHeartbeats 1600000 in
set_option maxRecDepth 100000 in
theorem sctake_err (l : List UInt8) (hl : l.length ≤ 4294967296) (hne : 1 ≤ l.length) {u : List UInt8} {p er : Nat} (HU : Hid (idTake l 1 = (u, p, er))) (he : er ≠ 0) (w : World) :
    Calls Tryz.prog 26 #[.string ⟨l.toArray⟩] w fun e w' => e = .returned (.tuple #[.agg #[.int .i64 0, .string ⟨#[]⟩, .string ⟨#[]⟩, .int .i64 0, .int .i64 0, .int .i64 0, .int .i64 0, .string ⟨#[]⟩], .bool false]) ∧ Below w.heap.size w w' := by
  have hnil2 : l ≠ [] := by intro h; rw [h] at hne; simp at hne
  have hnil : (l == []) = false := by cases l <;> simp at hne ⊢
  have t1 : ((er : Int) != 0) = true := by simp; omega
  clear he
  have b0 := bl_newZ w (.cells #[.int .i64 0, .string ⟨#[]⟩, .string ⟨#[]⟩, .int .i64 0, .int .i64 0, .int .i64 0, .int .i64 0, .string ⟨#[]⟩] 29)
  have HB := Lib.hid b0
  have R := newQ w (.cells #[.int .i64 0, .string ⟨#[]⟩, .string ⟨#[]⟩, .int .i64 0, .int .i64 0, .int .i64 0, .int .i64 0, .string ⟨#[]⟩] 29)
  replace R := Lib.hid R
  clear b0
  go_enter Tryz.func26, Tryz.ntmps26
  go_wp2_with fail
  refine (idtake_eq l hl 1 HU _).mono ?_
  rintro e w2 ⟨rfl, b2⟩
  replace R := Lib.hid (upQ R.out b2)
  replace HB := Lib.hid (below2Z HB.out b2)
  clear b2
  obtain ⟨⟨Rc0, Rc1, Rc2, Rc3, Rc4, Rc5, Rc6, Rc7⟩, ⟨Rf0, Rf1, Rf2, Rf3, Rf4, Rf5, Rf6, Rf7⟩⟩ := blk8 R.out
  go_wp2_with fail
  refine bodyPost_ret (v := .tuple #[.agg #[.int .i64 0, .string ⟨#[]⟩, .string ⟨#[]⟩, .int .i64 0, .int .i64 0, .int .i64 0, .int .i64 0, .string ⟨#[]⟩], .bool false]) (by simp [results, Tryz.results26, go_sem, Rc0, Rc1, Rc2, Rc3, Rc4, Rc5, Rc6, Rc7]) rfl ⟨rfl, ?_⟩
  exact ((((((((HB.out.setCell (Nat.le_refl _) _).setCell (Nat.le_refl _) _).setCell (Nat.le_refl _) _).setCell (Nat.le_refl _) _).setCell (Nat.le_refl _) _).setCell (Nat.le_refl _) _).setCell (Nat.le_refl _) _).setCell (Nat.le_refl _) _)

set_option maxHeartbeats 1600000 in
set_option maxRecDepth 100000 in
theorem sctake_A (l : List UInt8) (hl : l.length ≤ 4294967296) (hne : 1 ≤ l.length) {kb : UInt8} (hb : l.getD 0 0 = kb) {u : List UInt8} {p : Nat} (HU : Hid (idTake l 1 = (u, p, 0))) (HK : Hid (scHas (kb.toNat : Int) = 0))  {r : Bool} (hr : decide (p = l.length) = r) (w : World) :
    Calls Tryz.prog 26 #[.string ⟨l.toArray⟩] w fun e w' => e = .returned (.tuple #[.agg #[.int .i64 (kb.toNat : Int), .string ⟨u.toArray⟩, .string ⟨#[]⟩, .int .i64 0, .int .i64 0, .int .i64 0, .int .i64 0, .string ⟨#[]⟩], .bool r]) ∧ Below w.heap.size w w' := by
  obtain ⟨x1, x2, x3, x4, x5, x6, x7, x8, x9, x10, x11, x12⟩ := and_lits
  have hpl : p ≤ l.length := (idTake_bytes (p := 1) HU.out).2.2.1
  have hr2 : (((p : Int)) == (l.length : Int)) = r := by rw [← hr]; by_cases h : p = l.length <;> simp [h] <;> omega
  have HR2 := Lib.hid hr2
  clear hr hr2
  have hs1 : (⟨l.toArray⟩ : ByteArray).size = l.length := size_bytes l
  have hq0 : 0 < (⟨l.toArray⟩ : ByteArray).size := by omega
  have hb0 := getD_byte l 0 (by omega) hq0
  rw [hb] at hb0
  have hk256 := kb.toNat_lt
  have hnil : (l == []) = false := by cases l <;> simp at hne ⊢
  have hnil2 : l ≠ [] := by intro h; rw [h] at hne; simp at hne
  clear hb
  have b0 := bl_newZ w (.cells #[.int .i64 0, .string ⟨#[]⟩, .string ⟨#[]⟩, .int .i64 0, .int .i64 0, .int .i64 0, .int .i64 0, .string ⟨#[]⟩] 29)
  have HB := Lib.hid b0
  have R := newQ w (.cells #[.int .i64 0, .string ⟨#[]⟩, .string ⟨#[]⟩, .int .i64 0, .int .i64 0, .int .i64 0, .int .i64 0, .string ⟨#[]⟩] 29)
  replace R := Lib.hid R
  clear b0
  go_enter Tryz.func26, Tryz.ntmps26
  go_wp2_with fail
  refine (idtake_eq l hl 1 HU _).mono ?_
  rintro e w2 ⟨rfl, b2⟩
  replace R := Lib.hid (upQ R.out b2)
  replace HB := Lib.hid (below2Z HB.out b2)
  clear b2
  go_wp2_with fail
  have hRl0 := Lib.hid (Array.getElem?_eq_some_iff.1 R.out).1
  have b3 := bl_newZ w2 (.cells #[.int .i64 (kb.toNat : Int), .string ⟨u.toArray⟩, .string ⟨#[]⟩, .int .i64 0, .int .i64 0, .int .i64 0, .int .i64 0, .string ⟨#[]⟩] 29)
  have E := newQ w2 (.cells #[.int .i64 (kb.toNat : Int), .string ⟨u.toArray⟩, .string ⟨#[]⟩, .int .i64 0, .int .i64 0, .int .i64 0, .int .i64 0, .string ⟨#[]⟩] 29)
  have hE : w.heap.size ≤ w2.heap.size := HB.out.size
  replace R := Lib.hid (upQ R.out b3)
  replace HB := Lib.hid (below2Z HB.out b3)
  clear b3
  replace E := Lib.hid E
  generalize w2.alloc (.cells #[.int .i64 (kb.toNat : Int), .string ⟨u.toArray⟩, .string ⟨#[]⟩, .int .i64 0, .int .i64 0, .int .i64 0, .int .i64 0, .string ⟨#[]⟩] 29) = w4 at R E HB ⊢
  have hRE0 : ¬ w.heap.size = w2.heap.size := by have := hRl0.out; omega
  generalize w2.heap.size = BE at E hE hRE0 ⊢
  have hRE : ¬ w.heap.size = BE := hRE0
  have hBE : w.heap.size ≤ BE := hE
  go_loopw [5, 8] (fun v5 v8 wr => ((v5 = .int .i64 (p : Int) ∧ v8 = .int .i64 1 ∧ Hid (wr.heap[BE]? = some (.cells #[.int .i64 (kb.toNat : Int), .string ⟨u.toArray⟩, .string ⟨#[]⟩, .int .i64 0, .int .i64 0, .int .i64 0, .int .i64 0, .string ⟨#[]⟩] 29 (0, 0)))) ∨ (v5 = .int .i64 (p : Int) ∧ v8 = .int .i64 2 ∧ Hid (wr.heap[BE]? = some (.cells #[.int .i64 (kb.toNat : Int), .string ⟨u.toArray⟩, .string ⟨#[]⟩, .int .i64 0, .int .i64 0, .int .i64 0, .int .i64 0, .string ⟨#[]⟩] 29 (0, 0)))) ∨ (v5 = .int .i64 (p : Int) ∧ v8 = .int .i64 4 ∧ Hid (wr.heap[BE]? = some (.cells #[.int .i64 (kb.toNat : Int), .string ⟨u.toArray⟩, .string ⟨#[]⟩, .int .i64 0, .int .i64 0, .int .i64 0, .int .i64 0, .string ⟨#[]⟩] 29 (0, 0)))) ∨ (v5 = .int .i64 (p : Int) ∧ v8 = .int .i64 8 ∧ Hid (wr.heap[BE]? = some (.cells #[.int .i64 (kb.toNat : Int), .string ⟨u.toArray⟩, .string ⟨#[]⟩, .int .i64 0, .int .i64 0, .int .i64 0, .int .i64 0, .string ⟨#[]⟩] 29 (0, 0))))) ∧ Hid (wr.heap[w.heap.size]? = some (.cells #[.int .i64 0, .string ⟨#[]⟩, .string ⟨#[]⟩, .int .i64 0, .int .i64 0, .int .i64 0, .int .i64 0, .string ⟨#[]⟩] 29 (0, 0))) ∧ Hid (Below w.heap.size w wr)) (fun _ v8 _ => 8 - (intOf v8).toNat)
  case atStart => exact ⟨.inl ⟨rfl, rfl, E⟩, R, HB⟩
  case round =>
    clear E R HB
    obtain ⟨hcase, R, HB⟩ := hrel
    rcases hcase with ⟨rfl, rfl, E⟩ | ⟨rfl, rfl, E⟩ | ⟨rfl, rfl, E⟩ | ⟨rfl, rfl, E⟩
    · obtain ⟨⟨Ec0, Ec1, Ec2, Ec3, Ec4, Ec5, Ec6, Ec7⟩, ⟨Ef0, Ef1, Ef2, Ef3, Ef4, Ef5, Ef6, Ef7⟩⟩ := blk8 E.out
      obtain ⟨⟨Rc0, Rc1, Rc2, Rc3, Rc4, Rc5, Rc6, Rc7⟩, ⟨Rf0, Rf1, Rf2, Rf3, Rf4, Rf5, Rf6, Rf7⟩⟩ := blk8 R.out
      have hEl := (Array.getElem?_eq_some_iff.1 E.out).1
      have hRl := (Array.getElem?_eq_some_iff.1 R.out).1
      go_wp2_with fail
      refine (parts_eq _ HK _).mono ?_
      rintro e wp ⟨rfl, rfl⟩
      go_wp2_with fail
      clear Ec0 Ec1 Ec2 Ec3 Ec4 Ec5 Ec6 Ec7 Ef0 Ef1 Ef2 Ef3 Ef4 Ef5 Ef6 Ef7 Rc0 Rc1 Rc2 Rc3 Rc4 Rc5 Rc6 Rc7 Rf0 Rf1 Rf2 Rf3 Rf4 Rf5 Rf6 Rf7
      go_roundw
      case rel => exact ⟨.inr (.inl ⟨rfl, rfl, E⟩), R, HB⟩
      case measure => simp [intOf]
    · obtain ⟨⟨Ec0, Ec1, Ec2, Ec3, Ec4, Ec5, Ec6, Ec7⟩, ⟨Ef0, Ef1, Ef2, Ef3, Ef4, Ef5, Ef6, Ef7⟩⟩ := blk8 E.out
      obtain ⟨⟨Rc0, Rc1, Rc2, Rc3, Rc4, Rc5, Rc6, Rc7⟩, ⟨Rf0, Rf1, Rf2, Rf3, Rf4, Rf5, Rf6, Rf7⟩⟩ := blk8 R.out
      have hEl := (Array.getElem?_eq_some_iff.1 E.out).1
      have hRl := (Array.getElem?_eq_some_iff.1 R.out).1
      go_wp2_with fail
      refine (parts_eq _ HK _).mono ?_
      rintro e wp ⟨rfl, rfl⟩
      go_wp2_with fail
      clear Ec0 Ec1 Ec2 Ec3 Ec4 Ec5 Ec6 Ec7 Ef0 Ef1 Ef2 Ef3 Ef4 Ef5 Ef6 Ef7 Rc0 Rc1 Rc2 Rc3 Rc4 Rc5 Rc6 Rc7 Rf0 Rf1 Rf2 Rf3 Rf4 Rf5 Rf6 Rf7
      go_roundw
      case rel => exact ⟨.inr (.inr (.inl ⟨rfl, rfl, E⟩)), R, HB⟩
      case measure => simp [intOf]
    · obtain ⟨⟨Ec0, Ec1, Ec2, Ec3, Ec4, Ec5, Ec6, Ec7⟩, ⟨Ef0, Ef1, Ef2, Ef3, Ef4, Ef5, Ef6, Ef7⟩⟩ := blk8 E.out
      obtain ⟨⟨Rc0, Rc1, Rc2, Rc3, Rc4, Rc5, Rc6, Rc7⟩, ⟨Rf0, Rf1, Rf2, Rf3, Rf4, Rf5, Rf6, Rf7⟩⟩ := blk8 R.out
      have hEl := (Array.getElem?_eq_some_iff.1 E.out).1
      have hRl := (Array.getElem?_eq_some_iff.1 R.out).1
      go_wp2_with fail
      refine (parts_eq _ HK _).mono ?_
      rintro e wp ⟨rfl, rfl⟩
      go_wp2_with fail
      clear Ec0 Ec1 Ec2 Ec3 Ec4 Ec5 Ec6 Ec7 Ef0 Ef1 Ef2 Ef3 Ef4 Ef5 Ef6 Ef7 Rc0 Rc1 Rc2 Rc3 Rc4 Rc5 Rc6 Rc7 Rf0 Rf1 Rf2 Rf3 Rf4 Rf5 Rf6 Rf7
      go_roundw
      case rel => exact ⟨.inr (.inr (.inr (⟨rfl, rfl, E⟩))), R, HB⟩
      case measure => simp [intOf]
    · obtain ⟨⟨Ec0, Ec1, Ec2, Ec3, Ec4, Ec5, Ec6, Ec7⟩, ⟨Ef0, Ef1, Ef2, Ef3, Ef4, Ef5, Ef6, Ef7⟩⟩ := blk8 E.out
      obtain ⟨⟨Rc0, Rc1, Rc2, Rc3, Rc4, Rc5, Rc6, Rc7⟩, ⟨Rf0, Rf1, Rf2, Rf3, Rf4, Rf5, Rf6, Rf7⟩⟩ := blk8 R.out
      have hEl := (Array.getElem?_eq_some_iff.1 E.out).1
      have hRl := (Array.getElem?_eq_some_iff.1 R.out).1
      have hr2 := HR2.out
      go_wp2_with fail
      refine bodyPost_ret (v := .tuple #[.agg #[.int .i64 (kb.toNat : Int), .string ⟨u.toArray⟩, .string ⟨#[]⟩, .int .i64 0, .int .i64 0, .int .i64 0, .int .i64 0, .string ⟨#[]⟩], .bool r]) (by simp [results, Tryz.results26, go_sem, Rc0, Rc1, Rc2, Rc3, Rc4, Rc5, Rc6, Rc7]) rfl ⟨rfl, ?_⟩
      exact ((((((((HB.out.setCell (Nat.le_refl _) _).setCell (Nat.le_refl _) _).setCell (Nat.le_refl _) _).setCell (Nat.le_refl _) _).setCell (Nat.le_refl _) _).setCell (Nat.le_refl _) _).setCell (Nat.le_refl _) _).setCell (Nat.le_refl _) _)

set_option maxHeartbeats 1600000 in
set_option maxRecDepth 100000 in
theorem sctake_B (l : List UInt8) (hl : l.length ≤ 4294967296) (hne : 1 ≤ l.length) {kb : UInt8} (hb : l.getD 0 0 = kb) {u : List UInt8} {p : Nat} (HU : Hid (idTake l 1 = (u, p, 0))) (HK : Hid (scHas (kb.toNat : Int) = 1)) {o : List UInt8} {q : Nat} (HO : Hid (idTake l p = (o, q, 0))) {r : Bool} (hr : decide (q = l.length) = r) (w : World) :
    Calls Tryz.prog 26 #[.string ⟨l.toArray⟩] w fun e w' => e = .returned (.tuple #[.agg #[.int .i64 (kb.toNat : Int), .string ⟨u.toArray⟩, .string ⟨o.toArray⟩, .int .i64 0, .int .i64 0, .int .i64 0, .int .i64 0, .string ⟨#[]⟩], .bool r]) ∧ Below w.heap.size w w' := by
  obtain ⟨x1, x2, x3, x4, x5, x6, x7, x8, x9, x10, x11, x12⟩ := and_lits
  have hpl : p ≤ l.length := (idTake_bytes (p := 1) HU.out).2.2.1
  have hr2 : (((q : Int)) == (l.length : Int)) = r := by rw [← hr]; by_cases h : q = l.length <;> simp [h] <;> omega
  have HR2 := Lib.hid hr2
  clear hr hr2
  have hs1 : (⟨l.toArray⟩ : ByteArray).size = l.length := size_bytes l
  have hq0 : 0 < (⟨l.toArray⟩ : ByteArray).size := by omega
  have hb0 := getD_byte l 0 (by omega) hq0
  rw [hb] at hb0
  have hk256 := kb.toNat_lt
  have hnil : (l == []) = false := by cases l <;> simp at hne ⊢
  have hnil2 : l ≠ [] := by intro h; rw [h] at hne; simp at hne
  clear hb
  have b0 := bl_newZ w (.cells #[.int .i64 0, .string ⟨#[]⟩, .string ⟨#[]⟩, .int .i64 0, .int .i64 0, .int .i64 0, .int .i64 0, .string ⟨#[]⟩] 29)
  have HB := Lib.hid b0
  have R := newQ w (.cells #[.int .i64 0, .string ⟨#[]⟩, .string ⟨#[]⟩, .int .i64 0, .int .i64 0, .int .i64 0, .int .i64 0, .string ⟨#[]⟩] 29)
  replace R := Lib.hid R
  clear b0
  go_enter Tryz.func26, Tryz.ntmps26
  go_wp2_with fail
  refine (idtake_eq l hl 1 HU _).mono ?_
  rintro e w2 ⟨rfl, b2⟩
  replace R := Lib.hid (upQ R.out b2)
  replace HB := Lib.hid (below2Z HB.out b2)
  clear b2
  go_wp2_with fail
  have hRl0 := Lib.hid (Array.getElem?_eq_some_iff.1 R.out).1
  have b3 := bl_newZ w2 (.cells #[.int .i64 (kb.toNat : Int), .string ⟨u.toArray⟩, .string ⟨#[]⟩, .int .i64 0, .int .i64 0, .int .i64 0, .int .i64 0, .string ⟨#[]⟩] 29)
  have E := newQ w2 (.cells #[.int .i64 (kb.toNat : Int), .string ⟨u.toArray⟩, .string ⟨#[]⟩, .int .i64 0, .int .i64 0, .int .i64 0, .int .i64 0, .string ⟨#[]⟩] 29)
  have hE : w.heap.size ≤ w2.heap.size := HB.out.size
  replace R := Lib.hid (upQ R.out b3)
  replace HB := Lib.hid (below2Z HB.out b3)
  clear b3
  replace E := Lib.hid E
  generalize w2.alloc (.cells #[.int .i64 (kb.toNat : Int), .string ⟨u.toArray⟩, .string ⟨#[]⟩, .int .i64 0, .int .i64 0, .int .i64 0, .int .i64 0, .string ⟨#[]⟩] 29) = w4 at R E HB ⊢
  have hRE0 : ¬ w.heap.size = w2.heap.size := by have := hRl0.out; omega
  generalize w2.heap.size = BE at E hE hRE0 ⊢
  have hRE : ¬ w.heap.size = BE := hRE0
  have hBE : w.heap.size ≤ BE := hE
  go_loopw [5, 8] (fun v5 v8 wr => ((v5 = .int .i64 (p : Int) ∧ v8 = .int .i64 1 ∧ Hid (wr.heap[BE]? = some (.cells #[.int .i64 (kb.toNat : Int), .string ⟨u.toArray⟩, .string ⟨#[]⟩, .int .i64 0, .int .i64 0, .int .i64 0, .int .i64 0, .string ⟨#[]⟩] 29 (0, 0)))) ∨ (v5 = .int .i64 (q : Int) ∧ v8 = .int .i64 2 ∧ Hid (wr.heap[BE]? = some (.cells #[.int .i64 (kb.toNat : Int), .string ⟨u.toArray⟩, .string ⟨o.toArray⟩, .int .i64 0, .int .i64 0, .int .i64 0, .int .i64 0, .string ⟨#[]⟩] 29 (0, 0)))) ∨ (v5 = .int .i64 (q : Int) ∧ v8 = .int .i64 4 ∧ Hid (wr.heap[BE]? = some (.cells #[.int .i64 (kb.toNat : Int), .string ⟨u.toArray⟩, .string ⟨o.toArray⟩, .int .i64 0, .int .i64 0, .int .i64 0, .int .i64 0, .string ⟨#[]⟩] 29 (0, 0)))) ∨ (v5 = .int .i64 (q : Int) ∧ v8 = .int .i64 8 ∧ Hid (wr.heap[BE]? = some (.cells #[.int .i64 (kb.toNat : Int), .string ⟨u.toArray⟩, .string ⟨o.toArray⟩, .int .i64 0, .int .i64 0, .int .i64 0, .int .i64 0, .string ⟨#[]⟩] 29 (0, 0))))) ∧ Hid (wr.heap[w.heap.size]? = some (.cells #[.int .i64 0, .string ⟨#[]⟩, .string ⟨#[]⟩, .int .i64 0, .int .i64 0, .int .i64 0, .int .i64 0, .string ⟨#[]⟩] 29 (0, 0))) ∧ Hid (Below w.heap.size w wr)) (fun _ v8 _ => 8 - (intOf v8).toNat)
  case atStart => exact ⟨.inl ⟨rfl, rfl, E⟩, R, HB⟩
  case round =>
    clear E R HB
    obtain ⟨hcase, R, HB⟩ := hrel
    rcases hcase with ⟨rfl, rfl, E⟩ | ⟨rfl, rfl, E⟩ | ⟨rfl, rfl, E⟩ | ⟨rfl, rfl, E⟩
    · obtain ⟨⟨Ec0, Ec1, Ec2, Ec3, Ec4, Ec5, Ec6, Ec7⟩, ⟨Ef0, Ef1, Ef2, Ef3, Ef4, Ef5, Ef6, Ef7⟩⟩ := blk8 E.out
      obtain ⟨⟨Rc0, Rc1, Rc2, Rc3, Rc4, Rc5, Rc6, Rc7⟩, ⟨Rf0, Rf1, Rf2, Rf3, Rf4, Rf5, Rf6, Rf7⟩⟩ := blk8 R.out
      have hEl := (Array.getElem?_eq_some_iff.1 E.out).1
      have hRl := (Array.getElem?_eq_some_iff.1 R.out).1
      go_wp2_with fail
      refine (parts_eq _ HK _).mono ?_
      rintro e wp ⟨rfl, rfl⟩
      go_wp2_with fail
      clear Ec0 Ec1 Ec2 Ec3 Ec4 Ec5 Ec6 Ec7 Ef0 Ef1 Ef2 Ef3 Ef4 Ef5 Ef6 Ef7 Rc0 Rc1 Rc2 Rc3 Rc4 Rc5 Rc6 Rc7 Rf0 Rf1 Rf2 Rf3 Rf4 Rf5 Rf6 Rf7
      refine (tp1_yes (kb.toNat : Int) u [] [] 0 0 0 0 l hl p HO _).mono ?_
      rintro e w101 ⟨rfl, b101⟩
      replace E := Lib.hid (upQ E.out b101)
      replace R := Lib.hid (upQ R.out b101)
      replace HB := Lib.hid (below2Z HB.out b101)
      clear b101
      obtain ⟨⟨Ec0, Ec1, Ec2, Ec3, Ec4, Ec5, Ec6, Ec7⟩, ⟨Ef0, Ef1, Ef2, Ef3, Ef4, Ef5, Ef6, Ef7⟩⟩ := blk8 E.out
      go_wp2_with fail
      clear Ec0 Ec1 Ec2 Ec3 Ec4 Ec5 Ec6 Ec7 Ef0 Ef1 Ef2 Ef3 Ef4 Ef5 Ef6 Ef7
      have E2 := Lib.hid (stN8_heap E.out (.int .i64 (kb.toNat : Int)) (.string ⟨u.toArray⟩) (.string ⟨o.toArray⟩) (.int .i64 0) (.int .i64 0) (.int .i64 0) (.int .i64 0) (.string ⟨#[]⟩))
      have R2 := Lib.hid ((stN8_far w101 BE (.int .i64 (kb.toNat : Int)) (.string ⟨u.toArray⟩) (.string ⟨o.toArray⟩) (.int .i64 0) (.int .i64 0) (.int .i64 0) (.int .i64 0) (.string ⟨#[]⟩) hRE).trans R.out)
      have HB2 := Lib.hid (stN8_below HB.out hBE (.int .i64 (kb.toNat : Int)) (.string ⟨u.toArray⟩) (.string ⟨o.toArray⟩) (.int .i64 0) (.int .i64 0) (.int .i64 0) (.int .i64 0) (.string ⟨#[]⟩))
      unfold stN8 at E2 R2 HB2
      go_roundw
      case rel => exact ⟨.inr (.inl ⟨rfl, rfl, E2⟩), R2, HB2⟩
      case measure => simp [intOf]
    · obtain ⟨⟨Ec0, Ec1, Ec2, Ec3, Ec4, Ec5, Ec6, Ec7⟩, ⟨Ef0, Ef1, Ef2, Ef3, Ef4, Ef5, Ef6, Ef7⟩⟩ := blk8 E.out
      obtain ⟨⟨Rc0, Rc1, Rc2, Rc3, Rc4, Rc5, Rc6, Rc7⟩, ⟨Rf0, Rf1, Rf2, Rf3, Rf4, Rf5, Rf6, Rf7⟩⟩ := blk8 R.out
      have hEl := (Array.getElem?_eq_some_iff.1 E.out).1
      have hRl := (Array.getElem?_eq_some_iff.1 R.out).1
      go_wp2_with fail
      refine (parts_eq _ HK _).mono ?_
      rintro e wp ⟨rfl, rfl⟩
      go_wp2_with fail
      clear Ec0 Ec1 Ec2 Ec3 Ec4 Ec5 Ec6 Ec7 Ef0 Ef1 Ef2 Ef3 Ef4 Ef5 Ef6 Ef7 Rc0 Rc1 Rc2 Rc3 Rc4 Rc5 Rc6 Rc7 Rf0 Rf1 Rf2 Rf3 Rf4 Rf5 Rf6 Rf7
      go_roundw
      case rel => exact ⟨.inr (.inr (.inl ⟨rfl, rfl, E⟩)), R, HB⟩
      case measure => simp [intOf]
    · obtain ⟨⟨Ec0, Ec1, Ec2, Ec3, Ec4, Ec5, Ec6, Ec7⟩, ⟨Ef0, Ef1, Ef2, Ef3, Ef4, Ef5, Ef6, Ef7⟩⟩ := blk8 E.out
      obtain ⟨⟨Rc0, Rc1, Rc2, Rc3, Rc4, Rc5, Rc6, Rc7⟩, ⟨Rf0, Rf1, Rf2, Rf3, Rf4, Rf5, Rf6, Rf7⟩⟩ := blk8 R.out
      have hEl := (Array.getElem?_eq_some_iff.1 E.out).1
      have hRl := (Array.getElem?_eq_some_iff.1 R.out).1
      go_wp2_with fail
      refine (parts_eq _ HK _).mono ?_
      rintro e wp ⟨rfl, rfl⟩
      go_wp2_with fail
      clear Ec0 Ec1 Ec2 Ec3 Ec4 Ec5 Ec6 Ec7 Ef0 Ef1 Ef2 Ef3 Ef4 Ef5 Ef6 Ef7 Rc0 Rc1 Rc2 Rc3 Rc4 Rc5 Rc6 Rc7 Rf0 Rf1 Rf2 Rf3 Rf4 Rf5 Rf6 Rf7
      go_roundw
      case rel => exact ⟨.inr (.inr (.inr (⟨rfl, rfl, E⟩))), R, HB⟩
      case measure => simp [intOf]
    · obtain ⟨⟨Ec0, Ec1, Ec2, Ec3, Ec4, Ec5, Ec6, Ec7⟩, ⟨Ef0, Ef1, Ef2, Ef3, Ef4, Ef5, Ef6, Ef7⟩⟩ := blk8 E.out
      obtain ⟨⟨Rc0, Rc1, Rc2, Rc3, Rc4, Rc5, Rc6, Rc7⟩, ⟨Rf0, Rf1, Rf2, Rf3, Rf4, Rf5, Rf6, Rf7⟩⟩ := blk8 R.out
      have hEl := (Array.getElem?_eq_some_iff.1 E.out).1
      have hRl := (Array.getElem?_eq_some_iff.1 R.out).1
      have hr2 := HR2.out
      go_wp2_with fail
      refine bodyPost_ret (v := .tuple #[.agg #[.int .i64 (kb.toNat : Int), .string ⟨u.toArray⟩, .string ⟨o.toArray⟩, .int .i64 0, .int .i64 0, .int .i64 0, .int .i64 0, .string ⟨#[]⟩], .bool r]) (by simp [results, Tryz.results26, go_sem, Rc0, Rc1, Rc2, Rc3, Rc4, Rc5, Rc6, Rc7]) rfl ⟨rfl, ?_⟩
      exact ((((((((HB.out.setCell (Nat.le_refl _) _).setCell (Nat.le_refl _) _).setCell (Nat.le_refl _) _).setCell (Nat.le_refl _) _).setCell (Nat.le_refl _) _).setCell (Nat.le_refl _) _).setCell (Nat.le_refl _) _).setCell (Nat.le_refl _) _)

set_option maxHeartbeats 1600000 in
set_option maxRecDepth 100000 in
theorem sctake_Bno (l : List UInt8) (hl : l.length ≤ 4294967296) (hne : 1 ≤ l.length) {kb : UInt8} (hb : l.getD 0 0 = kb) {u : List UInt8} {p : Nat} (HU : Hid (idTake l 1 = (u, p, 0))) (HK : Hid (scHas (kb.toNat : Int) = 1)) {o : List UInt8} {q er : Nat} (HO : Hid (idTake l p = (o, q, er))) (he : er ≠ 0) (w : World) :
    Calls Tryz.prog 26 #[.string ⟨l.toArray⟩] w fun e w' => e = .returned (.tuple #[.agg #[.int .i64 0, .string ⟨#[]⟩, .string ⟨#[]⟩, .int .i64 0, .int .i64 0, .int .i64 0, .int .i64 0, .string ⟨#[]⟩], .bool false]) ∧ Below w.heap.size w w' := by
  obtain ⟨x1, x2, x3, x4, x5, x6, x7, x8, x9, x10, x11, x12⟩ := and_lits
  have hpl : p ≤ l.length := (idTake_bytes (p := 1) HU.out).2.2.1
  have hs1 : (⟨l.toArray⟩ : ByteArray).size = l.length := size_bytes l
  have hq0 : 0 < (⟨l.toArray⟩ : ByteArray).size := by omega
  have hb0 := getD_byte l 0 (by omega) hq0
  rw [hb] at hb0
  have hk256 := kb.toNat_lt
  have hnil : (l == []) = false := by cases l <;> simp at hne ⊢
  have hnil2 : l ≠ [] := by intro h; rw [h] at hne; simp at hne
  clear hb
  have b0 := bl_newZ w (.cells #[.int .i64 0, .string ⟨#[]⟩, .string ⟨#[]⟩, .int .i64 0, .int .i64 0, .int .i64 0, .int .i64 0, .string ⟨#[]⟩] 29)
  have HB := Lib.hid b0
  have R := newQ w (.cells #[.int .i64 0, .string ⟨#[]⟩, .string ⟨#[]⟩, .int .i64 0, .int .i64 0, .int .i64 0, .int .i64 0, .string ⟨#[]⟩] 29)
  replace R := Lib.hid R
  clear b0
  go_enter Tryz.func26, Tryz.ntmps26
  go_wp2_with fail
  refine (idtake_eq l hl 1 HU _).mono ?_
  rintro e w2 ⟨rfl, b2⟩
  replace R := Lib.hid (upQ R.out b2)
  replace HB := Lib.hid (below2Z HB.out b2)
  clear b2
  go_wp2_with fail
  have hRl0 := Lib.hid (Array.getElem?_eq_some_iff.1 R.out).1
  have b3 := bl_newZ w2 (.cells #[.int .i64 (kb.toNat : Int), .string ⟨u.toArray⟩, .string ⟨#[]⟩, .int .i64 0, .int .i64 0, .int .i64 0, .int .i64 0, .string ⟨#[]⟩] 29)
  have E := newQ w2 (.cells #[.int .i64 (kb.toNat : Int), .string ⟨u.toArray⟩, .string ⟨#[]⟩, .int .i64 0, .int .i64 0, .int .i64 0, .int .i64 0, .string ⟨#[]⟩] 29)
  have hE : w.heap.size ≤ w2.heap.size := HB.out.size
  replace R := Lib.hid (upQ R.out b3)
  replace HB := Lib.hid (below2Z HB.out b3)
  clear b3
  replace E := Lib.hid E
  generalize w2.alloc (.cells #[.int .i64 (kb.toNat : Int), .string ⟨u.toArray⟩, .string ⟨#[]⟩, .int .i64 0, .int .i64 0, .int .i64 0, .int .i64 0, .string ⟨#[]⟩] 29) = w4 at R E HB ⊢
  have hRE0 : ¬ w.heap.size = w2.heap.size := by have := hRl0.out; omega
  generalize w2.heap.size = BE at E hE hRE0 ⊢
  have hRE : ¬ w.heap.size = BE := hRE0
  have hBE : w.heap.size ≤ BE := hE
  go_loopw [5, 8] (fun v5 v8 wr => ((v5 = .int .i64 (p : Int) ∧ v8 = .int .i64 1 ∧ Hid (wr.heap[BE]? = some (.cells #[.int .i64 (kb.toNat : Int), .string ⟨u.toArray⟩, .string ⟨#[]⟩, .int .i64 0, .int .i64 0, .int .i64 0, .int .i64 0, .string ⟨#[]⟩] 29 (0, 0))))) ∧ Hid (wr.heap[w.heap.size]? = some (.cells #[.int .i64 0, .string ⟨#[]⟩, .string ⟨#[]⟩, .int .i64 0, .int .i64 0, .int .i64 0, .int .i64 0, .string ⟨#[]⟩] 29 (0, 0))) ∧ Hid (Below w.heap.size w wr)) (fun _ v8 _ => 8 - (intOf v8).toNat)
  case atStart => exact ⟨⟨rfl, rfl, E⟩, R, HB⟩
  case round =>
    clear E R HB
    obtain ⟨hcase, R, HB⟩ := hrel
    rcases hcase with ⟨rfl, rfl, E⟩
    obtain ⟨⟨Ec0, Ec1, Ec2, Ec3, Ec4, Ec5, Ec6, Ec7⟩, ⟨Ef0, Ef1, Ef2, Ef3, Ef4, Ef5, Ef6, Ef7⟩⟩ := blk8 E.out
    obtain ⟨⟨Rc0, Rc1, Rc2, Rc3, Rc4, Rc5, Rc6, Rc7⟩, ⟨Rf0, Rf1, Rf2, Rf3, Rf4, Rf5, Rf6, Rf7⟩⟩ := blk8 R.out
    have hEl := (Array.getElem?_eq_some_iff.1 E.out).1
    have hRl := (Array.getElem?_eq_some_iff.1 R.out).1
    go_wp2_with fail
    refine (parts_eq _ HK _).mono ?_
    rintro e wp ⟨rfl, rfl⟩
    go_wp2_with fail
    clear Ec0 Ec1 Ec2 Ec3 Ec4 Ec5 Ec6 Ec7 Ef0 Ef1 Ef2 Ef3 Ef4 Ef5 Ef6 Ef7 Rc0 Rc1 Rc2 Rc3 Rc4 Rc5 Rc6 Rc7 Rf0 Rf1 Rf2 Rf3 Rf4 Rf5 Rf6 Rf7
    refine (tp1_no (kb.toNat : Int) u [] [] 0 0 0 0 l hl p HO he _).mono ?_
    rintro e w101 ⟨rfl, b101⟩
    replace E := Lib.hid (upQ E.out b101)
    replace R := Lib.hid (upQ R.out b101)
    replace HB := Lib.hid (below2Z HB.out b101)
    clear b101
    obtain ⟨⟨Ec0, Ec1, Ec2, Ec3, Ec4, Ec5, Ec6, Ec7⟩, ⟨Ef0, Ef1, Ef2, Ef3, Ef4, Ef5, Ef6, Ef7⟩⟩ := blk8 E.out
    obtain ⟨⟨Rc0, Rc1, Rc2, Rc3, Rc4, Rc5, Rc6, Rc7⟩, ⟨Rf0, Rf1, Rf2, Rf3, Rf4, Rf5, Rf6, Rf7⟩⟩ := blk8 R.out
    go_wp2_with fail
    refine bodyPost_ret (v := .tuple #[.agg #[.int .i64 0, .string ⟨#[]⟩, .string ⟨#[]⟩, .int .i64 0, .int .i64 0, .int .i64 0, .int .i64 0, .string ⟨#[]⟩], .bool false]) (by simp [results, Tryz.results26, go_sem, Rc0, Rc1, Rc2, Rc3, Rc4, Rc5, Rc6, Rc7]) rfl ⟨rfl, ?_⟩
    exact ((((((((((((((((HB.out.setCell hBE _).setCell hBE _).setCell hBE _).setCell hBE _).setCell hBE _).setCell hBE _).setCell hBE _).setCell hBE _).setCell (Nat.le_refl _) _).setCell (Nat.le_refl _) _).setCell (Nat.le_refl _) _).setCell (Nat.le_refl _) _).setCell (Nat.le_refl _) _).setCell (Nat.le_refl _) _).setCell (Nat.le_refl _) _).setCell (Nat.le_refl _) _)

set_option maxHeartbeats 1600000 in
set_option maxRecDepth 100000 in
theorem sctake_C (l : List UInt8) (hl : l.length ≤ 4294967296) (hne : 1 ≤ l.length) {kb : UInt8} (hb : l.getD 0 0 = kb) {u : List UInt8} {p : Nat} (HU : Hid (idTake l 1 = (u, p, 0))) (HK : Hid (scHas (kb.toNat : Int) = 6)) (hp : p < l.length) {x : UInt8} (hx : l.getD p 0 = x) {a b c : Int} {st : List UInt8} {q : Nat} (HV : Hid (vaTake l ((p + 1 : Nat) : Int) = (⟨a, b, c, st⟩, q, 0))) {r : Bool} (hr : decide (q = l.length) = r) (w : World) :
    Calls Tryz.prog 26 #[.string ⟨l.toArray⟩] w fun e w' => e = .returned (.tuple #[.agg #[.int .i64 (kb.toNat : Int), .string ⟨u.toArray⟩, .string ⟨#[]⟩, .int .i64 (x.toNat : Int), .int .i64 a, .int .i64 b, .int .i64 c, .string ⟨st.toArray⟩], .bool r]) ∧ Below w.heap.size w w' := by
  obtain ⟨x1, x2, x3, x4, x5, x6, x7, x8, x9, x10, x11, x12⟩ := and_lits
  have hpl : p ≤ l.length := (idTake_bytes (p := 1) HU.out).2.2.1
  have hr2 : (((q : Int)) == (l.length : Int)) = r := by rw [← hr]; by_cases h : q = l.length <;> simp [h] <;> omega
  have HR2 := Lib.hid hr2
  clear hr hr2
  have hs1 : (⟨l.toArray⟩ : ByteArray).size = l.length := size_bytes l
  have hq0 : 0 < (⟨l.toArray⟩ : ByteArray).size := by omega
  have hb0 := getD_byte l 0 (by omega) hq0
  rw [hb] at hb0
  have hk256 := kb.toNat_lt
  have hnil : (l == []) = false := by cases l <;> simp at hne ⊢
  have hnil2 : l ≠ [] := by intro h; rw [h] at hne; simp at hne
  have HB8 := Lib.hid hs1
  clear hb
  have b0 := bl_newZ w (.cells #[.int .i64 0, .string ⟨#[]⟩, .string ⟨#[]⟩, .int .i64 0, .int .i64 0, .int .i64 0, .int .i64 0, .string ⟨#[]⟩] 29)
  have HB := Lib.hid b0
  have R := newQ w (.cells #[.int .i64 0, .string ⟨#[]⟩, .string ⟨#[]⟩, .int .i64 0, .int .i64 0, .int .i64 0, .int .i64 0, .string ⟨#[]⟩] 29)
  replace R := Lib.hid R
  clear b0
  go_enter Tryz.func26, Tryz.ntmps26
  go_wp2_with fail
  refine (idtake_eq l hl 1 HU _).mono ?_
  rintro e w2 ⟨rfl, b2⟩
  replace R := Lib.hid (upQ R.out b2)
  replace HB := Lib.hid (below2Z HB.out b2)
  clear b2
  go_wp2_with fail
  have hRl0 := Lib.hid (Array.getElem?_eq_some_iff.1 R.out).1
  have b3 := bl_newZ w2 (.cells #[.int .i64 (kb.toNat : Int), .string ⟨u.toArray⟩, .string ⟨#[]⟩, .int .i64 0, .int .i64 0, .int .i64 0, .int .i64 0, .string ⟨#[]⟩] 29)
  have E := newQ w2 (.cells #[.int .i64 (kb.toNat : Int), .string ⟨u.toArray⟩, .string ⟨#[]⟩, .int .i64 0, .int .i64 0, .int .i64 0, .int .i64 0, .string ⟨#[]⟩] 29)
  have hE : w.heap.size ≤ w2.heap.size := HB.out.size
  replace R := Lib.hid (upQ R.out b3)
  replace HB := Lib.hid (below2Z HB.out b3)
  clear b3
  replace E := Lib.hid E
  generalize w2.alloc (.cells #[.int .i64 (kb.toNat : Int), .string ⟨u.toArray⟩, .string ⟨#[]⟩, .int .i64 0, .int .i64 0, .int .i64 0, .int .i64 0, .string ⟨#[]⟩] 29) = w4 at R E HB ⊢
  have hRE0 : ¬ w.heap.size = w2.heap.size := by have := hRl0.out; omega
  generalize w2.heap.size = BE at E hE hRE0 ⊢
  have hRE : ¬ w.heap.size = BE := hRE0
  have hBE : w.heap.size ≤ BE := hE
  go_loopw [5, 8] (fun v5 v8 wr => ((v5 = .int .i64 (p : Int) ∧ v8 = .int .i64 1 ∧ Hid (wr.heap[BE]? = some (.cells #[.int .i64 (kb.toNat : Int), .string ⟨u.toArray⟩, .string ⟨#[]⟩, .int .i64 0, .int .i64 0, .int .i64 0, .int .i64 0, .string ⟨#[]⟩] 29 (0, 0)))) ∨ (v5 = .int .i64 (p : Int) ∧ v8 = .int .i64 2 ∧ Hid (wr.heap[BE]? = some (.cells #[.int .i64 (kb.toNat : Int), .string ⟨u.toArray⟩, .string ⟨#[]⟩, .int .i64 0, .int .i64 0, .int .i64 0, .int .i64 0, .string ⟨#[]⟩] 29 (0, 0)))) ∨ (v5 = .int .i64 ((p + 1 : Nat) : Int) ∧ v8 = .int .i64 4 ∧ Hid (wr.heap[BE]? = some (.cells #[.int .i64 (kb.toNat : Int), .string ⟨u.toArray⟩, .string ⟨#[]⟩, .int .i64 (x.toNat : Int), .int .i64 0, .int .i64 0, .int .i64 0, .string ⟨#[]⟩] 29 (0, 0)))) ∨ (v5 = .int .i64 (q : Int) ∧ v8 = .int .i64 8 ∧ Hid (wr.heap[BE]? = some (.cells #[.int .i64 (kb.toNat : Int), .string ⟨u.toArray⟩, .string ⟨#[]⟩, .int .i64 (x.toNat : Int), .int .i64 a, .int .i64 b, .int .i64 c, .string ⟨st.toArray⟩] 29 (0, 0))))) ∧ Hid (wr.heap[w.heap.size]? = some (.cells #[.int .i64 0, .string ⟨#[]⟩, .string ⟨#[]⟩, .int .i64 0, .int .i64 0, .int .i64 0, .int .i64 0, .string ⟨#[]⟩] 29 (0, 0))) ∧ Hid (Below w.heap.size w wr)) (fun _ v8 _ => 8 - (intOf v8).toNat)
  case atStart => exact ⟨.inl ⟨rfl, rfl, E⟩, R, HB⟩
  case round =>
    clear E R HB
    obtain ⟨hcase, R, HB⟩ := hrel
    rcases hcase with ⟨rfl, rfl, E⟩ | ⟨rfl, rfl, E⟩ | ⟨rfl, rfl, E⟩ | ⟨rfl, rfl, E⟩
    · obtain ⟨⟨Ec0, Ec1, Ec2, Ec3, Ec4, Ec5, Ec6, Ec7⟩, ⟨Ef0, Ef1, Ef2, Ef3, Ef4, Ef5, Ef6, Ef7⟩⟩ := blk8 E.out
      obtain ⟨⟨Rc0, Rc1, Rc2, Rc3, Rc4, Rc5, Rc6, Rc7⟩, ⟨Rf0, Rf1, Rf2, Rf3, Rf4, Rf5, Rf6, Rf7⟩⟩ := blk8 R.out
      have hEl := (Array.getElem?_eq_some_iff.1 E.out).1
      have hRl := (Array.getElem?_eq_some_iff.1 R.out).1
      go_wp2_with fail
      refine (parts_eq _ HK _).mono ?_
      rintro e wp ⟨rfl, rfl⟩
      go_wp2_with fail
      clear Ec0 Ec1 Ec2 Ec3 Ec4 Ec5 Ec6 Ec7 Ef0 Ef1 Ef2 Ef3 Ef4 Ef5 Ef6 Ef7 Rc0 Rc1 Rc2 Rc3 Rc4 Rc5 Rc6 Rc7 Rf0 Rf1 Rf2 Rf3 Rf4 Rf5 Rf6 Rf7
      go_roundw
      case rel => exact ⟨.inr (.inl ⟨rfl, rfl, E⟩), R, HB⟩
      case measure => simp [intOf]
    · obtain ⟨⟨Ec0, Ec1, Ec2, Ec3, Ec4, Ec5, Ec6, Ec7⟩, ⟨Ef0, Ef1, Ef2, Ef3, Ef4, Ef5, Ef6, Ef7⟩⟩ := blk8 E.out
      obtain ⟨⟨Rc0, Rc1, Rc2, Rc3, Rc4, Rc5, Rc6, Rc7⟩, ⟨Rf0, Rf1, Rf2, Rf3, Rf4, Rf5, Rf6, Rf7⟩⟩ := blk8 R.out
      have hEl := (Array.getElem?_eq_some_iff.1 E.out).1
      have hRl := (Array.getElem?_eq_some_iff.1 R.out).1
      go_wp2_with fail
      refine (parts_eq _ HK _).mono ?_
      rintro e wp ⟨rfl, rfl⟩
      go_wp2_with fail
      clear Ec0 Ec1 Ec2 Ec3 Ec4 Ec5 Ec6 Ec7 Ef0 Ef1 Ef2 Ef3 Ef4 Ef5 Ef6 Ef7 Rc0 Rc1 Rc2 Rc3 Rc4 Rc5 Rc6 Rc7 Rf0 Rf1 Rf2 Rf3 Rf4 Rf5 Rf6 Rf7
      refine (tp2_yes (kb.toNat : Int) u [] [] 0 0 0 0 l hl p hp hx _).mono ?_
      rintro e w201 ⟨rfl, b201⟩
      replace E := Lib.hid (upQ E.out b201)
      replace R := Lib.hid (upQ R.out b201)
      replace HB := Lib.hid (below2Z HB.out b201)
      clear b201
      obtain ⟨⟨Ec0, Ec1, Ec2, Ec3, Ec4, Ec5, Ec6, Ec7⟩, ⟨Ef0, Ef1, Ef2, Ef3, Ef4, Ef5, Ef6, Ef7⟩⟩ := blk8 E.out
      go_wp2_with fail
      clear Ec0 Ec1 Ec2 Ec3 Ec4 Ec5 Ec6 Ec7 Ef0 Ef1 Ef2 Ef3 Ef4 Ef5 Ef6 Ef7
      have E2 := Lib.hid (stN8_heap E.out (.int .i64 (kb.toNat : Int)) (.string ⟨u.toArray⟩) (.string ⟨#[]⟩) (.int .i64 (x.toNat : Int)) (.int .i64 0) (.int .i64 0) (.int .i64 0) (.string ⟨#[]⟩))
      have R2 := Lib.hid ((stN8_far w201 BE (.int .i64 (kb.toNat : Int)) (.string ⟨u.toArray⟩) (.string ⟨#[]⟩) (.int .i64 (x.toNat : Int)) (.int .i64 0) (.int .i64 0) (.int .i64 0) (.string ⟨#[]⟩) hRE).trans R.out)
      have HB2 := Lib.hid (stN8_below HB.out hBE (.int .i64 (kb.toNat : Int)) (.string ⟨u.toArray⟩) (.string ⟨#[]⟩) (.int .i64 (x.toNat : Int)) (.int .i64 0) (.int .i64 0) (.int .i64 0) (.string ⟨#[]⟩))
      unfold stN8 at E2 R2 HB2
      go_roundw
      case rel => exact ⟨.inr (.inr (.inl ⟨rfl, rfl, E2⟩)), R2, HB2⟩
      case measure => simp [intOf]
    · obtain ⟨⟨Ec0, Ec1, Ec2, Ec3, Ec4, Ec5, Ec6, Ec7⟩, ⟨Ef0, Ef1, Ef2, Ef3, Ef4, Ef5, Ef6, Ef7⟩⟩ := blk8 E.out
      obtain ⟨⟨Rc0, Rc1, Rc2, Rc3, Rc4, Rc5, Rc6, Rc7⟩, ⟨Rf0, Rf1, Rf2, Rf3, Rf4, Rf5, Rf6, Rf7⟩⟩ := blk8 R.out
      have hEl := (Array.getElem?_eq_some_iff.1 E.out).1
      have hRl := (Array.getElem?_eq_some_iff.1 R.out).1
      go_wp2_with fail
      refine (parts_eq _ HK _).mono ?_
      rintro e wp ⟨rfl, rfl⟩
      go_wp2_with fail
      clear Ec0 Ec1 Ec2 Ec3 Ec4 Ec5 Ec6 Ec7 Ef0 Ef1 Ef2 Ef3 Ef4 Ef5 Ef6 Ef7 Rc0 Rc1 Rc2 Rc3 Rc4 Rc5 Rc6 Rc7 Rf0 Rf1 Rf2 Rf3 Rf4 Rf5 Rf6 Rf7
      refine (tp4_yes (kb.toNat : Int) u [] [] (x.toNat : Int) 0 0 0 l hl ((p + 1 : Nat) : Int) HV _).mono ?_
      rintro e w301 ⟨rfl, b301⟩
      replace E := Lib.hid (upQ E.out b301)
      replace R := Lib.hid (upQ R.out b301)
      replace HB := Lib.hid (below2Z HB.out b301)
      clear b301
      obtain ⟨⟨Ec0, Ec1, Ec2, Ec3, Ec4, Ec5, Ec6, Ec7⟩, ⟨Ef0, Ef1, Ef2, Ef3, Ef4, Ef5, Ef6, Ef7⟩⟩ := blk8 E.out
      go_wp2_with fail
      clear Ec0 Ec1 Ec2 Ec3 Ec4 Ec5 Ec6 Ec7 Ef0 Ef1 Ef2 Ef3 Ef4 Ef5 Ef6 Ef7
      have E2 := Lib.hid (stN8_heap E.out (.int .i64 (kb.toNat : Int)) (.string ⟨u.toArray⟩) (.string ⟨#[]⟩) (.int .i64 (x.toNat : Int)) (.int .i64 a) (.int .i64 b) (.int .i64 c) (.string ⟨st.toArray⟩))
      have R2 := Lib.hid ((stN8_far w301 BE (.int .i64 (kb.toNat : Int)) (.string ⟨u.toArray⟩) (.string ⟨#[]⟩) (.int .i64 (x.toNat : Int)) (.int .i64 a) (.int .i64 b) (.int .i64 c) (.string ⟨st.toArray⟩) hRE).trans R.out)
      have HB2 := Lib.hid (stN8_below HB.out hBE (.int .i64 (kb.toNat : Int)) (.string ⟨u.toArray⟩) (.string ⟨#[]⟩) (.int .i64 (x.toNat : Int)) (.int .i64 a) (.int .i64 b) (.int .i64 c) (.string ⟨st.toArray⟩))
      unfold stN8 at E2 R2 HB2
      go_roundw
      case rel => exact ⟨.inr (.inr (.inr (⟨rfl, rfl, E2⟩))), R2, HB2⟩
      case measure => simp [intOf]
    · obtain ⟨⟨Ec0, Ec1, Ec2, Ec3, Ec4, Ec5, Ec6, Ec7⟩, ⟨Ef0, Ef1, Ef2, Ef3, Ef4, Ef5, Ef6, Ef7⟩⟩ := blk8 E.out
      obtain ⟨⟨Rc0, Rc1, Rc2, Rc3, Rc4, Rc5, Rc6, Rc7⟩, ⟨Rf0, Rf1, Rf2, Rf3, Rf4, Rf5, Rf6, Rf7⟩⟩ := blk8 R.out
      have hEl := (Array.getElem?_eq_some_iff.1 E.out).1
      have hRl := (Array.getElem?_eq_some_iff.1 R.out).1
      have hr2 := HR2.out
      go_wp2_with fail
      refine bodyPost_ret (v := .tuple #[.agg #[.int .i64 (kb.toNat : Int), .string ⟨u.toArray⟩, .string ⟨#[]⟩, .int .i64 (x.toNat : Int), .int .i64 a, .int .i64 b, .int .i64 c, .string ⟨st.toArray⟩], .bool r]) (by simp [results, Tryz.results26, go_sem, Rc0, Rc1, Rc2, Rc3, Rc4, Rc5, Rc6, Rc7]) rfl ⟨rfl, ?_⟩
      exact ((((((((HB.out.setCell (Nat.le_refl _) _).setCell (Nat.le_refl _) _).setCell (Nat.le_refl _) _).setCell (Nat.le_refl _) _).setCell (Nat.le_refl _) _).setCell (Nat.le_refl _) _).setCell (Nat.le_refl _) _).setCell (Nat.le_refl _) _)

set_option maxHeartbeats 1600000 in
set_option maxRecDepth 100000 in
theorem sctake_C2no (l : List UInt8) (hl : l.length ≤ 4294967296) (hne : 1 ≤ l.length) {kb : UInt8} (hb : l.getD 0 0 = kb) {u : List UInt8} {p : Nat} (HU : Hid (idTake l 1 = (u, p, 0))) (HK : Hid (scHas (kb.toNat : Int) = 6)) (hp : l.length ≤ p) (w : World) :
    Calls Tryz.prog 26 #[.string ⟨l.toArray⟩] w fun e w' => e = .returned (.tuple #[.agg #[.int .i64 0, .string ⟨#[]⟩, .string ⟨#[]⟩, .int .i64 0, .int .i64 0, .int .i64 0, .int .i64 0, .string ⟨#[]⟩], .bool false]) ∧ Below w.heap.size w w' := by
  obtain ⟨x1, x2, x3, x4, x5, x6, x7, x8, x9, x10, x11, x12⟩ := and_lits
  have hpl : p ≤ l.length := (idTake_bytes (p := 1) HU.out).2.2.1
  have hs1 : (⟨l.toArray⟩ : ByteArray).size = l.length := size_bytes l
  have hq0 : 0 < (⟨l.toArray⟩ : ByteArray).size := by omega
  have hb0 := getD_byte l 0 (by omega) hq0
  rw [hb] at hb0
  have hk256 := kb.toNat_lt
  have hnil : (l == []) = false := by cases l <;> simp at hne ⊢
  have hnil2 : l ≠ [] := by intro h; rw [h] at hne; simp at hne
  clear hb
  have b0 := bl_newZ w (.cells #[.int .i64 0, .string ⟨#[]⟩, .string ⟨#[]⟩, .int .i64 0, .int .i64 0, .int .i64 0, .int .i64 0, .string ⟨#[]⟩] 29)
  have HB := Lib.hid b0
  have R := newQ w (.cells #[.int .i64 0, .string ⟨#[]⟩, .string ⟨#[]⟩, .int .i64 0, .int .i64 0, .int .i64 0, .int .i64 0, .string ⟨#[]⟩] 29)
  replace R := Lib.hid R
  clear b0
  go_enter Tryz.func26, Tryz.ntmps26
  go_wp2_with fail
  refine (idtake_eq l hl 1 HU _).mono ?_
  rintro e w2 ⟨rfl, b2⟩
  replace R := Lib.hid (upQ R.out b2)
  replace HB := Lib.hid (below2Z HB.out b2)
  clear b2
  go_wp2_with fail
  have hRl0 := Lib.hid (Array.getElem?_eq_some_iff.1 R.out).1
  have b3 := bl_newZ w2 (.cells #[.int .i64 (kb.toNat : Int), .string ⟨u.toArray⟩, .string ⟨#[]⟩, .int .i64 0, .int .i64 0, .int .i64 0, .int .i64 0, .string ⟨#[]⟩] 29)
  have E := newQ w2 (.cells #[.int .i64 (kb.toNat : Int), .string ⟨u.toArray⟩, .string ⟨#[]⟩, .int .i64 0, .int .i64 0, .int .i64 0, .int .i64 0, .string ⟨#[]⟩] 29)
  have hE : w.heap.size ≤ w2.heap.size := HB.out.size
  replace R := Lib.hid (upQ R.out b3)
  replace HB := Lib.hid (below2Z HB.out b3)
  clear b3
  replace E := Lib.hid E
  generalize w2.alloc (.cells #[.int .i64 (kb.toNat : Int), .string ⟨u.toArray⟩, .string ⟨#[]⟩, .int .i64 0, .int .i64 0, .int .i64 0, .int .i64 0, .string ⟨#[]⟩] 29) = w4 at R E HB ⊢
  have hRE0 : ¬ w.heap.size = w2.heap.size := by have := hRl0.out; omega
  generalize w2.heap.size = BE at E hE hRE0 ⊢
  have hRE : ¬ w.heap.size = BE := hRE0
  have hBE : w.heap.size ≤ BE := hE
  go_loopw [5, 8] (fun v5 v8 wr => ((v5 = .int .i64 (p : Int) ∧ v8 = .int .i64 1 ∧ Hid (wr.heap[BE]? = some (.cells #[.int .i64 (kb.toNat : Int), .string ⟨u.toArray⟩, .string ⟨#[]⟩, .int .i64 0, .int .i64 0, .int .i64 0, .int .i64 0, .string ⟨#[]⟩] 29 (0, 0)))) ∨ (v5 = .int .i64 (p : Int) ∧ v8 = .int .i64 2 ∧ Hid (wr.heap[BE]? = some (.cells #[.int .i64 (kb.toNat : Int), .string ⟨u.toArray⟩, .string ⟨#[]⟩, .int .i64 0, .int .i64 0, .int .i64 0, .int .i64 0, .string ⟨#[]⟩] 29 (0, 0))))) ∧ Hid (wr.heap[w.heap.size]? = some (.cells #[.int .i64 0, .string ⟨#[]⟩, .string ⟨#[]⟩, .int .i64 0, .int .i64 0, .int .i64 0, .int .i64 0, .string ⟨#[]⟩] 29 (0, 0))) ∧ Hid (Below w.heap.size w wr)) (fun _ v8 _ => 8 - (intOf v8).toNat)
  case atStart => exact ⟨.inl ⟨rfl, rfl, E⟩, R, HB⟩
  case round =>
    clear E R HB
    obtain ⟨hcase, R, HB⟩ := hrel
    rcases hcase with ⟨rfl, rfl, E⟩ | ⟨rfl, rfl, E⟩
    · obtain ⟨⟨Ec0, Ec1, Ec2, Ec3, Ec4, Ec5, Ec6, Ec7⟩, ⟨Ef0, Ef1, Ef2, Ef3, Ef4, Ef5, Ef6, Ef7⟩⟩ := blk8 E.out
      obtain ⟨⟨Rc0, Rc1, Rc2, Rc3, Rc4, Rc5, Rc6, Rc7⟩, ⟨Rf0, Rf1, Rf2, Rf3, Rf4, Rf5, Rf6, Rf7⟩⟩ := blk8 R.out
      have hEl := (Array.getElem?_eq_some_iff.1 E.out).1
      have hRl := (Array.getElem?_eq_some_iff.1 R.out).1
      go_wp2_with fail
      refine (parts_eq _ HK _).mono ?_
      rintro e wp ⟨rfl, rfl⟩
      go_wp2_with fail
      clear Ec0 Ec1 Ec2 Ec3 Ec4 Ec5 Ec6 Ec7 Ef0 Ef1 Ef2 Ef3 Ef4 Ef5 Ef6 Ef7 Rc0 Rc1 Rc2 Rc3 Rc4 Rc5 Rc6 Rc7 Rf0 Rf1 Rf2 Rf3 Rf4 Rf5 Rf6 Rf7
      go_roundw
      case rel => exact ⟨.inr (⟨rfl, rfl, E⟩), R, HB⟩
      case measure => simp [intOf]
    · obtain ⟨⟨Ec0, Ec1, Ec2, Ec3, Ec4, Ec5, Ec6, Ec7⟩, ⟨Ef0, Ef1, Ef2, Ef3, Ef4, Ef5, Ef6, Ef7⟩⟩ := blk8 E.out
      obtain ⟨⟨Rc0, Rc1, Rc2, Rc3, Rc4, Rc5, Rc6, Rc7⟩, ⟨Rf0, Rf1, Rf2, Rf3, Rf4, Rf5, Rf6, Rf7⟩⟩ := blk8 R.out
      have hEl := (Array.getElem?_eq_some_iff.1 E.out).1
      have hRl := (Array.getElem?_eq_some_iff.1 R.out).1
      go_wp2_with fail
      refine (parts_eq _ HK _).mono ?_
      rintro e wp ⟨rfl, rfl⟩
      go_wp2_with fail
      clear Ec0 Ec1 Ec2 Ec3 Ec4 Ec5 Ec6 Ec7 Ef0 Ef1 Ef2 Ef3 Ef4 Ef5 Ef6 Ef7 Rc0 Rc1 Rc2 Rc3 Rc4 Rc5 Rc6 Rc7 Rf0 Rf1 Rf2 Rf3 Rf4 Rf5 Rf6 Rf7
      refine (tp2_no (kb.toNat : Int) u [] [] 0 0 0 0 l hl p hp _).mono ?_
      rintro e w201 ⟨rfl, b201⟩
      replace E := Lib.hid (upQ E.out b201)
      replace R := Lib.hid (upQ R.out b201)
      replace HB := Lib.hid (below2Z HB.out b201)
      clear b201
      obtain ⟨⟨Ec0, Ec1, Ec2, Ec3, Ec4, Ec5, Ec6, Ec7⟩, ⟨Ef0, Ef1, Ef2, Ef3, Ef4, Ef5, Ef6, Ef7⟩⟩ := blk8 E.out
      obtain ⟨⟨Rc0, Rc1, Rc2, Rc3, Rc4, Rc5, Rc6, Rc7⟩, ⟨Rf0, Rf1, Rf2, Rf3, Rf4, Rf5, Rf6, Rf7⟩⟩ := blk8 R.out
      go_wp2_with fail
      refine bodyPost_ret (v := .tuple #[.agg #[.int .i64 0, .string ⟨#[]⟩, .string ⟨#[]⟩, .int .i64 0, .int .i64 0, .int .i64 0, .int .i64 0, .string ⟨#[]⟩], .bool false]) (by simp [results, Tryz.results26, go_sem, Rc0, Rc1, Rc2, Rc3, Rc4, Rc5, Rc6, Rc7]) rfl ⟨rfl, ?_⟩
      exact ((((((((((((((((HB.out.setCell hBE _).setCell hBE _).setCell hBE _).setCell hBE _).setCell hBE _).setCell hBE _).setCell hBE _).setCell hBE _).setCell (Nat.le_refl _) _).setCell (Nat.le_refl _) _).setCell (Nat.le_refl _) _).setCell (Nat.le_refl _) _).setCell (Nat.le_refl _) _).setCell (Nat.le_refl _) _).setCell (Nat.le_refl _) _).setCell (Nat.le_refl _) _)

set_option maxHeartbeats 1600000 in
set_option maxRecDepth 100000 in
theorem sctake_C4no (l : List UInt8) (hl : l.length ≤ 4294967296) (hne : 1 ≤ l.length) {kb : UInt8} (hb : l.getD 0 0 = kb) {u : List UInt8} {p : Nat} (HU : Hid (idTake l 1 = (u, p, 0))) (HK : Hid (scHas (kb.toNat : Int) = 6)) (hp : p < l.length) {x : UInt8} (hx : l.getD p 0 = x) {a b c : Int} {st : List UInt8} {q er : Nat} (HV : Hid (vaTake l ((p + 1 : Nat) : Int) = (⟨a, b, c, st⟩, q, er))) (he : er ≠ 0) (w : World) :
    Calls Tryz.prog 26 #[.string ⟨l.toArray⟩] w fun e w' => e = .returned (.tuple #[.agg #[.int .i64 0, .string ⟨#[]⟩, .string ⟨#[]⟩, .int .i64 0, .int .i64 0, .int .i64 0, .int .i64 0, .string ⟨#[]⟩], .bool false]) ∧ Below w.heap.size w w' := by
  obtain ⟨x1, x2, x3, x4, x5, x6, x7, x8, x9, x10, x11, x12⟩ := and_lits
  have hpl : p ≤ l.length := (idTake_bytes (p := 1) HU.out).2.2.1
  have hs1 : (⟨l.toArray⟩ : ByteArray).size = l.length := size_bytes l
  have hq0 : 0 < (⟨l.toArray⟩ : ByteArray).size := by omega
  have hb0 := getD_byte l 0 (by omega) hq0
  rw [hb] at hb0
  have hk256 := kb.toNat_lt
  have hnil : (l == []) = false := by cases l <;> simp at hne ⊢
  have hnil2 : l ≠ [] := by intro h; rw [h] at hne; simp at hne
  have HB8 := Lib.hid hs1
  clear hb
  have b0 := bl_newZ w (.cells #[.int .i64 0, .string ⟨#[]⟩, .string ⟨#[]⟩, .int .i64 0, .int .i64 0, .int .i64 0, .int .i64 0, .string ⟨#[]⟩] 29)
  have HB := Lib.hid b0
  have R := newQ w (.cells #[.int .i64 0, .string ⟨#[]⟩, .string ⟨#[]⟩, .int .i64 0, .int .i64 0, .int .i64 0, .int .i64 0, .string ⟨#[]⟩] 29)
  replace R := Lib.hid R
  clear b0
  go_enter Tryz.func26, Tryz.ntmps26
  go_wp2_with fail
  refine (idtake_eq l hl 1 HU _).mono ?_
  rintro e w2 ⟨rfl, b2⟩
  replace R := Lib.hid (upQ R.out b2)
  replace HB := Lib.hid (below2Z HB.out b2)
  clear b2
  go_wp2_with fail
  have hRl0 := Lib.hid (Array.getElem?_eq_some_iff.1 R.out).1
  have b3 := bl_newZ w2 (.cells #[.int .i64 (kb.toNat : Int), .string ⟨u.toArray⟩, .string ⟨#[]⟩, .int .i64 0, .int .i64 0, .int .i64 0, .int .i64 0, .string ⟨#[]⟩] 29)
  have E := newQ w2 (.cells #[.int .i64 (kb.toNat : Int), .string ⟨u.toArray⟩, .string ⟨#[]⟩, .int .i64 0, .int .i64 0, .int .i64 0, .int .i64 0, .string ⟨#[]⟩] 29)
  have hE : w.heap.size ≤ w2.heap.size := HB.out.size
  replace R := Lib.hid (upQ R.out b3)
  replace HB := Lib.hid (below2Z HB.out b3)
  clear b3
  replace E := Lib.hid E
  generalize w2.alloc (.cells #[.int .i64 (kb.toNat : Int), .string ⟨u.toArray⟩, .string ⟨#[]⟩, .int .i64 0, .int .i64 0, .int .i64 0, .int .i64 0, .string ⟨#[]⟩] 29) = w4 at R E HB ⊢
  have hRE0 : ¬ w.heap.size = w2.heap.size := by have := hRl0.out; omega
  generalize w2.heap.size = BE at E hE hRE0 ⊢
  have hRE : ¬ w.heap.size = BE := hRE0
  have hBE : w.heap.size ≤ BE := hE
  go_loopw [5, 8] (fun v5 v8 wr => ((v5 = .int .i64 (p : Int) ∧ v8 = .int .i64 1 ∧ Hid (wr.heap[BE]? = some (.cells #[.int .i64 (kb.toNat : Int), .string ⟨u.toArray⟩, .string ⟨#[]⟩, .int .i64 0, .int .i64 0, .int .i64 0, .int .i64 0, .string ⟨#[]⟩] 29 (0, 0)))) ∨ (v5 = .int .i64 (p : Int) ∧ v8 = .int .i64 2 ∧ Hid (wr.heap[BE]? = some (.cells #[.int .i64 (kb.toNat : Int), .string ⟨u.toArray⟩, .string ⟨#[]⟩, .int .i64 0, .int .i64 0, .int .i64 0, .int .i64 0, .string ⟨#[]⟩] 29 (0, 0)))) ∨ (v5 = .int .i64 ((p + 1 : Nat) : Int) ∧ v8 = .int .i64 4 ∧ Hid (wr.heap[BE]? = some (.cells #[.int .i64 (kb.toNat : Int), .string ⟨u.toArray⟩, .string ⟨#[]⟩, .int .i64 (x.toNat : Int), .int .i64 0, .int .i64 0, .int .i64 0, .string ⟨#[]⟩] 29 (0, 0))))) ∧ Hid (wr.heap[w.heap.size]? = some (.cells #[.int .i64 0, .string ⟨#[]⟩, .string ⟨#[]⟩, .int .i64 0, .int .i64 0, .int .i64 0, .int .i64 0, .string ⟨#[]⟩] 29 (0, 0))) ∧ Hid (Below w.heap.size w wr)) (fun _ v8 _ => 8 - (intOf v8).toNat)
  case atStart => exact ⟨.inl ⟨rfl, rfl, E⟩, R, HB⟩
  case round =>
    clear E R HB
    obtain ⟨hcase, R, HB⟩ := hrel
    rcases hcase with ⟨rfl, rfl, E⟩ | ⟨rfl, rfl, E⟩ | ⟨rfl, rfl, E⟩
    · obtain ⟨⟨Ec0, Ec1, Ec2, Ec3, Ec4, Ec5, Ec6, Ec7⟩, ⟨Ef0, Ef1, Ef2, Ef3, Ef4, Ef5, Ef6, Ef7⟩⟩ := blk8 E.out
      obtain ⟨⟨Rc0, Rc1, Rc2, Rc3, Rc4, Rc5, Rc6, Rc7⟩, ⟨Rf0, Rf1, Rf2, Rf3, Rf4, Rf5, Rf6, Rf7⟩⟩ := blk8 R.out
      have hEl := (Array.getElem?_eq_some_iff.1 E.out).1
      have hRl := (Array.getElem?_eq_some_iff.1 R.out).1
      go_wp2_with fail
      refine (parts_eq _ HK _).mono ?_
      rintro e wp ⟨rfl, rfl⟩
      go_wp2_with fail
      clear Ec0 Ec1 Ec2 Ec3 Ec4 Ec5 Ec6 Ec7 Ef0 Ef1 Ef2 Ef3 Ef4 Ef5 Ef6 Ef7 Rc0 Rc1 Rc2 Rc3 Rc4 Rc5 Rc6 Rc7 Rf0 Rf1 Rf2 Rf3 Rf4 Rf5 Rf6 Rf7
      go_roundw
      case rel => exact ⟨.inr (.inl ⟨rfl, rfl, E⟩), R, HB⟩
      case measure => simp [intOf]
    · obtain ⟨⟨Ec0, Ec1, Ec2, Ec3, Ec4, Ec5, Ec6, Ec7⟩, ⟨Ef0, Ef1, Ef2, Ef3, Ef4, Ef5, Ef6, Ef7⟩⟩ := blk8 E.out
      obtain ⟨⟨Rc0, Rc1, Rc2, Rc3, Rc4, Rc5, Rc6, Rc7⟩, ⟨Rf0, Rf1, Rf2, Rf3, Rf4, Rf5, Rf6, Rf7⟩⟩ := blk8 R.out
      have hEl := (Array.getElem?_eq_some_iff.1 E.out).1
      have hRl := (Array.getElem?_eq_some_iff.1 R.out).1
      go_wp2_with fail
      refine (parts_eq _ HK _).mono ?_
      rintro e wp ⟨rfl, rfl⟩
      go_wp2_with fail
      clear Ec0 Ec1 Ec2 Ec3 Ec4 Ec5 Ec6 Ec7 Ef0 Ef1 Ef2 Ef3 Ef4 Ef5 Ef6 Ef7 Rc0 Rc1 Rc2 Rc3 Rc4 Rc5 Rc6 Rc7 Rf0 Rf1 Rf2 Rf3 Rf4 Rf5 Rf6 Rf7
      refine (tp2_yes (kb.toNat : Int) u [] [] 0 0 0 0 l hl p hp hx _).mono ?_
      rintro e w201 ⟨rfl, b201⟩
      replace E := Lib.hid (upQ E.out b201)
      replace R := Lib.hid (upQ R.out b201)
      replace HB := Lib.hid (below2Z HB.out b201)
      clear b201
      obtain ⟨⟨Ec0, Ec1, Ec2, Ec3, Ec4, Ec5, Ec6, Ec7⟩, ⟨Ef0, Ef1, Ef2, Ef3, Ef4, Ef5, Ef6, Ef7⟩⟩ := blk8 E.out
      go_wp2_with fail
      clear Ec0 Ec1 Ec2 Ec3 Ec4 Ec5 Ec6 Ec7 Ef0 Ef1 Ef2 Ef3 Ef4 Ef5 Ef6 Ef7
      have E2 := Lib.hid (stN8_heap E.out (.int .i64 (kb.toNat : Int)) (.string ⟨u.toArray⟩) (.string ⟨#[]⟩) (.int .i64 (x.toNat : Int)) (.int .i64 0) (.int .i64 0) (.int .i64 0) (.string ⟨#[]⟩))
      have R2 := Lib.hid ((stN8_far w201 BE (.int .i64 (kb.toNat : Int)) (.string ⟨u.toArray⟩) (.string ⟨#[]⟩) (.int .i64 (x.toNat : Int)) (.int .i64 0) (.int .i64 0) (.int .i64 0) (.string ⟨#[]⟩) hRE).trans R.out)
      have HB2 := Lib.hid (stN8_below HB.out hBE (.int .i64 (kb.toNat : Int)) (.string ⟨u.toArray⟩) (.string ⟨#[]⟩) (.int .i64 (x.toNat : Int)) (.int .i64 0) (.int .i64 0) (.int .i64 0) (.string ⟨#[]⟩))
      unfold stN8 at E2 R2 HB2
      go_roundw
      case rel => exact ⟨.inr (.inr (⟨rfl, rfl, E2⟩)), R2, HB2⟩
      case measure => simp [intOf]
    · obtain ⟨⟨Ec0, Ec1, Ec2, Ec3, Ec4, Ec5, Ec6, Ec7⟩, ⟨Ef0, Ef1, Ef2, Ef3, Ef4, Ef5, Ef6, Ef7⟩⟩ := blk8 E.out
      obtain ⟨⟨Rc0, Rc1, Rc2, Rc3, Rc4, Rc5, Rc6, Rc7⟩, ⟨Rf0, Rf1, Rf2, Rf3, Rf4, Rf5, Rf6, Rf7⟩⟩ := blk8 R.out
      have hEl := (Array.getElem?_eq_some_iff.1 E.out).1
      have hRl := (Array.getElem?_eq_some_iff.1 R.out).1
      go_wp2_with fail
      refine (parts_eq _ HK _).mono ?_
      rintro e wp ⟨rfl, rfl⟩
      go_wp2_with fail
      clear Ec0 Ec1 Ec2 Ec3 Ec4 Ec5 Ec6 Ec7 Ef0 Ef1 Ef2 Ef3 Ef4 Ef5 Ef6 Ef7 Rc0 Rc1 Rc2 Rc3 Rc4 Rc5 Rc6 Rc7 Rf0 Rf1 Rf2 Rf3 Rf4 Rf5 Rf6 Rf7
      refine (tp4_no (kb.toNat : Int) u [] [] (x.toNat : Int) 0 0 0 l hl ((p + 1 : Nat) : Int) HV he _).mono ?_
      rintro e w301 ⟨rfl, b301⟩
      replace E := Lib.hid (upQ E.out b301)
      replace R := Lib.hid (upQ R.out b301)
      replace HB := Lib.hid (below2Z HB.out b301)
      clear b301
      obtain ⟨⟨Ec0, Ec1, Ec2, Ec3, Ec4, Ec5, Ec6, Ec7⟩, ⟨Ef0, Ef1, Ef2, Ef3, Ef4, Ef5, Ef6, Ef7⟩⟩ := blk8 E.out
      obtain ⟨⟨Rc0, Rc1, Rc2, Rc3, Rc4, Rc5, Rc6, Rc7⟩, ⟨Rf0, Rf1, Rf2, Rf3, Rf4, Rf5, Rf6, Rf7⟩⟩ := blk8 R.out
      go_wp2_with fail
      refine bodyPost_ret (v := .tuple #[.agg #[.int .i64 0, .string ⟨#[]⟩, .string ⟨#[]⟩, .int .i64 0, .int .i64 0, .int .i64 0, .int .i64 0, .string ⟨#[]⟩], .bool false]) (by simp [results, Tryz.results26, go_sem, Rc0, Rc1, Rc2, Rc3, Rc4, Rc5, Rc6, Rc7]) rfl ⟨rfl, ?_⟩
      exact ((((((((((((((((HB.out.setCell hBE _).setCell hBE _).setCell hBE _).setCell hBE _).setCell hBE _).setCell hBE _).setCell hBE _).setCell hBE _).setCell (Nat.le_refl _) _).setCell (Nat.le_refl _) _).setCell (Nat.le_refl _) _).setCell (Nat.le_refl _) _).setCell (Nat.le_refl _) _).setCell (Nat.le_refl _) _).setCell (Nat.le_refl _) _).setCell (Nat.le_refl _) _)

set_option maxHeartbeats 1600000 in
set_option maxRecDepth 100000 in
theorem sctake_D (l : List UInt8) (hl : l.length ≤ 4294967296) (hne : 1 ≤ l.length) {kb : UInt8} (hb : l.getD 0 0 = kb) {u : List UInt8} {p : Nat} (HU : Hid (idTake l 1 = (u, p, 0))) (HK : Hid (scHas (kb.toNat : Int) = 2)) (hp : p < l.length) {x : UInt8} (hx : l.getD p 0 = x) {r : Bool} (hr : decide (p + 1 = l.length) = r) (w : World) :
    Calls Tryz.prog 26 #[.string ⟨l.toArray⟩] w fun e w' => e = .returned (.tuple #[.agg #[.int .i64 (kb.toNat : Int), .string ⟨u.toArray⟩, .string ⟨#[]⟩, .int .i64 (x.toNat : Int), .int .i64 0, .int .i64 0, .int .i64 0, .string ⟨#[]⟩], .bool r]) ∧ Below w.heap.size w w' := by
  obtain ⟨x1, x2, x3, x4, x5, x6, x7, x8, x9, x10, x11, x12⟩ := and_lits
  have hpl : p ≤ l.length := (idTake_bytes (p := 1) HU.out).2.2.1
  have hr2 : ((((p + 1 : Nat) : Int)) == (l.length : Int)) = r := by rw [← hr]; by_cases h : p + 1 = l.length <;> simp [h] <;> omega
  have HR2 := Lib.hid hr2
  clear hr hr2
  have hs1 : (⟨l.toArray⟩ : ByteArray).size = l.length := size_bytes l
  have hq0 : 0 < (⟨l.toArray⟩ : ByteArray).size := by omega
  have hb0 := getD_byte l 0 (by omega) hq0
  rw [hb] at hb0
  have hk256 := kb.toNat_lt
  have hnil : (l == []) = false := by cases l <;> simp at hne ⊢
  have hnil2 : l ≠ [] := by intro h; rw [h] at hne; simp at hne
  clear hb
  have b0 := bl_newZ w (.cells #[.int .i64 0, .string ⟨#[]⟩, .string ⟨#[]⟩, .int .i64 0, .int .i64 0, .int .i64 0, .int .i64 0, .string ⟨#[]⟩] 29)
  have HB := Lib.hid b0
  have R := newQ w (.cells #[.int .i64 0, .string ⟨#[]⟩, .string ⟨#[]⟩, .int .i64 0, .int .i64 0, .int .i64 0, .int .i64 0, .string ⟨#[]⟩] 29)
  replace R := Lib.hid R
  clear b0
  go_enter Tryz.func26, Tryz.ntmps26
  go_wp2_with fail
  refine (idtake_eq l hl 1 HU _).mono ?_
  rintro e w2 ⟨rfl, b2⟩
  replace R := Lib.hid (upQ R.out b2)
  replace HB := Lib.hid (below2Z HB.out b2)
  clear b2
  go_wp2_with fail
  have hRl0 := Lib.hid (Array.getElem?_eq_some_iff.1 R.out).1
  have b3 := bl_newZ w2 (.cells #[.int .i64 (kb.toNat : Int), .string ⟨u.toArray⟩, .string ⟨#[]⟩, .int .i64 0, .int .i64 0, .int .i64 0, .int .i64 0, .string ⟨#[]⟩] 29)
  have E := newQ w2 (.cells #[.int .i64 (kb.toNat : Int), .string ⟨u.toArray⟩, .string ⟨#[]⟩, .int .i64 0, .int .i64 0, .int .i64 0, .int .i64 0, .string ⟨#[]⟩] 29)
  have hE : w.heap.size ≤ w2.heap.size := HB.out.size
  replace R := Lib.hid (upQ R.out b3)
  replace HB := Lib.hid (below2Z HB.out b3)
  clear b3
  replace E := Lib.hid E
  generalize w2.alloc (.cells #[.int .i64 (kb.toNat : Int), .string ⟨u.toArray⟩, .string ⟨#[]⟩, .int .i64 0, .int .i64 0, .int .i64 0, .int .i64 0, .string ⟨#[]⟩] 29) = w4 at R E HB ⊢
  have hRE0 : ¬ w.heap.size = w2.heap.size := by have := hRl0.out; omega
  generalize w2.heap.size = BE at E hE hRE0 ⊢
  have hRE : ¬ w.heap.size = BE := hRE0
  have hBE : w.heap.size ≤ BE := hE
  go_loopw [5, 8] (fun v5 v8 wr => ((v5 = .int .i64 (p : Int) ∧ v8 = .int .i64 1 ∧ Hid (wr.heap[BE]? = some (.cells #[.int .i64 (kb.toNat : Int), .string ⟨u.toArray⟩, .string ⟨#[]⟩, .int .i64 0, .int .i64 0, .int .i64 0, .int .i64 0, .string ⟨#[]⟩] 29 (0, 0)))) ∨ (v5 = .int .i64 (p : Int) ∧ v8 = .int .i64 2 ∧ Hid (wr.heap[BE]? = some (.cells #[.int .i64 (kb.toNat : Int), .string ⟨u.toArray⟩, .string ⟨#[]⟩, .int .i64 0, .int .i64 0, .int .i64 0, .int .i64 0, .string ⟨#[]⟩] 29 (0, 0)))) ∨ (v5 = .int .i64 ((p + 1 : Nat) : Int) ∧ v8 = .int .i64 4 ∧ Hid (wr.heap[BE]? = some (.cells #[.int .i64 (kb.toNat : Int), .string ⟨u.toArray⟩, .string ⟨#[]⟩, .int .i64 (x.toNat : Int), .int .i64 0, .int .i64 0, .int .i64 0, .string ⟨#[]⟩] 29 (0, 0)))) ∨ (v5 = .int .i64 ((p + 1 : Nat) : Int) ∧ v8 = .int .i64 8 ∧ Hid (wr.heap[BE]? = some (.cells #[.int .i64 (kb.toNat : Int), .string ⟨u.toArray⟩, .string ⟨#[]⟩, .int .i64 (x.toNat : Int), .int .i64 0, .int .i64 0, .int .i64 0, .string ⟨#[]⟩] 29 (0, 0))))) ∧ Hid (wr.heap[w.heap.size]? = some (.cells #[.int .i64 0, .string ⟨#[]⟩, .string ⟨#[]⟩, .int .i64 0, .int .i64 0, .int .i64 0, .int .i64 0, .string ⟨#[]⟩] 29 (0, 0))) ∧ Hid (Below w.heap.size w wr)) (fun _ v8 _ => 8 - (intOf v8).toNat)
  case atStart => exact ⟨.inl ⟨rfl, rfl, E⟩, R, HB⟩
  case round =>
    clear E R HB
    obtain ⟨hcase, R, HB⟩ := hrel
    rcases hcase with ⟨rfl, rfl, E⟩ | ⟨rfl, rfl, E⟩ | ⟨rfl, rfl, E⟩ | ⟨rfl, rfl, E⟩
    · obtain ⟨⟨Ec0, Ec1, Ec2, Ec3, Ec4, Ec5, Ec6, Ec7⟩, ⟨Ef0, Ef1, Ef2, Ef3, Ef4, Ef5, Ef6, Ef7⟩⟩ := blk8 E.out
      obtain ⟨⟨Rc0, Rc1, Rc2, Rc3, Rc4, Rc5, Rc6, Rc7⟩, ⟨Rf0, Rf1, Rf2, Rf3, Rf4, Rf5, Rf6, Rf7⟩⟩ := blk8 R.out
      have hEl := (Array.getElem?_eq_some_iff.1 E.out).1
      have hRl := (Array.getElem?_eq_some_iff.1 R.out).1
      go_wp2_with fail
      refine (parts_eq _ HK _).mono ?_
      rintro e wp ⟨rfl, rfl⟩
      go_wp2_with fail
      clear Ec0 Ec1 Ec2 Ec3 Ec4 Ec5 Ec6 Ec7 Ef0 Ef1 Ef2 Ef3 Ef4 Ef5 Ef6 Ef7 Rc0 Rc1 Rc2 Rc3 Rc4 Rc5 Rc6 Rc7 Rf0 Rf1 Rf2 Rf3 Rf4 Rf5 Rf6 Rf7
      go_roundw
      case rel => exact ⟨.inr (.inl ⟨rfl, rfl, E⟩), R, HB⟩
      case measure => simp [intOf]
    · obtain ⟨⟨Ec0, Ec1, Ec2, Ec3, Ec4, Ec5, Ec6, Ec7⟩, ⟨Ef0, Ef1, Ef2, Ef3, Ef4, Ef5, Ef6, Ef7⟩⟩ := blk8 E.out
      obtain ⟨⟨Rc0, Rc1, Rc2, Rc3, Rc4, Rc5, Rc6, Rc7⟩, ⟨Rf0, Rf1, Rf2, Rf3, Rf4, Rf5, Rf6, Rf7⟩⟩ := blk8 R.out
      have hEl := (Array.getElem?_eq_some_iff.1 E.out).1
      have hRl := (Array.getElem?_eq_some_iff.1 R.out).1
      go_wp2_with fail
      refine (parts_eq _ HK _).mono ?_
      rintro e wp ⟨rfl, rfl⟩
      go_wp2_with fail
      clear Ec0 Ec1 Ec2 Ec3 Ec4 Ec5 Ec6 Ec7 Ef0 Ef1 Ef2 Ef3 Ef4 Ef5 Ef6 Ef7 Rc0 Rc1 Rc2 Rc3 Rc4 Rc5 Rc6 Rc7 Rf0 Rf1 Rf2 Rf3 Rf4 Rf5 Rf6 Rf7
      refine (tp2_yes (kb.toNat : Int) u [] [] 0 0 0 0 l hl p hp hx _).mono ?_
      rintro e w201 ⟨rfl, b201⟩
      replace E := Lib.hid (upQ E.out b201)
      replace R := Lib.hid (upQ R.out b201)
      replace HB := Lib.hid (below2Z HB.out b201)
      clear b201
      obtain ⟨⟨Ec0, Ec1, Ec2, Ec3, Ec4, Ec5, Ec6, Ec7⟩, ⟨Ef0, Ef1, Ef2, Ef3, Ef4, Ef5, Ef6, Ef7⟩⟩ := blk8 E.out
      go_wp2_with fail
      clear Ec0 Ec1 Ec2 Ec3 Ec4 Ec5 Ec6 Ec7 Ef0 Ef1 Ef2 Ef3 Ef4 Ef5 Ef6 Ef7
      have E2 := Lib.hid (stN8_heap E.out (.int .i64 (kb.toNat : Int)) (.string ⟨u.toArray⟩) (.string ⟨#[]⟩) (.int .i64 (x.toNat : Int)) (.int .i64 0) (.int .i64 0) (.int .i64 0) (.string ⟨#[]⟩))
      have R2 := Lib.hid ((stN8_far w201 BE (.int .i64 (kb.toNat : Int)) (.string ⟨u.toArray⟩) (.string ⟨#[]⟩) (.int .i64 (x.toNat : Int)) (.int .i64 0) (.int .i64 0) (.int .i64 0) (.string ⟨#[]⟩) hRE).trans R.out)
      have HB2 := Lib.hid (stN8_below HB.out hBE (.int .i64 (kb.toNat : Int)) (.string ⟨u.toArray⟩) (.string ⟨#[]⟩) (.int .i64 (x.toNat : Int)) (.int .i64 0) (.int .i64 0) (.int .i64 0) (.string ⟨#[]⟩))
      unfold stN8 at E2 R2 HB2
      go_roundw
      case rel => exact ⟨.inr (.inr (.inl ⟨rfl, rfl, E2⟩)), R2, HB2⟩
      case measure => simp [intOf]
    · obtain ⟨⟨Ec0, Ec1, Ec2, Ec3, Ec4, Ec5, Ec6, Ec7⟩, ⟨Ef0, Ef1, Ef2, Ef3, Ef4, Ef5, Ef6, Ef7⟩⟩ := blk8 E.out
      obtain ⟨⟨Rc0, Rc1, Rc2, Rc3, Rc4, Rc5, Rc6, Rc7⟩, ⟨Rf0, Rf1, Rf2, Rf3, Rf4, Rf5, Rf6, Rf7⟩⟩ := blk8 R.out
      have hEl := (Array.getElem?_eq_some_iff.1 E.out).1
      have hRl := (Array.getElem?_eq_some_iff.1 R.out).1
      go_wp2_with fail
      refine (parts_eq _ HK _).mono ?_
      rintro e wp ⟨rfl, rfl⟩
      go_wp2_with fail
      clear Ec0 Ec1 Ec2 Ec3 Ec4 Ec5 Ec6 Ec7 Ef0 Ef1 Ef2 Ef3 Ef4 Ef5 Ef6 Ef7 Rc0 Rc1 Rc2 Rc3 Rc4 Rc5 Rc6 Rc7 Rf0 Rf1 Rf2 Rf3 Rf4 Rf5 Rf6 Rf7
      go_roundw
      case rel => exact ⟨.inr (.inr (.inr (⟨rfl, rfl, E⟩))), R, HB⟩
      case measure => simp [intOf]
    · obtain ⟨⟨Ec0, Ec1, Ec2, Ec3, Ec4, Ec5, Ec6, Ec7⟩, ⟨Ef0, Ef1, Ef2, Ef3, Ef4, Ef5, Ef6, Ef7⟩⟩ := blk8 E.out
      obtain ⟨⟨Rc0, Rc1, Rc2, Rc3, Rc4, Rc5, Rc6, Rc7⟩, ⟨Rf0, Rf1, Rf2, Rf3, Rf4, Rf5, Rf6, Rf7⟩⟩ := blk8 R.out
      have hEl := (Array.getElem?_eq_some_iff.1 E.out).1
      have hRl := (Array.getElem?_eq_some_iff.1 R.out).1
      have hr2 := HR2.out
      have hr3 : (((p : Int) + 1) == (l.length : Int)) = r := hr2
      go_wp2_with fail
      refine bodyPost_ret (v := .tuple #[.agg #[.int .i64 (kb.toNat : Int), .string ⟨u.toArray⟩, .string ⟨#[]⟩, .int .i64 (x.toNat : Int), .int .i64 0, .int .i64 0, .int .i64 0, .string ⟨#[]⟩], .bool r]) (by simp [results, Tryz.results26, go_sem, Rc0, Rc1, Rc2, Rc3, Rc4, Rc5, Rc6, Rc7]) rfl ⟨rfl, ?_⟩
      exact ((((((((HB.out.setCell (Nat.le_refl _) _).setCell (Nat.le_refl _) _).setCell (Nat.le_refl _) _).setCell (Nat.le_refl _) _).setCell (Nat.le_refl _) _).setCell (Nat.le_refl _) _).setCell (Nat.le_refl _) _).setCell (Nat.le_refl _) _)

set_option maxHeartbeats 1600000 in
set_option maxRecDepth 100000 in
theorem sctake_D2no (l : List UInt8) (hl : l.length ≤ 4294967296) (hne : 1 ≤ l.length) {kb : UInt8} (hb : l.getD 0 0 = kb) {u : List UInt8} {p : Nat} (HU : Hid (idTake l 1 = (u, p, 0))) (HK : Hid (scHas (kb.toNat : Int) = 2)) (hp : l.length ≤ p) (w : World) :
    Calls Tryz.prog 26 #[.string ⟨l.toArray⟩] w fun e w' => e = .returned (.tuple #[.agg #[.int .i64 0, .string ⟨#[]⟩, .string ⟨#[]⟩, .int .i64 0, .int .i64 0, .int .i64 0, .int .i64 0, .string ⟨#[]⟩], .bool false]) ∧ Below w.heap.size w w' := by
  obtain ⟨x1, x2, x3, x4, x5, x6, x7, x8, x9, x10, x11, x12⟩ := and_lits
  have hpl : p ≤ l.length := (idTake_bytes (p := 1) HU.out).2.2.1
  have hs1 : (⟨l.toArray⟩ : ByteArray).size = l.length := size_bytes l
  have hq0 : 0 < (⟨l.toArray⟩ : ByteArray).size := by omega
  have hb0 := getD_byte l 0 (by omega) hq0
  rw [hb] at hb0
  have hk256 := kb.toNat_lt
  have hnil : (l == []) = false := by cases l <;> simp at hne ⊢
  have hnil2 : l ≠ [] := by intro h; rw [h] at hne; simp at hne
  clear hb
  have b0 := bl_newZ w (.cells #[.int .i64 0, .string ⟨#[]⟩, .string ⟨#[]⟩, .int .i64 0, .int .i64 0, .int .i64 0, .int .i64 0, .string ⟨#[]⟩] 29)
  have HB := Lib.hid b0
  have R := newQ w (.cells #[.int .i64 0, .string ⟨#[]⟩, .string ⟨#[]⟩, .int .i64 0, .int .i64 0, .int .i64 0, .int .i64 0, .string ⟨#[]⟩] 29)
  replace R := Lib.hid R
  clear b0
  go_enter Tryz.func26, Tryz.ntmps26
  go_wp2_with fail
  refine (idtake_eq l hl 1 HU _).mono ?_
  rintro e w2 ⟨rfl, b2⟩
  replace R := Lib.hid (upQ R.out b2)
  replace HB := Lib.hid (below2Z HB.out b2)
  clear b2
  go_wp2_with fail
  have hRl0 := Lib.hid (Array.getElem?_eq_some_iff.1 R.out).1
  have b3 := bl_newZ w2 (.cells #[.int .i64 (kb.toNat : Int), .string ⟨u.toArray⟩, .string ⟨#[]⟩, .int .i64 0, .int .i64 0, .int .i64 0, .int .i64 0, .string ⟨#[]⟩] 29)
  have E := newQ w2 (.cells #[.int .i64 (kb.toNat : Int), .string ⟨u.toArray⟩, .string ⟨#[]⟩, .int .i64 0, .int .i64 0, .int .i64 0, .int .i64 0, .string ⟨#[]⟩] 29)
  have hE : w.heap.size ≤ w2.heap.size := HB.out.size
  replace R := Lib.hid (upQ R.out b3)
  replace HB := Lib.hid (below2Z HB.out b3)
  clear b3
  replace E := Lib.hid E
  generalize w2.alloc (.cells #[.int .i64 (kb.toNat : Int), .string ⟨u.toArray⟩, .string ⟨#[]⟩, .int .i64 0, .int .i64 0, .int .i64 0, .int .i64 0, .string ⟨#[]⟩] 29) = w4 at R E HB ⊢
  have hRE0 : ¬ w.heap.size = w2.heap.size := by have := hRl0.out; omega
  generalize w2.heap.size = BE at E hE hRE0 ⊢
  have hRE : ¬ w.heap.size = BE := hRE0
  have hBE : w.heap.size ≤ BE := hE
  go_loopw [5, 8] (fun v5 v8 wr => ((v5 = .int .i64 (p : Int) ∧ v8 = .int .i64 1 ∧ Hid (wr.heap[BE]? = some (.cells #[.int .i64 (kb.toNat : Int), .string ⟨u.toArray⟩, .string ⟨#[]⟩, .int .i64 0, .int .i64 0, .int .i64 0, .int .i64 0, .string ⟨#[]⟩] 29 (0, 0)))) ∨ (v5 = .int .i64 (p : Int) ∧ v8 = .int .i64 2 ∧ Hid (wr.heap[BE]? = some (.cells #[.int .i64 (kb.toNat : Int), .string ⟨u.toArray⟩, .string ⟨#[]⟩, .int .i64 0, .int .i64 0, .int .i64 0, .int .i64 0, .string ⟨#[]⟩] 29 (0, 0))))) ∧ Hid (wr.heap[w.heap.size]? = some (.cells #[.int .i64 0, .string ⟨#[]⟩, .string ⟨#[]⟩, .int .i64 0, .int .i64 0, .int .i64 0, .int .i64 0, .string ⟨#[]⟩] 29 (0, 0))) ∧ Hid (Below w.heap.size w wr)) (fun _ v8 _ => 8 - (intOf v8).toNat)
  case atStart => exact ⟨.inl ⟨rfl, rfl, E⟩, R, HB⟩
  case round =>
    clear E R HB
    obtain ⟨hcase, R, HB⟩ := hrel
    rcases hcase with ⟨rfl, rfl, E⟩ | ⟨rfl, rfl, E⟩
    · obtain ⟨⟨Ec0, Ec1, Ec2, Ec3, Ec4, Ec5, Ec6, Ec7⟩, ⟨Ef0, Ef1, Ef2, Ef3, Ef4, Ef5, Ef6, Ef7⟩⟩ := blk8 E.out
      obtain ⟨⟨Rc0, Rc1, Rc2, Rc3, Rc4, Rc5, Rc6, Rc7⟩, ⟨Rf0, Rf1, Rf2, Rf3, Rf4, Rf5, Rf6, Rf7⟩⟩ := blk8 R.out
      have hEl := (Array.getElem?_eq_some_iff.1 E.out).1
      have hRl := (Array.getElem?_eq_some_iff.1 R.out).1
      go_wp2_with fail
      refine (parts_eq _ HK _).mono ?_
      rintro e wp ⟨rfl, rfl⟩
      go_wp2_with fail
      clear Ec0 Ec1 Ec2 Ec3 Ec4 Ec5 Ec6 Ec7 Ef0 Ef1 Ef2 Ef3 Ef4 Ef5 Ef6 Ef7 Rc0 Rc1 Rc2 Rc3 Rc4 Rc5 Rc6 Rc7 Rf0 Rf1 Rf2 Rf3 Rf4 Rf5 Rf6 Rf7
      go_roundw
      case rel => exact ⟨.inr (⟨rfl, rfl, E⟩), R, HB⟩
      case measure => simp [intOf]
    · obtain ⟨⟨Ec0, Ec1, Ec2, Ec3, Ec4, Ec5, Ec6, Ec7⟩, ⟨Ef0, Ef1, Ef2, Ef3, Ef4, Ef5, Ef6, Ef7⟩⟩ := blk8 E.out
      obtain ⟨⟨Rc0, Rc1, Rc2, Rc3, Rc4, Rc5, Rc6, Rc7⟩, ⟨Rf0, Rf1, Rf2, Rf3, Rf4, Rf5, Rf6, Rf7⟩⟩ := blk8 R.out
      have hEl := (Array.getElem?_eq_some_iff.1 E.out).1
      have hRl := (Array.getElem?_eq_some_iff.1 R.out).1
      go_wp2_with fail
      refine (parts_eq _ HK _).mono ?_
      rintro e wp ⟨rfl, rfl⟩
      go_wp2_with fail
      clear Ec0 Ec1 Ec2 Ec3 Ec4 Ec5 Ec6 Ec7 Ef0 Ef1 Ef2 Ef3 Ef4 Ef5 Ef6 Ef7 Rc0 Rc1 Rc2 Rc3 Rc4 Rc5 Rc6 Rc7 Rf0 Rf1 Rf2 Rf3 Rf4 Rf5 Rf6 Rf7
      refine (tp2_no (kb.toNat : Int) u [] [] 0 0 0 0 l hl p hp _).mono ?_
      rintro e w201 ⟨rfl, b201⟩
      replace E := Lib.hid (upQ E.out b201)
      replace R := Lib.hid (upQ R.out b201)
      replace HB := Lib.hid (below2Z HB.out b201)
      clear b201
      obtain ⟨⟨Ec0, Ec1, Ec2, Ec3, Ec4, Ec5, Ec6, Ec7⟩, ⟨Ef0, Ef1, Ef2, Ef3, Ef4, Ef5, Ef6, Ef7⟩⟩ := blk8 E.out
      obtain ⟨⟨Rc0, Rc1, Rc2, Rc3, Rc4, Rc5, Rc6, Rc7⟩, ⟨Rf0, Rf1, Rf2, Rf3, Rf4, Rf5, Rf6, Rf7⟩⟩ := blk8 R.out
      go_wp2_with fail
      refine bodyPost_ret (v := .tuple #[.agg #[.int .i64 0, .string ⟨#[]⟩, .string ⟨#[]⟩, .int .i64 0, .int .i64 0, .int .i64 0, .int .i64 0, .string ⟨#[]⟩], .bool false]) (by simp [results, Tryz.results26, go_sem, Rc0, Rc1, Rc2, Rc3, Rc4, Rc5, Rc6, Rc7]) rfl ⟨rfl, ?_⟩
      exact ((((((((((((((((HB.out.setCell hBE _).setCell hBE _).setCell hBE _).setCell hBE _).setCell hBE _).setCell hBE _).setCell hBE _).setCell hBE _).setCell (Nat.le_refl _) _).setCell (Nat.le_refl _) _).setCell (Nat.le_refl _) _).setCell (Nat.le_refl _) _).setCell (Nat.le_refl _) _).setCell (Nat.le_refl _) _).setCell (Nat.le_refl _) _).setCell (Nat.le_refl _) _)

theorem ev_inj {k k' id id' a b c a' b' c' : Int} {u u' o o' st st' : List UInt8} {r r' : Bool} (h : ((⟨k, u, o, id, ⟨a, b, c, st⟩⟩ : Ev), r) = (⟨k', u', o', id', ⟨a', b', c', st'⟩⟩, r')) : k = k' ∧ u = u' ∧ o = o' ∧ id = id' ∧ a = a' ∧ b = b' ∧ c = c' ∧ st = st' ∧ r = r' := by
  simp only [Prod.mk.injEq, Ev.mk.injEq, Val.mk.injEq] at h
  obtain ⟨⟨h1, h2, h3, h4, h5, h6, h7, h8⟩, h9⟩ := h
  exact ⟨h1, h2, h3, h4, h5, h6, h7, h8, h9⟩

theorem scTake_split {l : List UInt8} (h : l ≠ []) {u : List UInt8} {p : Nat} (hu : idTake l 1 = (u, p, 0)) : scTake l = scPart l (l.getD 0 0).toNat u p := by
  unfold scTake
  rw [if_neg h, hu]
  simp

/-- The code's take is the plain one. -/
theorem sctake_any (l : List UInt8) (hl : l.length ≤ 4294967296) {k id a b c : Int} {u o st : List UInt8} {r : Bool} (h : Hid (scTake l = (⟨k, u, o, id, ⟨a, b, c, st⟩⟩, r))) (w : World) :
    Calls Tryz.prog 26 #[.string ⟨l.toArray⟩] w fun e w' => e = .returned (.tuple #[.agg #[.int .i64 k, .string ⟨u.toArray⟩, .string ⟨o.toArray⟩, .int .i64 id, .int .i64 a, .int .i64 b, .int .i64 c, .string ⟨st.toArray⟩], .bool r]) ∧ Below w.heap.size w w' := by
  have e := h.out
  clear h
  by_cases hn : l = []
  · subst hn
    obtain ⟨rfl, rfl, rfl, rfl, rfl, rfl, rfl, rfl, rfl⟩ := ev_inj (show ((⟨0, [], [], 0, ⟨0, 0, 0, []⟩⟩ : Ev), false) = _ from e)
    exact sctake_nil w
  have hne : 1 ≤ l.length := List.length_pos_iff.2 hn
  obtain ⟨u0, p, er, hu⟩ : ∃ u p er, idTake l 1 = (u, p, er) := ⟨_, _, _, rfl⟩
  by_cases he : er = 0
  case neg =>
    unfold scTake at e
    rw [if_neg hn, hu, if_pos (by simpa using he)] at e
    obtain ⟨rfl, rfl, rfl, rfl, rfl, rfl, rfl, rfl, rfl⟩ := ev_inj (show ((⟨0, [], [], 0, ⟨0, 0, 0, []⟩⟩ : Ev), false) = _ from e)
    exact sctake_err l hl hne (Lib.hid hu) he w
  subst he
  rw [scTake_split hn hu] at e
  obtain ⟨kb, hb⟩ : ∃ kb, l.getD 0 0 = kb := ⟨_, rfl⟩
  rw [hb] at e
  unfold scPart at e
  have HU := Lib.hid hu
  have hpl : p ≤ l.length := (idTake_bytes (p := 1) hu).2.2.1
  by_cases c6 : 1 ≤ kb.toNat ∧ kb.toNat ≤ 6
  · rw [if_pos c6] at e
    have HK : Hid (scHas (kb.toNat : Int) = 1) := Lib.hid (by unfold scHas; rw [if_pos (by omega)])
    obtain ⟨o0, q, er, ho⟩ : ∃ o q er, idTake l p = (o, q, er) := ⟨_, _, _, rfl⟩
    rw [ho] at e
    by_cases he : er = 0
    · subst he
      rw [if_neg (by simp)] at e
      obtain ⟨rfl, rfl, rfl, rfl, rfl, rfl, rfl, rfl, rfl⟩ := ev_inj (show ((⟨(kb.toNat : Int), u0, o0, 0, ⟨0, 0, 0, []⟩⟩ : Ev), decide (q = l.length)) = _ from e)
      exact sctake_B l hl hne hb HU HK (Lib.hid ho) rfl w
    · rw [if_pos (by simpa using he)] at e
      obtain ⟨rfl, rfl, rfl, rfl, rfl, rfl, rfl, rfl, rfl⟩ := ev_inj (show ((⟨0, [], [], 0, ⟨0, 0, 0, []⟩⟩ : Ev), false) = _ from e)
      exact sctake_Bno l hl hne hb HU HK (Lib.hid ho) he w
  rw [if_neg c6] at e
  by_cases c7 : kb.toNat = 7
  · rw [if_pos c7] at e
    have HK : Hid (scHas (kb.toNat : Int) = 6) := Lib.hid (by unfold scHas; rw [if_neg (by omega), if_pos (by omega)])
    by_cases hp : p < l.length
    · rw [if_pos hp] at e
      obtain ⟨⟨a0, b0, c0, s0⟩, q, er, hv⟩ : ∃ v q er, vaTake l ((p + 1 : Nat) : Int) = (v, q, er) := ⟨_, _, _, rfl⟩
      rw [hv] at e
      by_cases he : er = 0
      · subst he
        rw [if_neg (by simp)] at e
        obtain ⟨rfl, rfl, rfl, rfl, rfl, rfl, rfl, rfl, rfl⟩ := ev_inj (show ((⟨(kb.toNat : Int), u0, [], ((l.getD p 0).toNat : Int), ⟨a0, b0, c0, s0⟩⟩ : Ev), decide (q = l.length)) = _ from e)
        exact sctake_C l hl hne hb HU HK hp rfl (Lib.hid hv) rfl w
      · rw [if_pos (by simpa using he)] at e
        obtain ⟨rfl, rfl, rfl, rfl, rfl, rfl, rfl, rfl, rfl⟩ := ev_inj (show ((⟨0, [], [], 0, ⟨0, 0, 0, []⟩⟩ : Ev), false) = _ from e)
        exact sctake_C4no l hl hne hb HU HK hp rfl (Lib.hid hv) he w
    · rw [if_neg hp] at e
      obtain ⟨rfl, rfl, rfl, rfl, rfl, rfl, rfl, rfl, rfl⟩ := ev_inj (show ((⟨0, [], [], 0, ⟨0, 0, 0, []⟩⟩ : Ev), false) = _ from e)
      exact sctake_C2no l hl hne hb HU HK (by omega) w
  rw [if_neg c7] at e
  by_cases c8 : kb.toNat = 8
  · rw [if_pos c8] at e
    have HK : Hid (scHas (kb.toNat : Int) = 2) := Lib.hid (by unfold scHas; rw [if_neg (by omega), if_neg (by omega), if_pos (by omega)])
    by_cases hp : p < l.length
    · rw [if_pos hp] at e
      obtain ⟨rfl, rfl, rfl, rfl, rfl, rfl, rfl, rfl, rfl⟩ := ev_inj (show ((⟨(kb.toNat : Int), u0, [], ((l.getD p 0).toNat : Int), ⟨0, 0, 0, []⟩⟩ : Ev), decide (p + 1 = l.length)) = _ from e)
      exact sctake_D l hl hne hb HU HK hp rfl rfl w
    · rw [if_neg hp] at e
      obtain ⟨rfl, rfl, rfl, rfl, rfl, rfl, rfl, rfl, rfl⟩ := ev_inj (show ((⟨0, [], [], 0, ⟨0, 0, 0, []⟩⟩ : Ev), false) = _ from e)
      exact sctake_D2no l hl hne hb HU HK (by omega) w
  · rw [if_neg c8] at e
    have HK : Hid (scHas (kb.toNat : Int) = 0) := Lib.hid (by unfold scHas; rw [if_neg (by omega), if_neg (by omega), if_neg (by omega)])
    obtain ⟨rfl, rfl, rfl, rfl, rfl, rfl, rfl, rfl, rfl⟩ := ev_inj (show ((⟨(kb.toNat : Int), u0, [], 0, ⟨0, 0, 0, []⟩⟩ : Ev), decide (p = l.length)) = _ from e)
    exact sctake_A l hl hne hb HU HK rfl w

end Go.Proofs.YthfkfonfiejbmaaGreat

end

section

/-
  LAYER 23, THE CODE: Decode, takeOne, Fold.
-/
namespace Go.Proofs.YthfkfonfiejbmaaGreat
open Go.RowKit

theorem open_eq (l : List UInt8) (hl : l.length ≤ 4294967296) {t : List UInt8} {er : Nat} (h : Hid (copen l = (t, er))) (w : World) :
    Calls Tryz.prog 25 #[.string ⟨l.toArray⟩] w fun e w' => e = .returned (.tuple #[.string ⟨t.toArray⟩, .int .i64 er]) ∧ Below w.heap.size w w' := by
  have := open_any l hl w
  rw [h.out] at this
  exact this

theorem copen_len {l t : List UInt8} {er : Nat} (h : copen l = (t, er)) : t.length ≤ l.length := by
  unfold copen at h
  split at h
  · simp only [Prod.mk.injEq] at h; rw [← h.1]; simp
  · split at h
    · simp only [Prod.mk.injEq] at h; rw [← h.1, List.length_take]; omega
    · simp only [Prod.mk.injEq] at h; rw [← h.1]; simp

theorem evn_inj {k k' id id' a b c a' b' c' : Int} {u u' o o' st st' : List UInt8} {r r' : Nat} (h : ((⟨k, u, o, id, ⟨a, b, c, st⟩⟩ : Ev), r) = (⟨k', u', o', id', ⟨a', b', c', st'⟩⟩, r')) : k = k' ∧ u = u' ∧ o = o' ∧ id = id' ∧ a = a' ∧ b = b' ∧ c = c' ∧ st = st' ∧ r = r' := by
  simp only [Prod.mk.injEq, Ev.mk.injEq, Val.mk.injEq] at h
  obtain ⟨⟨h1, h2, h3, h4, h5, h6, h7, h8⟩, h9⟩ := h
  exact ⟨h1, h2, h3, h4, h5, h6, h7, h8, h9⟩

/-- What is taken of a text is no longer than the text. -/
theorem vtake_len {l : List UInt8} {p m : Int} {t : List UInt8} {f er : Nat} (h : vtake l p m = (t, f, er)) : t.length ≤ l.length := vtake_short h

theorem idTake_short {l : List UInt8} {p : Int} {t : List UInt8} {f er : Nat} (h : idTake l p = (t, f, er)) : t.length ≤ l.length := by
  unfold idTake at h
  split at h
  · simp only [Prod.mk.injEq] at h; rw [← h.1]; simp
  · split at h
    · exact vtake_short h
    · simp only [Prod.mk.injEq] at h; rw [← h.1]; simp

theorem vaTake_short {l : List UInt8} {p : Int} {v : Val} {f er : Nat} (h : vaTake l p = (v, f, er)) : v.st.length ≤ l.length := by
  unfold vaTake at h
  split at h
  · simp only [Prod.mk.injEq] at h; rw [← h.1]; simp [Val.zero]
  · split at h
    · simp only [Prod.mk.injEq] at h; rw [← h.1]; simp [Val.zero]
    · split at h
      · simp only [Prod.mk.injEq] at h; rw [← h.1]; simp [Val.zero]
      · split at h
        · simp only [Prod.mk.injEq] at h; rw [← h.1]; simp [Val.zero]
        · split at h
          · simp only [Prod.mk.injEq] at h; rw [← h.1]; simp [Val.zero]
          · simp only [Prod.mk.injEq] at h
            rw [← h.1]
            exact vtake_short (er := (vtake l (vget l (p + 2)).2.1 32).2.2) (f := (vtake l (vget l (p + 2)).2.1 32).2.1) rfl

theorem scTake_short {l : List UInt8} {e : Ev} {r : Bool} (h : scTake l = (e, r)) (hl : l.length ≤ 4294967296) : evShort e := by
  have hz : evShort Ev.zero := ⟨by simp [Ev.zero], by simp [Ev.zero], by simp [Ev.zero, Val.zero]⟩
  unfold scTake at h
  split at h
  · simp only [Prod.mk.injEq] at h; rw [← h.1]; exact hz
  split at h
  · simp only [Prod.mk.injEq] at h; rw [← h.1]; exact hz
  have hu := idTake_short (l := l) (p := 1) rfl
  unfold scPart at h
  split at h
  · split at h
    · simp only [Prod.mk.injEq] at h; rw [← h.1]; exact hz
    · have ho := idTake_short (l := l) (p := ((idTake l 1).2.1 : Int)) rfl
      simp only [Prod.mk.injEq] at h; rw [← h.1]
      exact ⟨Nat.le_trans hu hl, Nat.le_trans ho hl, by simp [Val.zero]⟩
  split at h
  · split at h
    · split at h
      · simp only [Prod.mk.injEq] at h; rw [← h.1]; exact hz
      · have hv := vaTake_short (l := l) (p := (((idTake l 1).2.1 + 1 : Nat) : Int)) rfl
        simp only [Prod.mk.injEq] at h; rw [← h.1]
        exact ⟨Nat.le_trans hu hl, by simp, Nat.le_trans hv hl⟩
    · simp only [Prod.mk.injEq] at h; rw [← h.1]; exact hz
  split at h
  · split at h
    · simp only [Prod.mk.injEq] at h; rw [← h.1]
      exact ⟨Nat.le_trans hu hl, by simp, by simp [Val.zero]⟩
    · simp only [Prod.mk.injEq] at h; rw [← h.1]; exact hz
  · simp only [Prod.mk.injEq] at h; rw [← h.1]
    exact ⟨Nat.le_trans hu hl, by simp, by simp [Val.zero]⟩

set_option maxHeartbeats 1600000 in
set_option maxRecDepth 100000 in
theorem scdec_err (s : List UInt8) (hl : s.length ≤ 4294967296) {t : List UInt8} {er : Nat} (HT : Hid (copen s = (t, er))) (he : er ≠ 0) (w : World) :
    Calls Tryz.prog 10 #[.string ⟨s.toArray⟩] w fun e w' => e = .returned (.tuple #[.agg #[.int .i64 0, .string ⟨#[]⟩, .string ⟨#[]⟩, .int .i64 0, .int .i64 0, .int .i64 0, .int .i64 0, .string ⟨#[]⟩], .int .i64 er]) ∧ Below w.heap.size w w' := by
  have t1 : ((er : Int) != 0) = true := by simp; omega
  clear he
  have b0 := bl_newZ w (.cells #[.int .i64 0, .string ⟨#[]⟩, .string ⟨#[]⟩, .int .i64 0, .int .i64 0, .int .i64 0, .int .i64 0, .string ⟨#[]⟩] 29)
  have HB := Lib.hid b0
  have R := newQ w (.cells #[.int .i64 0, .string ⟨#[]⟩, .string ⟨#[]⟩, .int .i64 0, .int .i64 0, .int .i64 0, .int .i64 0, .string ⟨#[]⟩] 29)
  replace R := Lib.hid R
  clear b0
  go_enter Tryz.func10, Tryz.ntmps10
  go_wp2_with fail
  refine (open_eq s hl HT _).mono ?_
  rintro e w2 ⟨rfl, b2⟩
  replace R := Lib.hid (upQ R.out b2)
  replace HB := Lib.hid (below2Z HB.out b2)
  clear b2
  obtain ⟨⟨Rc0, Rc1, Rc2, Rc3, Rc4, Rc5, Rc6, Rc7⟩, ⟨Rf0, Rf1, Rf2, Rf3, Rf4, Rf5, Rf6, Rf7⟩⟩ := blk8 R.out
  go_wp2_with fail
  refine bodyPost_ret (v := .tuple #[.agg #[.int .i64 0, .string ⟨#[]⟩, .string ⟨#[]⟩, .int .i64 0, .int .i64 0, .int .i64 0, .int .i64 0, .string ⟨#[]⟩], .int .i64 er]) (by simp [results, Tryz.results10, go_sem, Rc0, Rc1, Rc2, Rc3, Rc4, Rc5, Rc6, Rc7]) rfl ⟨rfl, ?_⟩
  exact ((((((((HB.out.setCell (Nat.le_refl _) _).setCell (Nat.le_refl _) _).setCell (Nat.le_refl _) _).setCell (Nat.le_refl _) _).setCell (Nat.le_refl _) _).setCell (Nat.le_refl _) _).setCell (Nat.le_refl _) _).setCell (Nat.le_refl _) _)

set_option maxHeartbeats 1600000 in
set_option maxRecDepth 100000 in
theorem scdec_cut (s : List UInt8) (hl : s.length ≤ 4294967296) {t : List UInt8} (HT : Hid (copen s = (t, 0))) (htl : t.length ≤ 4294967296) {k id a b c : Int} {u o st : List UInt8} (HE : Hid (scTake t = (⟨k, u, o, id, ⟨a, b, c, st⟩⟩, false))) (w : World) :
    Calls Tryz.prog 10 #[.string ⟨s.toArray⟩] w fun e w' => e = .returned (.tuple #[.agg #[.int .i64 0, .string ⟨#[]⟩, .string ⟨#[]⟩, .int .i64 0, .int .i64 0, .int .i64 0, .int .i64 0, .string ⟨#[]⟩], .int .i64 3]) ∧ Below w.heap.size w w' := by
  have b0 := bl_newZ w (.cells #[.int .i64 0, .string ⟨#[]⟩, .string ⟨#[]⟩, .int .i64 0, .int .i64 0, .int .i64 0, .int .i64 0, .string ⟨#[]⟩] 29)
  have HB := Lib.hid b0
  have R := newQ w (.cells #[.int .i64 0, .string ⟨#[]⟩, .string ⟨#[]⟩, .int .i64 0, .int .i64 0, .int .i64 0, .int .i64 0, .string ⟨#[]⟩] 29)
  replace R := Lib.hid R
  clear b0
  go_enter Tryz.func10, Tryz.ntmps10
  go_wp2_with fail
  refine (open_eq s hl HT _).mono ?_
  rintro e w2 ⟨rfl, b2⟩
  replace R := Lib.hid (upQ R.out b2)
  replace HB := Lib.hid (below2Z HB.out b2)
  clear b2
  go_wp2_with fail
  refine (sctake_any t htl HE _).mono ?_
  rintro e w3 ⟨rfl, b3⟩
  replace R := Lib.hid (upQ R.out b3)
  replace HB := Lib.hid (below2Z HB.out b3)
  clear b3
  obtain ⟨⟨Rc0, Rc1, Rc2, Rc3, Rc4, Rc5, Rc6, Rc7⟩, ⟨Rf0, Rf1, Rf2, Rf3, Rf4, Rf5, Rf6, Rf7⟩⟩ := blk8 R.out
  have hR := (Array.getElem?_eq_some_iff.1 R.out).1
  go_wp2_with fail
  refine bodyPost_ret (v := .tuple #[.agg #[.int .i64 0, .string ⟨#[]⟩, .string ⟨#[]⟩, .int .i64 0, .int .i64 0, .int .i64 0, .int .i64 0, .string ⟨#[]⟩], .int .i64 3]) (by simp [results, Tryz.results10, go_sem, Rc0, Rc1, Rc2, Rc3, Rc4, Rc5, Rc6, Rc7, World.cell?_alloc_lt, hR]) rfl ⟨rfl, ?_⟩
  exact (((((((((HB.out.setCell (Nat.le_refl _) _).setCell (Nat.le_refl _) _).setCell (Nat.le_refl _) _).setCell (Nat.le_refl _) _).setCell (Nat.le_refl _) _).setCell (Nat.le_refl _) _).setCell (Nat.le_refl _) _).setCell (Nat.le_refl _) _)).alloc (by simp only [setCell_size]; exact HB.out.size) _

set_option maxHeartbeats 1600000 in
set_option maxRecDepth 100000 in
theorem scdec_no (s : List UInt8) (hl : s.length ≤ 4294967296) {t : List UInt8} (HT : Hid (copen s = (t, 0))) (htl : t.length ≤ 4294967296) {k id a b c : Int} {u o st : List UInt8} (HE : Hid (scTake t = (⟨k, u, o, id, ⟨a, b, c, st⟩⟩, true))) (hsh : evShort ⟨k, u, o, id, ⟨a, b, c, st⟩⟩) (HM : Hid (scMay ⟨k, u, o, id, ⟨a, b, c, st⟩⟩ = false)) (w : World) :
    Calls Tryz.prog 10 #[.string ⟨s.toArray⟩] w fun e w' => e = .returned (.tuple #[.agg #[.int .i64 0, .string ⟨#[]⟩, .string ⟨#[]⟩, .int .i64 0, .int .i64 0, .int .i64 0, .int .i64 0, .string ⟨#[]⟩], .int .i64 3]) ∧ Below w.heap.size w w' := by
  have b0 := bl_newZ w (.cells #[.int .i64 0, .string ⟨#[]⟩, .string ⟨#[]⟩, .int .i64 0, .int .i64 0, .int .i64 0, .int .i64 0, .string ⟨#[]⟩] 29)
  have HB := Lib.hid b0
  have R := newQ w (.cells #[.int .i64 0, .string ⟨#[]⟩, .string ⟨#[]⟩, .int .i64 0, .int .i64 0, .int .i64 0, .int .i64 0, .string ⟨#[]⟩] 29)
  replace R := Lib.hid R
  clear b0
  go_enter Tryz.func10, Tryz.ntmps10
  go_wp2_with fail
  refine (open_eq s hl HT _).mono ?_
  rintro e w2 ⟨rfl, b2⟩
  replace R := Lib.hid (upQ R.out b2)
  replace HB := Lib.hid (below2Z HB.out b2)
  clear b2
  go_wp2_with fail
  refine (sctake_any t htl HE _).mono ?_
  rintro e w3 ⟨rfl, b3⟩
  replace R := Lib.hid (upQ R.out b3)
  replace HB := Lib.hid (below2Z HB.out b3)
  clear b3
  go_wp2_with fail
  have b4 := bl_newZ w3 (.cells #[.int .i64 k, .string ⟨u.toArray⟩, .string ⟨o.toArray⟩, .int .i64 id, .int .i64 a, .int .i64 b, .int .i64 c, .string ⟨st.toArray⟩] 29)
  have E := newQ w3 (.cells #[.int .i64 k, .string ⟨u.toArray⟩, .string ⟨o.toArray⟩, .int .i64 id, .int .i64 a, .int .i64 b, .int .i64 c, .string ⟨st.toArray⟩] 29)
  have hE : w.heap.size ≤ w3.heap.size := HB.out.size
  replace R := Lib.hid (upQ R.out b4)
  replace HB := Lib.hid (below2Z HB.out b4)
  clear b4
  replace E := Lib.hid E
  generalize w3.alloc (.cells #[.int .i64 k, .string ⟨u.toArray⟩, .string ⟨o.toArray⟩, .int .i64 id, .int .i64 a, .int .i64 b, .int .i64 c, .string ⟨st.toArray⟩] 29) = w5 at R E HB ⊢
  generalize w3.heap.size = BE at E hE ⊢
  obtain ⟨⟨Ec0, Ec1, Ec2, Ec3, Ec4, Ec5, Ec6, Ec7⟩, ⟨Ef0, Ef1, Ef2, Ef3, Ef4, Ef5, Ef6, Ef7⟩⟩ := blk8 E.out
  go_wp2_with fail
  clear Ec0 Ec1 Ec2 Ec3 Ec4 Ec5 Ec6 Ec7 Ef0 Ef1 Ef2 Ef3 Ef4 Ef5 Ef6 Ef7
  refine (scmay_any k u o st id a b c hsh HM _).mono ?_
  rintro e w6 ⟨rfl, b6⟩
  replace R := Lib.hid (upQ R.out b6)
  replace E := Lib.hid (upQ E.out b6)
  replace HB := Lib.hid (below2Z HB.out b6)
  clear b6
  obtain ⟨⟨Rc0, Rc1, Rc2, Rc3, Rc4, Rc5, Rc6, Rc7⟩, ⟨Rf0, Rf1, Rf2, Rf3, Rf4, Rf5, Rf6, Rf7⟩⟩ := blk8 R.out
  go_wp2_with fail
  refine bodyPost_ret (v := .tuple #[.agg #[.int .i64 0, .string ⟨#[]⟩, .string ⟨#[]⟩, .int .i64 0, .int .i64 0, .int .i64 0, .int .i64 0, .string ⟨#[]⟩], .int .i64 3]) (by simp [results, Tryz.results10, go_sem, Rc0, Rc1, Rc2, Rc3, Rc4, Rc5, Rc6, Rc7]) rfl ⟨rfl, ?_⟩
  exact ((((((((HB.out.setCell (Nat.le_refl _) _).setCell (Nat.le_refl _) _).setCell (Nat.le_refl _) _).setCell (Nat.le_refl _) _).setCell (Nat.le_refl _) _).setCell (Nat.le_refl _) _).setCell (Nat.le_refl _) _).setCell (Nat.le_refl _) _)

set_option maxHeartbeats 1600000 in
set_option maxRecDepth 100000 in
theorem scdec_ok (s : List UInt8) (hl : s.length ≤ 4294967296) {t : List UInt8} (HT : Hid (copen s = (t, 0))) (htl : t.length ≤ 4294967296) {k id a b c : Int} {u o st : List UInt8} (HE : Hid (scTake t = (⟨k, u, o, id, ⟨a, b, c, st⟩⟩, true))) (hsh : evShort ⟨k, u, o, id, ⟨a, b, c, st⟩⟩) (HM : Hid (scMay ⟨k, u, o, id, ⟨a, b, c, st⟩⟩ = true)) (w : World) :
    Calls Tryz.prog 10 #[.string ⟨s.toArray⟩] w fun e w' => e = .returned (.tuple #[.agg #[.int .i64 k, .string ⟨u.toArray⟩, .string ⟨o.toArray⟩, .int .i64 id, .int .i64 a, .int .i64 b, .int .i64 c, .string ⟨st.toArray⟩], .int .i64 0]) ∧ Below w.heap.size w w' := by
  have b0 := bl_newZ w (.cells #[.int .i64 0, .string ⟨#[]⟩, .string ⟨#[]⟩, .int .i64 0, .int .i64 0, .int .i64 0, .int .i64 0, .string ⟨#[]⟩] 29)
  have HB := Lib.hid b0
  have R := newQ w (.cells #[.int .i64 0, .string ⟨#[]⟩, .string ⟨#[]⟩, .int .i64 0, .int .i64 0, .int .i64 0, .int .i64 0, .string ⟨#[]⟩] 29)
  replace R := Lib.hid R
  clear b0
  go_enter Tryz.func10, Tryz.ntmps10
  go_wp2_with fail
  refine (open_eq s hl HT _).mono ?_
  rintro e w2 ⟨rfl, b2⟩
  replace R := Lib.hid (upQ R.out b2)
  replace HB := Lib.hid (below2Z HB.out b2)
  clear b2
  go_wp2_with fail
  refine (sctake_any t htl HE _).mono ?_
  rintro e w3 ⟨rfl, b3⟩
  replace R := Lib.hid (upQ R.out b3)
  replace HB := Lib.hid (below2Z HB.out b3)
  clear b3
  go_wp2_with fail
  have b4 := bl_newZ w3 (.cells #[.int .i64 k, .string ⟨u.toArray⟩, .string ⟨o.toArray⟩, .int .i64 id, .int .i64 a, .int .i64 b, .int .i64 c, .string ⟨st.toArray⟩] 29)
  have E := newQ w3 (.cells #[.int .i64 k, .string ⟨u.toArray⟩, .string ⟨o.toArray⟩, .int .i64 id, .int .i64 a, .int .i64 b, .int .i64 c, .string ⟨st.toArray⟩] 29)
  have hE : w.heap.size ≤ w3.heap.size := HB.out.size
  replace R := Lib.hid (upQ R.out b4)
  replace HB := Lib.hid (below2Z HB.out b4)
  clear b4
  replace E := Lib.hid E
  generalize w3.alloc (.cells #[.int .i64 k, .string ⟨u.toArray⟩, .string ⟨o.toArray⟩, .int .i64 id, .int .i64 a, .int .i64 b, .int .i64 c, .string ⟨st.toArray⟩] 29) = w5 at R E HB ⊢
  generalize w3.heap.size = BE at E hE ⊢
  obtain ⟨⟨Ec0, Ec1, Ec2, Ec3, Ec4, Ec5, Ec6, Ec7⟩, ⟨Ef0, Ef1, Ef2, Ef3, Ef4, Ef5, Ef6, Ef7⟩⟩ := blk8 E.out
  go_wp2_with fail
  clear Ec0 Ec1 Ec2 Ec3 Ec4 Ec5 Ec6 Ec7 Ef0 Ef1 Ef2 Ef3 Ef4 Ef5 Ef6 Ef7
  refine (scmay_any k u o st id a b c hsh HM _).mono ?_
  rintro e w6 ⟨rfl, b6⟩
  replace R := Lib.hid (upQ R.out b6)
  replace E := Lib.hid (upQ E.out b6)
  replace HB := Lib.hid (below2Z HB.out b6)
  clear b6
  obtain ⟨⟨Rc0, Rc1, Rc2, Rc3, Rc4, Rc5, Rc6, Rc7⟩, ⟨Rf0, Rf1, Rf2, Rf3, Rf4, Rf5, Rf6, Rf7⟩⟩ := blk8 R.out
  obtain ⟨⟨Ec0, Ec1, Ec2, Ec3, Ec4, Ec5, Ec6, Ec7⟩, ⟨Ef0, Ef1, Ef2, Ef3, Ef4, Ef5, Ef6, Ef7⟩⟩ := blk8 E.out
  go_wp2_with fail
  refine bodyPost_ret (v := .tuple #[.agg #[.int .i64 k, .string ⟨u.toArray⟩, .string ⟨o.toArray⟩, .int .i64 id, .int .i64 a, .int .i64 b, .int .i64 c, .string ⟨st.toArray⟩], .int .i64 0]) (by simp [results, Tryz.results10, go_sem, Rc0, Rc1, Rc2, Rc3, Rc4, Rc5, Rc6, Rc7]) rfl ⟨rfl, ?_⟩
  exact ((((((((HB.out.setCell (Nat.le_refl _) _).setCell (Nat.le_refl _) _).setCell (Nat.le_refl _) _).setCell (Nat.le_refl _) _).setCell (Nat.le_refl _) _).setCell (Nat.le_refl _) _).setCell (Nat.le_refl _) _).setCell (Nat.le_refl _) _)

/-- P23.2, the code's Decode. -/
theorem scdec_any (s : List UInt8) (hl : s.length ≤ 4294967296) {k id a b c : Int} {u o st : List UInt8} {er : Nat} (h : Hid (scDec s = (⟨k, u, o, id, ⟨a, b, c, st⟩⟩, er))) (w : World) :
    Calls Tryz.prog 10 #[.string ⟨s.toArray⟩] w fun e w' => e = .returned (.tuple #[.agg #[.int .i64 k, .string ⟨u.toArray⟩, .string ⟨o.toArray⟩, .int .i64 id, .int .i64 a, .int .i64 b, .int .i64 c, .string ⟨st.toArray⟩], .int .i64 er]) ∧ Below w.heap.size w w' := by
  have e := h.out
  unfold scDec at e
  obtain ⟨t, er0, ht⟩ : ∃ t er, copen s = (t, er) := ⟨_, _, rfl⟩
  rw [ht] at e
  have htl := copen_len ht
  by_cases he : er0 = 0
  case neg =>
    rw [if_pos (by simpa using he)] at e
    obtain ⟨rfl, rfl, rfl, rfl, rfl, rfl, rfl, rfl, rfl⟩ := evn_inj (show ((⟨0, [], [], 0, ⟨0, 0, 0, []⟩⟩ : Ev), er0) = _ from e)
    exact scdec_err s hl (Lib.hid ht) he w
  subst he
  rw [if_neg (by simp)] at e
  obtain ⟨⟨k0, u0, o0, id0, ⟨a0, b0, c0, st0⟩⟩, r, hr⟩ : ∃ x r, scTake t = (x, r) := ⟨_, _, rfl⟩
  have hsh := scTake_short hr (by omega)
  rw [hr] at e
  cases r with
  | false =>
    rw [if_neg (by simp)] at e
    obtain ⟨rfl, rfl, rfl, rfl, rfl, rfl, rfl, rfl, rfl⟩ := evn_inj (show ((⟨0, [], [], 0, ⟨0, 0, 0, []⟩⟩ : Ev), 3) = _ from e)
    exact scdec_cut s hl (Lib.hid ht) (by omega) (Lib.hid hr) w
  | true =>
    cases hm : scMay ⟨k0, u0, o0, id0, ⟨a0, b0, c0, st0⟩⟩ with
    | false =>
      rw [if_neg (by simp [hm])] at e
      obtain ⟨rfl, rfl, rfl, rfl, rfl, rfl, rfl, rfl, rfl⟩ := evn_inj (show ((⟨0, [], [], 0, ⟨0, 0, 0, []⟩⟩ : Ev), 3) = _ from e)
      exact scdec_no s hl (Lib.hid ht) (by omega) (Lib.hid hr) hsh (Lib.hid hm) w
    | true =>
      rw [if_pos (by simp [hm])] at e
      obtain ⟨rfl, rfl, rfl, rfl, rfl, rfl, rfl, rfl, rfl⟩ := evn_inj e
      exact scdec_ok s hl (Lib.hid ht) (by omega) (Lib.hid hr) hsh (Lib.hid hm) w

set_option maxHeartbeats 1600000 in
set_option maxRecDepth 100000 in
theorem sctakeone_err (s : List UInt8) (hl : s.length ≤ 4294967296) (p : Nat) {t : List UInt8} {q er : Nat} (HT : Hid (vtake s p s.length = (t, q, er))) (he : er ≠ 0) (w : World) :
    Calls Tryz.prog 46 #[.string ⟨s.toArray⟩, .int .i64 p] w fun e w' => e = .returned (.tuple #[.agg #[.int .i64 0, .string ⟨#[]⟩, .string ⟨#[]⟩, .int .i64 0, .int .i64 0, .int .i64 0, .int .i64 0, .string ⟨#[]⟩], .int .i64 0, .bool false]) ∧ Below w.heap.size w w' := by
  have HC := Lib.hid (fun w => take_eq s hl p s.length (by omega) w HT)
  have t1 : ((er : Int) != 0) = true := by simp; omega
  have hs1 : (⟨s.toArray⟩ : ByteArray).size = s.length := size_bytes s
  clear he
  have b0 := bl_newZ w (.cells #[.int .i64 0, .string ⟨#[]⟩, .string ⟨#[]⟩, .int .i64 0, .int .i64 0, .int .i64 0, .int .i64 0, .string ⟨#[]⟩] 29)
  have HB := Lib.hid b0
  have R := newQ w (.cells #[.int .i64 0, .string ⟨#[]⟩, .string ⟨#[]⟩, .int .i64 0, .int .i64 0, .int .i64 0, .int .i64 0, .string ⟨#[]⟩] 29)
  replace R := Lib.hid R
  clear b0
  go_enter Tryz.func46, Tryz.ntmps46
  go_wp2_with fail
  refine (HC.out _).mono ?_
  rintro e w1 ⟨rfl, rfl⟩
  go_wp2_with fail
  refine bodyPost_ret (v := .tuple #[.agg #[.int .i64 0, .string ⟨#[]⟩, .string ⟨#[]⟩, .int .i64 0, .int .i64 0, .int .i64 0, .int .i64 0, .string ⟨#[]⟩], .int .i64 0, .bool false]) (by simp [results, Tryz.results46, go_sem]) rfl ⟨rfl, ?_⟩
  exact HB.out

set_option maxHeartbeats 1600000 in
set_option maxRecDepth 100000 in
theorem sctakeone_ok (s : List UInt8) (hl : s.length ≤ 4294967296) (p : Nat) {t : List UInt8} {q : Nat} (HT : Hid (vtake s p s.length = (t, q, 0))) {k id a b c : Int} {u o st : List UInt8} {n : Nat} (HD : Hid (scDec t = (⟨k, u, o, id, ⟨a, b, c, st⟩⟩, n))) {r : Bool} (hr : ((n : Int) == 0) = r) (w : World) :
    Calls Tryz.prog 46 #[.string ⟨s.toArray⟩, .int .i64 p] w fun e w' => e = .returned (.tuple #[.agg #[.int .i64 k, .string ⟨u.toArray⟩, .string ⟨o.toArray⟩, .int .i64 id, .int .i64 a, .int .i64 b, .int .i64 c, .string ⟨st.toArray⟩], .int .i64 q, .bool r]) ∧ Below w.heap.size w w' := by
  have HC := Lib.hid (fun w => take_eq s hl p s.length (by omega) w HT)
  have htl : t.length ≤ 4294967296 := Nat.le_trans (vtake_len HT.out) hl
  have hs1 : (⟨s.toArray⟩ : ByteArray).size = s.length := size_bytes s
  have HR := Lib.hid hr
  clear hr
  have b0 := bl_newZ w (.cells #[.int .i64 0, .string ⟨#[]⟩, .string ⟨#[]⟩, .int .i64 0, .int .i64 0, .int .i64 0, .int .i64 0, .string ⟨#[]⟩] 29)
  have HB := Lib.hid b0
  have R := newQ w (.cells #[.int .i64 0, .string ⟨#[]⟩, .string ⟨#[]⟩, .int .i64 0, .int .i64 0, .int .i64 0, .int .i64 0, .string ⟨#[]⟩] 29)
  replace R := Lib.hid R
  clear b0
  go_enter Tryz.func46, Tryz.ntmps46
  go_wp2_with fail
  refine (HC.out _).mono ?_
  rintro e w1 ⟨rfl, rfl⟩
  go_wp2_with fail
  refine (scdec_any t htl HD _).mono ?_
  rintro e w2 ⟨rfl, b2⟩
  replace R := Lib.hid (upQ R.out b2)
  replace HB := Lib.hid (below2Z HB.out b2)
  clear b2
  have hr := HR.out
  obtain ⟨⟨Rc0, Rc1, Rc2, Rc3, Rc4, Rc5, Rc6, Rc7⟩, ⟨Rf0, Rf1, Rf2, Rf3, Rf4, Rf5, Rf6, Rf7⟩⟩ := blk8 R.out
  have hR := (Array.getElem?_eq_some_iff.1 R.out).1
  go_wp2_with fail
  refine bodyPost_ret (v := .tuple #[.agg #[.int .i64 k, .string ⟨u.toArray⟩, .string ⟨o.toArray⟩, .int .i64 id, .int .i64 a, .int .i64 b, .int .i64 c, .string ⟨st.toArray⟩], .int .i64 q, .bool r]) (by simp [results, Tryz.results46, go_sem, Rc0, Rc1, Rc2, Rc3, Rc4, Rc5, Rc6, Rc7, World.cell?_alloc_lt, hR]) rfl ⟨rfl, ?_⟩
  exact (((((((((HB.out.setCell (Nat.le_refl _) _).setCell (Nat.le_refl _) _).setCell (Nat.le_refl _) _).setCell (Nat.le_refl _) _).setCell (Nat.le_refl _) _).setCell (Nat.le_refl _) _).setCell (Nat.le_refl _) _).setCell (Nat.le_refl _) _)).alloc (by simp only [setCell_size]; exact HB.out.size) _

end Go.Proofs.YthfkfonfiejbmaaGreat

end
