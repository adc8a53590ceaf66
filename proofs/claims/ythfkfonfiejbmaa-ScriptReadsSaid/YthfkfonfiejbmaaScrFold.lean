/-
  LAYER 23, THE CODE: Fold.
-/
import Derived.Test.YthfkfonfiejbmaaScrMay
import Derived.Test.YthfkfonfiejbmaaBlk
namespace Go.Proofs.Ythfkfonfiejbmaa
open Go.RowKit

def scFolded (e : Ev) : Ev := ⟨e.k, (idFold e.u).1, (idFold e.o).1, e.id, e.v⟩

def scFold (e : Ev) : Ev × Bool :=
  if e.o ≠ [] ∧ (idFold e.o).2 = false then (Ev.zero, false)
  else if scMay (scFolded e) = true then (scFolded e, true) else (Ev.zero, false)

theorem idFold_nil : idFold [] = ([], false) := by
  rcases idFold_cases [] with ⟨h, h2⟩ | ⟨h, _⟩
  · exact absurd (idIs_parts h2).1 (by simp [idLow])
  · exact h

theorem idFold_short (l : List UInt8) : (idFold l).1.length ≤ l.length := by
  rcases idFold_cases l with ⟨h, _⟩ | ⟨h, _⟩ <;> rw [h] <;> simp [idLow_len]

theorem scFold_may {e : Ev} (h : scMay e = true) : scFold e = (e, true) := by
  have hf : scFolded e = e := by
    obtain ⟨k, u, o, id, v⟩ := e
    unfold scFolded
    have hu := (scMay_parts h).2.1
    simp only at hu ⊢
    rw [idFold_name hu]
    rcases scMay_kinds h with ⟨_, _, _, ho, _⟩ | ⟨_, _, ho, _⟩ | ⟨_, _, ho, _⟩
    · simp only at ho; rw [idFold_name ho]
    · simp only at ho; rw [ho, idFold_nil]
    · simp only at ho; rw [ho, idFold_nil]
  unfold scFold
  rw [if_neg, hf, if_pos h]
  rintro ⟨h1, h2⟩
  rcases scMay_kinds h with ⟨_, _, _, ho, _⟩ | ⟨_, _, ho, _⟩ | ⟨_, _, ho, _⟩
  · rw [idFold_name ho] at h2; cases h2
  · exact h1 ho
  · exact h1 ho

theorem scFold_is {e f : Ev} (h : scFold e = (f, true)) : scMay f = true := by
  unfold scFold at h
  split at h
  · simp at h
  · split at h
    · rename_i h1
      simp only [Prod.mk.injEq, and_true] at h
      rw [← h]; exact h1
    · simp at h

theorem scFold_not {e f : Ev} (h : scFold e = (f, false)) : f = Ev.zero := by
  unfold scFold at h
  split at h
  · simp only [Prod.mk.injEq, and_true] at h; exact h.symm
  · split at h
    · simp at h
    · simp only [Prod.mk.injEq, and_true] at h; exact h.symm

theorem scFold_short {e f : Ev} {r : Bool} (h : scFold e = (f, r)) : f.u.length ≤ e.u.length ∧ f.o.length ≤ e.o.length ∧ f.v.st.length ≤ e.v.st.length := by
  have hu := idFold_short e.u
  have ho := idFold_short e.o
  unfold scFold at h
  split at h
  · simp only [Prod.mk.injEq] at h; rw [← h.1]; simp [Ev.zero, Val.zero]
  · split at h
    · simp only [Prod.mk.injEq] at h; rw [← h.1]; exact ⟨hu, ho, Nat.le_refl _⟩
    · simp only [Prod.mk.injEq] at h; rw [← h.1]; simp [Ev.zero, Val.zero]

set_option maxHeartbeats 1600000 in
set_option maxRecDepth 100000 in
theorem scfold_ny (k : Int) (u st : List UInt8) (id a b c : Int) (hu : u.length ≤ 4294967296) {u2 : List UInt8} {q : Bool} (HU : Hid (idFold u = (u2, q))) (hsh : evShort ⟨k, u2, [], id, ⟨a, b, c, st⟩⟩) (HM : Hid (scMay ⟨k, u2, [], id, ⟨a, b, c, st⟩⟩ = true)) (w : World) :
    Calls Try.prog 20 #[.agg #[.int .i64 k, .string ⟨u.toArray⟩, .string ⟨#[]⟩, .int .i64 id, .int .i64 a, .int .i64 b, .int .i64 c, .string ⟨st.toArray⟩]] w fun e w' => e = .returned (.tuple #[.agg #[.int .i64 k, .string ⟨u2.toArray⟩, .string ⟨#[]⟩, .int .i64 id, .int .i64 a, .int .i64 b, .int .i64 c, .string ⟨st.toArray⟩], .bool true]) ∧ Below w.heap.size w w' := by
  have b0 := bl_newZ w (.cells #[.int .i64 k, .string ⟨u.toArray⟩, .string ⟨#[]⟩, .int .i64 id, .int .i64 a, .int .i64 b, .int .i64 c, .string ⟨st.toArray⟩] 26)
  have b1 := bl_newZ (w.alloc (.cells #[.int .i64 k, .string ⟨u.toArray⟩, .string ⟨#[]⟩, .int .i64 id, .int .i64 a, .int .i64 b, .int .i64 c, .string ⟨st.toArray⟩] 26)) (.cells #[.int .i64 0, .string ⟨#[]⟩, .string ⟨#[]⟩, .int .i64 0, .int .i64 0, .int .i64 0, .int .i64 0, .string ⟨#[]⟩] 26)
  have HB := Lib.hid (below2Z b0 b1)
  have E := newQ w (.cells #[.int .i64 k, .string ⟨u.toArray⟩, .string ⟨#[]⟩, .int .i64 id, .int .i64 a, .int .i64 b, .int .i64 c, .string ⟨st.toArray⟩] 26)
  replace E := upQ E b1
  replace E := Lib.hid E
  have R := newQ (w.alloc (.cells #[.int .i64 k, .string ⟨u.toArray⟩, .string ⟨#[]⟩, .int .i64 id, .int .i64 a, .int .i64 b, .int .i64 c, .string ⟨st.toArray⟩] 26)) (.cells #[.int .i64 0, .string ⟨#[]⟩, .string ⟨#[]⟩, .int .i64 0, .int .i64 0, .int .i64 0, .int .i64 0, .string ⟨#[]⟩] 26)
  rw [World.size_alloc] at R
  replace R := Lib.hid R
  clear b0 b1
  go_enter Try.func20, Try.ntmps20
  go_wp2_with fail
  refine (fold_eq u hu HU _).mono ?_
  rintro e w3 ⟨rfl, b3⟩
  replace E := Lib.hid (upQ E.out b3)
  replace R := Lib.hid (upQ R.out b3)
  replace HB := Lib.hid (below2Z HB.out b3)
  clear b3
  obtain ⟨⟨Ec0, Ec1, Ec2, Ec3, Ec4, Ec5, Ec6, Ec7⟩, ⟨Ef0, Ef1, Ef2, Ef3, Ef4, Ef5, Ef6, Ef7⟩⟩ := blk8 E.out
  go_wp2_with fail
  clear Ec0 Ec1 Ec2 Ec3 Ec4 Ec5 Ec6 Ec7 Ef0 Ef1 Ef2 Ef3 Ef4 Ef5 Ef6 Ef7
  have E2 : (w3.setCell ⟨w.heap.size, 1, none⟩ (.string ⟨u2.toArray⟩)).heap[w.heap.size]? = some (.cells #[.int .i64 k, .string ⟨u2.toArray⟩, .string ⟨#[]⟩, .int .i64 id, .int .i64 a, .int .i64 b, .int .i64 c, .string ⟨st.toArray⟩] 26 (0, 0)) := heap_setCell_same w3 w.heap.size 1 _ _ _ E.out
  have R2 : (w3.setCell ⟨w.heap.size, 1, none⟩ (.string ⟨u2.toArray⟩)).heap[w.heap.size + 1]? = some (.cells #[.int .i64 0, .string ⟨#[]⟩, .string ⟨#[]⟩, .int .i64 0, .int .i64 0, .int .i64 0, .int .i64 0, .string ⟨#[]⟩] 26 (0, 0)) := by rw [heap_setCell_other _ ⟨w.heap.size, 1, none⟩ (w.heap.size + 1) _ (by simp)]; exact R.out
  have HB2 : Below w.heap.size w (w3.setCell ⟨w.heap.size, 1, none⟩ (.string ⟨u2.toArray⟩)) := HB.out.setCell (Nat.le_refl _) _
  replace E := Lib.hid E2
  replace R := Lib.hid R2
  replace HB := Lib.hid HB2
  clear E2 R2 HB2
  generalize w3.setCell ⟨w.heap.size, 1, none⟩ (.string ⟨u2.toArray⟩) = w4 at E R HB ⊢
  refine (scmay_any k u2 [] st id a b c hsh HM _).mono ?_
  rintro e w5 ⟨rfl, b5⟩
  replace E := Lib.hid (upQ E.out b5)
  replace R := Lib.hid (upQ R.out b5)
  replace HB := Lib.hid (below2Z HB.out b5)
  clear b5
  obtain ⟨⟨Rc0, Rc1, Rc2, Rc3, Rc4, Rc5, Rc6, Rc7⟩, ⟨Rf0, Rf1, Rf2, Rf3, Rf4, Rf5, Rf6, Rf7⟩⟩ := blk8 R.out
  obtain ⟨⟨Ec0, Ec1, Ec2, Ec3, Ec4, Ec5, Ec6, Ec7⟩, ⟨Ef0, Ef1, Ef2, Ef3, Ef4, Ef5, Ef6, Ef7⟩⟩ := blk8 E.out
  go_wp2_with fail
  refine bodyPost_ret (v := .tuple #[.agg #[.int .i64 k, .string ⟨u2.toArray⟩, .string ⟨#[]⟩, .int .i64 id, .int .i64 a, .int .i64 b, .int .i64 c, .string ⟨st.toArray⟩], .bool true]) (by simp [results, Try.results20, go_sem, Rc0, Rc1, Rc2, Rc3, Rc4, Rc5, Rc6, Rc7]) rfl ⟨rfl, ?_⟩
  exact ((((((((HB.out.setCell (Nat.le_succ _) _).setCell (Nat.le_succ _) _).setCell (Nat.le_succ _) _).setCell (Nat.le_succ _) _).setCell (Nat.le_succ _) _).setCell (Nat.le_succ _) _).setCell (Nat.le_succ _) _).setCell (Nat.le_succ _) _)

set_option maxHeartbeats 1600000 in
set_option maxRecDepth 100000 in
theorem scfold_oy (k : Int) (u st : List UInt8) (x : UInt8) (o : List UInt8) (id a b c : Int) (hu : u.length ≤ 4294967296) (ho : (x :: o).length ≤ 4294967296) {u2 : List UInt8} {q : Bool} (HU : Hid (idFold u = (u2, q))) {o2 : List UInt8} (HO : Hid (idFold (x :: o) = (o2, true))) (hsh : evShort ⟨k, u2, o2, id, ⟨a, b, c, st⟩⟩) (HM : Hid (scMay ⟨k, u2, o2, id, ⟨a, b, c, st⟩⟩ = true)) (w : World) :
    Calls Try.prog 20 #[.agg #[.int .i64 k, .string ⟨u.toArray⟩, .string ⟨(x :: o).toArray⟩, .int .i64 id, .int .i64 a, .int .i64 b, .int .i64 c, .string ⟨st.toArray⟩]] w fun e w' => e = .returned (.tuple #[.agg #[.int .i64 k, .string ⟨u2.toArray⟩, .string ⟨o2.toArray⟩, .int .i64 id, .int .i64 a, .int .i64 b, .int .i64 c, .string ⟨st.toArray⟩], .bool true]) ∧ Below w.heap.size w w' := by
  have b0 := bl_newZ w (.cells #[.int .i64 k, .string ⟨u.toArray⟩, .string ⟨(x :: o).toArray⟩, .int .i64 id, .int .i64 a, .int .i64 b, .int .i64 c, .string ⟨st.toArray⟩] 26)
  have b1 := bl_newZ (w.alloc (.cells #[.int .i64 k, .string ⟨u.toArray⟩, .string ⟨(x :: o).toArray⟩, .int .i64 id, .int .i64 a, .int .i64 b, .int .i64 c, .string ⟨st.toArray⟩] 26)) (.cells #[.int .i64 0, .string ⟨#[]⟩, .string ⟨#[]⟩, .int .i64 0, .int .i64 0, .int .i64 0, .int .i64 0, .string ⟨#[]⟩] 26)
  have HB := Lib.hid (below2Z b0 b1)
  have E := newQ w (.cells #[.int .i64 k, .string ⟨u.toArray⟩, .string ⟨(x :: o).toArray⟩, .int .i64 id, .int .i64 a, .int .i64 b, .int .i64 c, .string ⟨st.toArray⟩] 26)
  replace E := upQ E b1
  replace E := Lib.hid E
  have R := newQ (w.alloc (.cells #[.int .i64 k, .string ⟨u.toArray⟩, .string ⟨(x :: o).toArray⟩, .int .i64 id, .int .i64 a, .int .i64 b, .int .i64 c, .string ⟨st.toArray⟩] 26)) (.cells #[.int .i64 0, .string ⟨#[]⟩, .string ⟨#[]⟩, .int .i64 0, .int .i64 0, .int .i64 0, .int .i64 0, .string ⟨#[]⟩] 26)
  rw [World.size_alloc] at R
  replace R := Lib.hid R
  clear b0 b1
  go_enter Try.func20, Try.ntmps20
  go_wp2_with fail
  refine (fold_eq u hu HU _).mono ?_
  rintro e w3 ⟨rfl, b3⟩
  replace E := Lib.hid (upQ E.out b3)
  replace R := Lib.hid (upQ R.out b3)
  replace HB := Lib.hid (below2Z HB.out b3)
  clear b3
  obtain ⟨⟨Ec0, Ec1, Ec2, Ec3, Ec4, Ec5, Ec6, Ec7⟩, ⟨Ef0, Ef1, Ef2, Ef3, Ef4, Ef5, Ef6, Ef7⟩⟩ := blk8 E.out
  go_wp2_with fail
  clear Ec0 Ec1 Ec2 Ec3 Ec4 Ec5 Ec6 Ec7 Ef0 Ef1 Ef2 Ef3 Ef4 Ef5 Ef6 Ef7
  have E2 : (w3.setCell ⟨w.heap.size, 1, none⟩ (.string ⟨u2.toArray⟩)).heap[w.heap.size]? = some (.cells #[.int .i64 k, .string ⟨u2.toArray⟩, .string ⟨(x :: o).toArray⟩, .int .i64 id, .int .i64 a, .int .i64 b, .int .i64 c, .string ⟨st.toArray⟩] 26 (0, 0)) := heap_setCell_same w3 w.heap.size 1 _ _ _ E.out
  have R2 : (w3.setCell ⟨w.heap.size, 1, none⟩ (.string ⟨u2.toArray⟩)).heap[w.heap.size + 1]? = some (.cells #[.int .i64 0, .string ⟨#[]⟩, .string ⟨#[]⟩, .int .i64 0, .int .i64 0, .int .i64 0, .int .i64 0, .string ⟨#[]⟩] 26 (0, 0)) := by rw [heap_setCell_other _ ⟨w.heap.size, 1, none⟩ (w.heap.size + 1) _ (by simp)]; exact R.out
  have HB2 : Below w.heap.size w (w3.setCell ⟨w.heap.size, 1, none⟩ (.string ⟨u2.toArray⟩)) := HB.out.setCell (Nat.le_refl _) _
  replace E := Lib.hid E2
  replace R := Lib.hid R2
  replace HB := Lib.hid HB2
  clear E2 R2 HB2
  generalize w3.setCell ⟨w.heap.size, 1, none⟩ (.string ⟨u2.toArray⟩) = w4 at E R HB ⊢
  refine (fold_eq (x :: o) ho HO _).mono ?_
  rintro e w5 ⟨rfl, b5⟩
  replace E := Lib.hid (upQ E.out b5)
  replace R := Lib.hid (upQ R.out b5)
  replace HB := Lib.hid (below2Z HB.out b5)
  clear b5
  obtain ⟨⟨Ec0, Ec1, Ec2, Ec3, Ec4, Ec5, Ec6, Ec7⟩, ⟨Ef0, Ef1, Ef2, Ef3, Ef4, Ef5, Ef6, Ef7⟩⟩ := blk8 E.out
  go_wp2_with fail
  clear Ec0 Ec1 Ec2 Ec3 Ec4 Ec5 Ec6 Ec7 Ef0 Ef1 Ef2 Ef3 Ef4 Ef5 Ef6 Ef7
  have E2 : (w5.setCell ⟨w.heap.size, 2, none⟩ (.string ⟨o2.toArray⟩)).heap[w.heap.size]? = some (.cells #[.int .i64 k, .string ⟨u2.toArray⟩, .string ⟨o2.toArray⟩, .int .i64 id, .int .i64 a, .int .i64 b, .int .i64 c, .string ⟨st.toArray⟩] 26 (0, 0)) := heap_setCell_same w5 w.heap.size 2 _ _ _ E.out
  have R2 : (w5.setCell ⟨w.heap.size, 2, none⟩ (.string ⟨o2.toArray⟩)).heap[w.heap.size + 1]? = some (.cells #[.int .i64 0, .string ⟨#[]⟩, .string ⟨#[]⟩, .int .i64 0, .int .i64 0, .int .i64 0, .int .i64 0, .string ⟨#[]⟩] 26 (0, 0)) := by rw [heap_setCell_other _ ⟨w.heap.size, 2, none⟩ (w.heap.size + 1) _ (by simp)]; exact R.out
  have HB2 : Below w.heap.size w (w5.setCell ⟨w.heap.size, 2, none⟩ (.string ⟨o2.toArray⟩)) := HB.out.setCell (Nat.le_refl _) _
  replace E := Lib.hid E2
  replace R := Lib.hid R2
  replace HB := Lib.hid HB2
  clear E2 R2 HB2
  generalize w5.setCell ⟨w.heap.size, 2, none⟩ (.string ⟨o2.toArray⟩) = w6 at E R HB ⊢
  refine (scmay_any k u2 o2 st id a b c hsh HM _).mono ?_
  rintro e w7 ⟨rfl, b7⟩
  replace E := Lib.hid (upQ E.out b7)
  replace R := Lib.hid (upQ R.out b7)
  replace HB := Lib.hid (below2Z HB.out b7)
  clear b7
  obtain ⟨⟨Rc0, Rc1, Rc2, Rc3, Rc4, Rc5, Rc6, Rc7⟩, ⟨Rf0, Rf1, Rf2, Rf3, Rf4, Rf5, Rf6, Rf7⟩⟩ := blk8 R.out
  obtain ⟨⟨Ec0, Ec1, Ec2, Ec3, Ec4, Ec5, Ec6, Ec7⟩, ⟨Ef0, Ef1, Ef2, Ef3, Ef4, Ef5, Ef6, Ef7⟩⟩ := blk8 E.out
  go_wp2_with fail
  refine bodyPost_ret (v := .tuple #[.agg #[.int .i64 k, .string ⟨u2.toArray⟩, .string ⟨o2.toArray⟩, .int .i64 id, .int .i64 a, .int .i64 b, .int .i64 c, .string ⟨st.toArray⟩], .bool true]) (by simp [results, Try.results20, go_sem, Rc0, Rc1, Rc2, Rc3, Rc4, Rc5, Rc6, Rc7]) rfl ⟨rfl, ?_⟩
  exact ((((((((HB.out.setCell (Nat.le_succ _) _).setCell (Nat.le_succ _) _).setCell (Nat.le_succ _) _).setCell (Nat.le_succ _) _).setCell (Nat.le_succ _) _).setCell (Nat.le_succ _) _).setCell (Nat.le_succ _) _).setCell (Nat.le_succ _) _)

set_option maxHeartbeats 1600000 in
set_option maxRecDepth 100000 in
theorem scfold_nn (k : Int) (u st : List UInt8) (id a b c : Int) (hu : u.length ≤ 4294967296) {u2 : List UInt8} {q : Bool} (HU : Hid (idFold u = (u2, q))) (hsh : evShort ⟨k, u2, [], id, ⟨a, b, c, st⟩⟩) (HM : Hid (scMay ⟨k, u2, [], id, ⟨a, b, c, st⟩⟩ = false)) (w : World) :
    Calls Try.prog 20 #[.agg #[.int .i64 k, .string ⟨u.toArray⟩, .string ⟨#[]⟩, .int .i64 id, .int .i64 a, .int .i64 b, .int .i64 c, .string ⟨st.toArray⟩]] w fun e w' => e = .returned (.tuple #[.agg #[.int .i64 0, .string ⟨#[]⟩, .string ⟨#[]⟩, .int .i64 0, .int .i64 0, .int .i64 0, .int .i64 0, .string ⟨#[]⟩], .bool false]) ∧ Below w.heap.size w w' := by
  have b0 := bl_newZ w (.cells #[.int .i64 k, .string ⟨u.toArray⟩, .string ⟨#[]⟩, .int .i64 id, .int .i64 a, .int .i64 b, .int .i64 c, .string ⟨st.toArray⟩] 26)
  have b1 := bl_newZ (w.alloc (.cells #[.int .i64 k, .string ⟨u.toArray⟩, .string ⟨#[]⟩, .int .i64 id, .int .i64 a, .int .i64 b, .int .i64 c, .string ⟨st.toArray⟩] 26)) (.cells #[.int .i64 0, .string ⟨#[]⟩, .string ⟨#[]⟩, .int .i64 0, .int .i64 0, .int .i64 0, .int .i64 0, .string ⟨#[]⟩] 26)
  have HB := Lib.hid (below2Z b0 b1)
  have E := newQ w (.cells #[.int .i64 k, .string ⟨u.toArray⟩, .string ⟨#[]⟩, .int .i64 id, .int .i64 a, .int .i64 b, .int .i64 c, .string ⟨st.toArray⟩] 26)
  replace E := upQ E b1
  replace E := Lib.hid E
  have R := newQ (w.alloc (.cells #[.int .i64 k, .string ⟨u.toArray⟩, .string ⟨#[]⟩, .int .i64 id, .int .i64 a, .int .i64 b, .int .i64 c, .string ⟨st.toArray⟩] 26)) (.cells #[.int .i64 0, .string ⟨#[]⟩, .string ⟨#[]⟩, .int .i64 0, .int .i64 0, .int .i64 0, .int .i64 0, .string ⟨#[]⟩] 26)
  rw [World.size_alloc] at R
  replace R := Lib.hid R
  clear b0 b1
  go_enter Try.func20, Try.ntmps20
  go_wp2_with fail
  refine (fold_eq u hu HU _).mono ?_
  rintro e w3 ⟨rfl, b3⟩
  replace E := Lib.hid (upQ E.out b3)
  replace R := Lib.hid (upQ R.out b3)
  replace HB := Lib.hid (below2Z HB.out b3)
  clear b3
  obtain ⟨⟨Ec0, Ec1, Ec2, Ec3, Ec4, Ec5, Ec6, Ec7⟩, ⟨Ef0, Ef1, Ef2, Ef3, Ef4, Ef5, Ef6, Ef7⟩⟩ := blk8 E.out
  go_wp2_with fail
  clear Ec0 Ec1 Ec2 Ec3 Ec4 Ec5 Ec6 Ec7 Ef0 Ef1 Ef2 Ef3 Ef4 Ef5 Ef6 Ef7
  have E2 : (w3.setCell ⟨w.heap.size, 1, none⟩ (.string ⟨u2.toArray⟩)).heap[w.heap.size]? = some (.cells #[.int .i64 k, .string ⟨u2.toArray⟩, .string ⟨#[]⟩, .int .i64 id, .int .i64 a, .int .i64 b, .int .i64 c, .string ⟨st.toArray⟩] 26 (0, 0)) := heap_setCell_same w3 w.heap.size 1 _ _ _ E.out
  have R2 : (w3.setCell ⟨w.heap.size, 1, none⟩ (.string ⟨u2.toArray⟩)).heap[w.heap.size + 1]? = some (.cells #[.int .i64 0, .string ⟨#[]⟩, .string ⟨#[]⟩, .int .i64 0, .int .i64 0, .int .i64 0, .int .i64 0, .string ⟨#[]⟩] 26 (0, 0)) := by rw [heap_setCell_other _ ⟨w.heap.size, 1, none⟩ (w.heap.size + 1) _ (by simp)]; exact R.out
  have HB2 : Below w.heap.size w (w3.setCell ⟨w.heap.size, 1, none⟩ (.string ⟨u2.toArray⟩)) := HB.out.setCell (Nat.le_refl _) _
  replace E := Lib.hid E2
  replace R := Lib.hid R2
  replace HB := Lib.hid HB2
  clear E2 R2 HB2
  generalize w3.setCell ⟨w.heap.size, 1, none⟩ (.string ⟨u2.toArray⟩) = w4 at E R HB ⊢
  refine (scmay_any k u2 [] st id a b c hsh HM _).mono ?_
  rintro e w5 ⟨rfl, b5⟩
  replace E := Lib.hid (upQ E.out b5)
  replace R := Lib.hid (upQ R.out b5)
  replace HB := Lib.hid (below2Z HB.out b5)
  clear b5
  obtain ⟨⟨Rc0, Rc1, Rc2, Rc3, Rc4, Rc5, Rc6, Rc7⟩, ⟨Rf0, Rf1, Rf2, Rf3, Rf4, Rf5, Rf6, Rf7⟩⟩ := blk8 R.out
  obtain ⟨⟨Ec0, Ec1, Ec2, Ec3, Ec4, Ec5, Ec6, Ec7⟩, ⟨Ef0, Ef1, Ef2, Ef3, Ef4, Ef5, Ef6, Ef7⟩⟩ := blk8 E.out
  go_wp2_with fail
  refine bodyPost_ret (v := .tuple #[.agg #[.int .i64 0, .string ⟨#[]⟩, .string ⟨#[]⟩, .int .i64 0, .int .i64 0, .int .i64 0, .int .i64 0, .string ⟨#[]⟩], .bool false]) (by simp [results, Try.results20, go_sem, Rc0, Rc1, Rc2, Rc3, Rc4, Rc5, Rc6, Rc7]) rfl ⟨rfl, ?_⟩
  exact ((((((((HB.out.setCell (Nat.le_succ _) _).setCell (Nat.le_succ _) _).setCell (Nat.le_succ _) _).setCell (Nat.le_succ _) _).setCell (Nat.le_succ _) _).setCell (Nat.le_succ _) _).setCell (Nat.le_succ _) _).setCell (Nat.le_succ _) _)

set_option maxHeartbeats 1600000 in
set_option maxRecDepth 100000 in
theorem scfold_on (k : Int) (u st : List UInt8) (x : UInt8) (o : List UInt8) (id a b c : Int) (hu : u.length ≤ 4294967296) (ho : (x :: o).length ≤ 4294967296) {u2 : List UInt8} {q : Bool} (HU : Hid (idFold u = (u2, q))) {o2 : List UInt8} (HO : Hid (idFold (x :: o) = (o2, true))) (hsh : evShort ⟨k, u2, o2, id, ⟨a, b, c, st⟩⟩) (HM : Hid (scMay ⟨k, u2, o2, id, ⟨a, b, c, st⟩⟩ = false)) (w : World) :
    Calls Try.prog 20 #[.agg #[.int .i64 k, .string ⟨u.toArray⟩, .string ⟨(x :: o).toArray⟩, .int .i64 id, .int .i64 a, .int .i64 b, .int .i64 c, .string ⟨st.toArray⟩]] w fun e w' => e = .returned (.tuple #[.agg #[.int .i64 0, .string ⟨#[]⟩, .string ⟨#[]⟩, .int .i64 0, .int .i64 0, .int .i64 0, .int .i64 0, .string ⟨#[]⟩], .bool false]) ∧ Below w.heap.size w w' := by
  have b0 := bl_newZ w (.cells #[.int .i64 k, .string ⟨u.toArray⟩, .string ⟨(x :: o).toArray⟩, .int .i64 id, .int .i64 a, .int .i64 b, .int .i64 c, .string ⟨st.toArray⟩] 26)
  have b1 := bl_newZ (w.alloc (.cells #[.int .i64 k, .string ⟨u.toArray⟩, .string ⟨(x :: o).toArray⟩, .int .i64 id, .int .i64 a, .int .i64 b, .int .i64 c, .string ⟨st.toArray⟩] 26)) (.cells #[.int .i64 0, .string ⟨#[]⟩, .string ⟨#[]⟩, .int .i64 0, .int .i64 0, .int .i64 0, .int .i64 0, .string ⟨#[]⟩] 26)
  have HB := Lib.hid (below2Z b0 b1)
  have E := newQ w (.cells #[.int .i64 k, .string ⟨u.toArray⟩, .string ⟨(x :: o).toArray⟩, .int .i64 id, .int .i64 a, .int .i64 b, .int .i64 c, .string ⟨st.toArray⟩] 26)
  replace E := upQ E b1
  replace E := Lib.hid E
  have R := newQ (w.alloc (.cells #[.int .i64 k, .string ⟨u.toArray⟩, .string ⟨(x :: o).toArray⟩, .int .i64 id, .int .i64 a, .int .i64 b, .int .i64 c, .string ⟨st.toArray⟩] 26)) (.cells #[.int .i64 0, .string ⟨#[]⟩, .string ⟨#[]⟩, .int .i64 0, .int .i64 0, .int .i64 0, .int .i64 0, .string ⟨#[]⟩] 26)
  rw [World.size_alloc] at R
  replace R := Lib.hid R
  clear b0 b1
  go_enter Try.func20, Try.ntmps20
  go_wp2_with fail
  refine (fold_eq u hu HU _).mono ?_
  rintro e w3 ⟨rfl, b3⟩
  replace E := Lib.hid (upQ E.out b3)
  replace R := Lib.hid (upQ R.out b3)
  replace HB := Lib.hid (below2Z HB.out b3)
  clear b3
  obtain ⟨⟨Ec0, Ec1, Ec2, Ec3, Ec4, Ec5, Ec6, Ec7⟩, ⟨Ef0, Ef1, Ef2, Ef3, Ef4, Ef5, Ef6, Ef7⟩⟩ := blk8 E.out
  go_wp2_with fail
  clear Ec0 Ec1 Ec2 Ec3 Ec4 Ec5 Ec6 Ec7 Ef0 Ef1 Ef2 Ef3 Ef4 Ef5 Ef6 Ef7
  have E2 : (w3.setCell ⟨w.heap.size, 1, none⟩ (.string ⟨u2.toArray⟩)).heap[w.heap.size]? = some (.cells #[.int .i64 k, .string ⟨u2.toArray⟩, .string ⟨(x :: o).toArray⟩, .int .i64 id, .int .i64 a, .int .i64 b, .int .i64 c, .string ⟨st.toArray⟩] 26 (0, 0)) := heap_setCell_same w3 w.heap.size 1 _ _ _ E.out
  have R2 : (w3.setCell ⟨w.heap.size, 1, none⟩ (.string ⟨u2.toArray⟩)).heap[w.heap.size + 1]? = some (.cells #[.int .i64 0, .string ⟨#[]⟩, .string ⟨#[]⟩, .int .i64 0, .int .i64 0, .int .i64 0, .int .i64 0, .string ⟨#[]⟩] 26 (0, 0)) := by rw [heap_setCell_other _ ⟨w.heap.size, 1, none⟩ (w.heap.size + 1) _ (by simp)]; exact R.out
  have HB2 : Below w.heap.size w (w3.setCell ⟨w.heap.size, 1, none⟩ (.string ⟨u2.toArray⟩)) := HB.out.setCell (Nat.le_refl _) _
  replace E := Lib.hid E2
  replace R := Lib.hid R2
  replace HB := Lib.hid HB2
  clear E2 R2 HB2
  generalize w3.setCell ⟨w.heap.size, 1, none⟩ (.string ⟨u2.toArray⟩) = w4 at E R HB ⊢
  refine (fold_eq (x :: o) ho HO _).mono ?_
  rintro e w5 ⟨rfl, b5⟩
  replace E := Lib.hid (upQ E.out b5)
  replace R := Lib.hid (upQ R.out b5)
  replace HB := Lib.hid (below2Z HB.out b5)
  clear b5
  obtain ⟨⟨Ec0, Ec1, Ec2, Ec3, Ec4, Ec5, Ec6, Ec7⟩, ⟨Ef0, Ef1, Ef2, Ef3, Ef4, Ef5, Ef6, Ef7⟩⟩ := blk8 E.out
  go_wp2_with fail
  clear Ec0 Ec1 Ec2 Ec3 Ec4 Ec5 Ec6 Ec7 Ef0 Ef1 Ef2 Ef3 Ef4 Ef5 Ef6 Ef7
  have E2 : (w5.setCell ⟨w.heap.size, 2, none⟩ (.string ⟨o2.toArray⟩)).heap[w.heap.size]? = some (.cells #[.int .i64 k, .string ⟨u2.toArray⟩, .string ⟨o2.toArray⟩, .int .i64 id, .int .i64 a, .int .i64 b, .int .i64 c, .string ⟨st.toArray⟩] 26 (0, 0)) := heap_setCell_same w5 w.heap.size 2 _ _ _ E.out
  have R2 : (w5.setCell ⟨w.heap.size, 2, none⟩ (.string ⟨o2.toArray⟩)).heap[w.heap.size + 1]? = some (.cells #[.int .i64 0, .string ⟨#[]⟩, .string ⟨#[]⟩, .int .i64 0, .int .i64 0, .int .i64 0, .int .i64 0, .string ⟨#[]⟩] 26 (0, 0)) := by rw [heap_setCell_other _ ⟨w.heap.size, 2, none⟩ (w.heap.size + 1) _ (by simp)]; exact R.out
  have HB2 : Below w.heap.size w (w5.setCell ⟨w.heap.size, 2, none⟩ (.string ⟨o2.toArray⟩)) := HB.out.setCell (Nat.le_refl _) _
  replace E := Lib.hid E2
  replace R := Lib.hid R2
  replace HB := Lib.hid HB2
  clear E2 R2 HB2
  generalize w5.setCell ⟨w.heap.size, 2, none⟩ (.string ⟨o2.toArray⟩) = w6 at E R HB ⊢
  refine (scmay_any k u2 o2 st id a b c hsh HM _).mono ?_
  rintro e w7 ⟨rfl, b7⟩
  replace E := Lib.hid (upQ E.out b7)
  replace R := Lib.hid (upQ R.out b7)
  replace HB := Lib.hid (below2Z HB.out b7)
  clear b7
  obtain ⟨⟨Rc0, Rc1, Rc2, Rc3, Rc4, Rc5, Rc6, Rc7⟩, ⟨Rf0, Rf1, Rf2, Rf3, Rf4, Rf5, Rf6, Rf7⟩⟩ := blk8 R.out
  obtain ⟨⟨Ec0, Ec1, Ec2, Ec3, Ec4, Ec5, Ec6, Ec7⟩, ⟨Ef0, Ef1, Ef2, Ef3, Ef4, Ef5, Ef6, Ef7⟩⟩ := blk8 E.out
  go_wp2_with fail
  refine bodyPost_ret (v := .tuple #[.agg #[.int .i64 0, .string ⟨#[]⟩, .string ⟨#[]⟩, .int .i64 0, .int .i64 0, .int .i64 0, .int .i64 0, .string ⟨#[]⟩], .bool false]) (by simp [results, Try.results20, go_sem, Rc0, Rc1, Rc2, Rc3, Rc4, Rc5, Rc6, Rc7]) rfl ⟨rfl, ?_⟩
  exact ((((((((HB.out.setCell (Nat.le_succ _) _).setCell (Nat.le_succ _) _).setCell (Nat.le_succ _) _).setCell (Nat.le_succ _) _).setCell (Nat.le_succ _) _).setCell (Nat.le_succ _) _).setCell (Nat.le_succ _) _).setCell (Nat.le_succ _) _)

set_option maxHeartbeats 1600000 in
set_option maxRecDepth 100000 in
theorem scfold_bad (k : Int) (u st : List UInt8) (x : UInt8) (o : List UInt8) (id a b c : Int) (hu : u.length ≤ 4294967296) (ho : (x :: o).length ≤ 4294967296) {u2 : List UInt8} {q : Bool} (HU : Hid (idFold u = (u2, q))) {o2 : List UInt8} (HO : Hid (idFold (x :: o) = (o2, false))) (w : World) :
    Calls Try.prog 20 #[.agg #[.int .i64 k, .string ⟨u.toArray⟩, .string ⟨(x :: o).toArray⟩, .int .i64 id, .int .i64 a, .int .i64 b, .int .i64 c, .string ⟨st.toArray⟩]] w fun e w' => e = .returned (.tuple #[.agg #[.int .i64 0, .string ⟨#[]⟩, .string ⟨#[]⟩, .int .i64 0, .int .i64 0, .int .i64 0, .int .i64 0, .string ⟨#[]⟩], .bool false]) ∧ Below w.heap.size w w' := by
  have b0 := bl_newZ w (.cells #[.int .i64 k, .string ⟨u.toArray⟩, .string ⟨(x :: o).toArray⟩, .int .i64 id, .int .i64 a, .int .i64 b, .int .i64 c, .string ⟨st.toArray⟩] 26)
  have b1 := bl_newZ (w.alloc (.cells #[.int .i64 k, .string ⟨u.toArray⟩, .string ⟨(x :: o).toArray⟩, .int .i64 id, .int .i64 a, .int .i64 b, .int .i64 c, .string ⟨st.toArray⟩] 26)) (.cells #[.int .i64 0, .string ⟨#[]⟩, .string ⟨#[]⟩, .int .i64 0, .int .i64 0, .int .i64 0, .int .i64 0, .string ⟨#[]⟩] 26)
  have HB := Lib.hid (below2Z b0 b1)
  have E := newQ w (.cells #[.int .i64 k, .string ⟨u.toArray⟩, .string ⟨(x :: o).toArray⟩, .int .i64 id, .int .i64 a, .int .i64 b, .int .i64 c, .string ⟨st.toArray⟩] 26)
  replace E := upQ E b1
  replace E := Lib.hid E
  have R := newQ (w.alloc (.cells #[.int .i64 k, .string ⟨u.toArray⟩, .string ⟨(x :: o).toArray⟩, .int .i64 id, .int .i64 a, .int .i64 b, .int .i64 c, .string ⟨st.toArray⟩] 26)) (.cells #[.int .i64 0, .string ⟨#[]⟩, .string ⟨#[]⟩, .int .i64 0, .int .i64 0, .int .i64 0, .int .i64 0, .string ⟨#[]⟩] 26)
  rw [World.size_alloc] at R
  replace R := Lib.hid R
  clear b0 b1
  go_enter Try.func20, Try.ntmps20
  go_wp2_with fail
  refine (fold_eq u hu HU _).mono ?_
  rintro e w3 ⟨rfl, b3⟩
  replace E := Lib.hid (upQ E.out b3)
  replace R := Lib.hid (upQ R.out b3)
  replace HB := Lib.hid (below2Z HB.out b3)
  clear b3
  obtain ⟨⟨Ec0, Ec1, Ec2, Ec3, Ec4, Ec5, Ec6, Ec7⟩, ⟨Ef0, Ef1, Ef2, Ef3, Ef4, Ef5, Ef6, Ef7⟩⟩ := blk8 E.out
  go_wp2_with fail
  clear Ec0 Ec1 Ec2 Ec3 Ec4 Ec5 Ec6 Ec7 Ef0 Ef1 Ef2 Ef3 Ef4 Ef5 Ef6 Ef7
  have E2 : (w3.setCell ⟨w.heap.size, 1, none⟩ (.string ⟨u2.toArray⟩)).heap[w.heap.size]? = some (.cells #[.int .i64 k, .string ⟨u2.toArray⟩, .string ⟨(x :: o).toArray⟩, .int .i64 id, .int .i64 a, .int .i64 b, .int .i64 c, .string ⟨st.toArray⟩] 26 (0, 0)) := heap_setCell_same w3 w.heap.size 1 _ _ _ E.out
  have R2 : (w3.setCell ⟨w.heap.size, 1, none⟩ (.string ⟨u2.toArray⟩)).heap[w.heap.size + 1]? = some (.cells #[.int .i64 0, .string ⟨#[]⟩, .string ⟨#[]⟩, .int .i64 0, .int .i64 0, .int .i64 0, .int .i64 0, .string ⟨#[]⟩] 26 (0, 0)) := by rw [heap_setCell_other _ ⟨w.heap.size, 1, none⟩ (w.heap.size + 1) _ (by simp)]; exact R.out
  have HB2 : Below w.heap.size w (w3.setCell ⟨w.heap.size, 1, none⟩ (.string ⟨u2.toArray⟩)) := HB.out.setCell (Nat.le_refl _) _
  replace E := Lib.hid E2
  replace R := Lib.hid R2
  replace HB := Lib.hid HB2
  clear E2 R2 HB2
  generalize w3.setCell ⟨w.heap.size, 1, none⟩ (.string ⟨u2.toArray⟩) = w4 at E R HB ⊢
  refine (fold_eq (x :: o) ho HO _).mono ?_
  rintro e w5 ⟨rfl, b5⟩
  replace E := Lib.hid (upQ E.out b5)
  replace R := Lib.hid (upQ R.out b5)
  replace HB := Lib.hid (below2Z HB.out b5)
  clear b5
  obtain ⟨⟨Rc0, Rc1, Rc2, Rc3, Rc4, Rc5, Rc6, Rc7⟩, ⟨Rf0, Rf1, Rf2, Rf3, Rf4, Rf5, Rf6, Rf7⟩⟩ := blk8 R.out
  go_wp2_with fail
  refine bodyPost_ret (v := .tuple #[.agg #[.int .i64 0, .string ⟨#[]⟩, .string ⟨#[]⟩, .int .i64 0, .int .i64 0, .int .i64 0, .int .i64 0, .string ⟨#[]⟩], .bool false]) (by simp [results, Try.results20, go_sem, Rc0, Rc1, Rc2, Rc3, Rc4, Rc5, Rc6, Rc7]) rfl ⟨rfl, ?_⟩
  exact ((((((((HB.out.setCell (Nat.le_succ _) _).setCell (Nat.le_succ _) _).setCell (Nat.le_succ _) _).setCell (Nat.le_succ _) _).setCell (Nat.le_succ _) _).setCell (Nat.le_succ _) _).setCell (Nat.le_succ _) _).setCell (Nat.le_succ _) _)

theorem evb_inj {k k' id id' a b c a' b' c' : Int} {u u' o o' st st' : List UInt8} {r r' : Bool} (h : ((⟨k, u, o, id, ⟨a, b, c, st⟩⟩ : Ev), r) = (⟨k', u', o', id', ⟨a', b', c', st'⟩⟩, r')) : k = k' ∧ u = u' ∧ o = o' ∧ id = id' ∧ a = a' ∧ b = b' ∧ c = c' ∧ st = st' ∧ r = r' := by
  simp only [Prod.mk.injEq, Ev.mk.injEq, Val.mk.injEq] at h
  obtain ⟨⟨h1, h2, h3, h4, h5, h6, h7, h8⟩, h9⟩ := h
  exact ⟨h1, h2, h3, h4, h5, h6, h7, h8, h9⟩

/-- P23.1, the code's Fold. -/
theorem scfold_any (k : Int) (u o st : List UInt8) (id a b c : Int) (hs : evShort ⟨k, u, o, id, ⟨a, b, c, st⟩⟩) {k2 id2 a2 b2 c2 : Int} {u2 o2 st2 : List UInt8} {r : Bool} (h : Hid (scFold ⟨k, u, o, id, ⟨a, b, c, st⟩⟩ = (⟨k2, u2, o2, id2, ⟨a2, b2, c2, st2⟩⟩, r))) (w : World) :
    Calls Try.prog 20 #[.agg #[.int .i64 k, .string ⟨u.toArray⟩, .string ⟨o.toArray⟩, .int .i64 id, .int .i64 a, .int .i64 b, .int .i64 c, .string ⟨st.toArray⟩]] w fun e w' => e = .returned (.tuple #[.agg #[.int .i64 k2, .string ⟨u2.toArray⟩, .string ⟨o2.toArray⟩, .int .i64 id2, .int .i64 a2, .int .i64 b2, .int .i64 c2, .string ⟨st2.toArray⟩], .bool r]) ∧ Below w.heap.size w w' := by
  have e := h.out
  clear h
  obtain ⟨s1, s2, s3⟩ := hs
  simp only at s1 s2 s3
  unfold scFold scFolded at e
  simp only at e
  obtain ⟨u0, q, hu⟩ : ∃ x q, idFold u = (x, q) := ⟨_, _, rfl⟩
  have hul := idFold_short u
  rw [hu] at e hul
  simp only at e hul
  cases o with
  | nil =>
    rw [if_neg (by simp), idFold_nil] at e
    simp only at e
    have hsh : evShort ⟨k, u0, [], id, ⟨a, b, c, st⟩⟩ := ⟨Nat.le_trans hul s1, by simp, s3⟩
    cases hm : scMay ⟨k, u0, [], id, ⟨a, b, c, st⟩⟩ with
    | false =>
      rw [if_neg (by rw [hm]; decide)] at e
      obtain ⟨rfl, rfl, rfl, rfl, rfl, rfl, rfl, rfl, rfl⟩ := evb_inj (show ((⟨0, [], [], 0, ⟨0, 0, 0, []⟩⟩ : Ev), false) = _ from e)
      exact scfold_nn k u st id a b c s1 (Lib.hid hu) hsh (Lib.hid hm) w
    | true =>
      rw [if_pos hm] at e
      obtain ⟨rfl, rfl, rfl, rfl, rfl, rfl, rfl, rfl, rfl⟩ := evb_inj e
      exact scfold_ny k u st id a b c s1 (Lib.hid hu) hsh (Lib.hid hm) w
  | cons x o =>
    obtain ⟨o0, p, ho⟩ : ∃ x2 q, idFold (x :: o) = (x2, q) := ⟨_, _, rfl⟩
    have hol := idFold_short (x :: o)
    rw [ho] at e hol
    simp only at e hol
    cases p with
    | false =>
      rw [if_pos ⟨by simp, rfl⟩] at e
      obtain ⟨rfl, rfl, rfl, rfl, rfl, rfl, rfl, rfl, rfl⟩ := evb_inj (show ((⟨0, [], [], 0, ⟨0, 0, 0, []⟩⟩ : Ev), false) = _ from e)
      exact scfold_bad k u st x o id a b c s1 s2 (Lib.hid hu) (Lib.hid ho) w
    | true =>
      rw [if_neg (by simp)] at e
      have hsh : evShort ⟨k, u0, o0, id, ⟨a, b, c, st⟩⟩ := ⟨Nat.le_trans hul s1, Nat.le_trans hol s2, s3⟩
      cases hm : scMay ⟨k, u0, o0, id, ⟨a, b, c, st⟩⟩ with
      | false =>
        rw [if_neg (by rw [hm]; decide)] at e
        obtain ⟨rfl, rfl, rfl, rfl, rfl, rfl, rfl, rfl, rfl⟩ := evb_inj (show ((⟨0, [], [], 0, ⟨0, 0, 0, []⟩⟩ : Ev), false) = _ from e)
        exact scfold_on k u st x o id a b c s1 s2 (Lib.hid hu) (Lib.hid ho) hsh (Lib.hid hm) w
      | true =>
        rw [if_pos hm] at e
        obtain ⟨rfl, rfl, rfl, rfl, rfl, rfl, rfl, rfl, rfl⟩ := evb_inj e
        exact scfold_oy k u st x o id a b c s1 s2 (Lib.hid hu) (Lib.hid ho) hsh (Lib.hid hm) w

end Go.Proofs.Ythfkfonfiejbmaa
