/-
  LAYER 23, THE CODE: Decode, takeOne, Fold.
-/
import Derived.Test.YthfkfonfiejbmaaScrTake
namespace Go.Proofs.Ythfkfonfiejbmaa
open Go.RowKit

theorem open_eq (l : List UInt8) (hl : l.length ≤ 4294967296) {t : List UInt8} {er : Nat} (h : Hid (copen l = (t, er))) (w : World) :
    Calls Try.prog 23 #[.string ⟨l.toArray⟩] w fun e w' => e = .returned (.tuple #[.string ⟨t.toArray⟩, .int .i64 er]) ∧ Below w.heap.size w w' := by
  have := open_any l hl w
  rw [h.out] at this
  exact this

theorem copen_len {l t : List UInt8} {er : Nat} (h : copen l = (t, er)) : t.length ≤ l.length := by
  unfold copen at h
  split at h
  · simp only [Prod.mk.injEq] at h; rw [← h.1]; simp
  · split at h
    · simp only [Prod.mk.injEq] at h; rw [← h.1, List.length_take]; omega
    · simp only [Prod.mk.injEq] at h; rw [← h.1]; simp

theorem evn_inj {k k' id id' a b c a' b' c' : Int} {u u' o o' st st' : List UInt8} {r r' : Nat} (h : ((⟨k, u, o, id, ⟨a, b, c, st⟩⟩ : Ev), r) = (⟨k', u', o', id', ⟨a', b', c', st'⟩⟩, r')) : k = k' ∧ u = u' ∧ o = o' ∧ id = id' ∧ a = a' ∧ b = b' ∧ c = c' ∧ st = st' ∧ r = r' := by
  simp only [Prod.mk.injEq, Ev.mk.injEq, Val.mk.injEq] at h
  obtain ⟨⟨h1, h2, h3, h4, h5, h6, h7, h8⟩, h9⟩ := h
  exact ⟨h1, h2, h3, h4, h5, h6, h7, h8, h9⟩

/-- What is taken of a text is no longer than the text. -/
theorem vtake_len {l : List UInt8} {p m : Int} {t : List UInt8} {f er : Nat} (h : vtake l p m = (t, f, er)) : t.length ≤ l.length := vtake_short h

theorem idTake_short {l : List UInt8} {p : Int} {t : List UInt8} {f er : Nat} (h : idTake l p = (t, f, er)) : t.length ≤ l.length := by
  unfold idTake at h
  split at h
  · simp only [Prod.mk.injEq] at h; rw [← h.1]; simp
  · split at h
    · exact vtake_short h
    · simp only [Prod.mk.injEq] at h; rw [← h.1]; simp

theorem vaTake_short {l : List UInt8} {p : Int} {v : Val} {f er : Nat} (h : vaTake l p = (v, f, er)) : v.st.length ≤ l.length := by
  unfold vaTake at h
  split at h
  · simp only [Prod.mk.injEq] at h; rw [← h.1]; simp [Val.zero]
  · split at h
    · simp only [Prod.mk.injEq] at h; rw [← h.1]; simp [Val.zero]
    · split at h
      · simp only [Prod.mk.injEq] at h; rw [← h.1]; simp [Val.zero]
      · split at h
        · simp only [Prod.mk.injEq] at h; rw [← h.1]; simp [Val.zero]
        · split at h
          · simp only [Prod.mk.injEq] at h; rw [← h.1]; simp [Val.zero]
          · simp only [Prod.mk.injEq] at h
            rw [← h.1]
            exact vtake_short (er := (vtake l (vget l (p + 2)).2.1 32).2.2) (f := (vtake l (vget l (p + 2)).2.1 32).2.1) rfl

theorem scTake_short {l : List UInt8} {e : Ev} {r : Bool} (h : scTake l = (e, r)) (hl : l.length ≤ 4294967296) : evShort e := by
  have hz : evShort Ev.zero := ⟨by simp [Ev.zero], by simp [Ev.zero], by simp [Ev.zero, Val.zero]⟩
  unfold scTake at h
  split at h
  · simp only [Prod.mk.injEq] at h; rw [← h.1]; exact hz
  split at h
  · simp only [Prod.mk.injEq] at h; rw [← h.1]; exact hz
  have hu := idTake_short (l := l) (p := 1) rfl
  unfold scPart at h
  split at h
  · split at h
    · simp only [Prod.mk.injEq] at h; rw [← h.1]; exact hz
    · have ho := idTake_short (l := l) (p := ((idTake l 1).2.1 : Int)) rfl
      simp only [Prod.mk.injEq] at h; rw [← h.1]
      exact ⟨Nat.le_trans hu hl, Nat.le_trans ho hl, by simp [Val.zero]⟩
  split at h
  · split at h
    · split at h
      · simp only [Prod.mk.injEq] at h; rw [← h.1]; exact hz
      · have hv := vaTake_short (l := l) (p := (((idTake l 1).2.1 + 1 : Nat) : Int)) rfl
        simp only [Prod.mk.injEq] at h; rw [← h.1]
        exact ⟨Nat.le_trans hu hl, by simp, Nat.le_trans hv hl⟩
    · simp only [Prod.mk.injEq] at h; rw [← h.1]; exact hz
  split at h
  · split at h
    · simp only [Prod.mk.injEq] at h; rw [← h.1]
      exact ⟨Nat.le_trans hu hl, by simp, by simp [Val.zero]⟩
    · simp only [Prod.mk.injEq] at h; rw [← h.1]; exact hz
  · simp only [Prod.mk.injEq] at h; rw [← h.1]
    exact ⟨Nat.le_trans hu hl, by simp, by simp [Val.zero]⟩

set_option maxHeartbeats 1600000 in
set_option maxRecDepth 100000 in
theorem scdec_err (s : List UInt8) (hl : s.length ≤ 4294967296) {t : List UInt8} {er : Nat} (HT : Hid (copen s = (t, er))) (he : er ≠ 0) (w : World) :
    Calls Try.prog 9 #[.string ⟨s.toArray⟩] w fun e w' => e = .returned (.tuple #[.agg #[.int .i64 0, .string ⟨#[]⟩, .string ⟨#[]⟩, .int .i64 0, .int .i64 0, .int .i64 0, .int .i64 0, .string ⟨#[]⟩], .int .i64 er]) ∧ Below w.heap.size w w' := by
  have t1 : ((er : Int) != 0) = true := by simp; omega
  clear he
  have b0 := bl_newZ w (.cells #[.int .i64 0, .string ⟨#[]⟩, .string ⟨#[]⟩, .int .i64 0, .int .i64 0, .int .i64 0, .int .i64 0, .string ⟨#[]⟩] 26)
  have HB := Lib.hid b0
  have R := newQ w (.cells #[.int .i64 0, .string ⟨#[]⟩, .string ⟨#[]⟩, .int .i64 0, .int .i64 0, .int .i64 0, .int .i64 0, .string ⟨#[]⟩] 26)
  replace R := Lib.hid R
  clear b0
  go_enter Try.func9, Try.ntmps9
  go_wp2_with fail
  refine (open_eq s hl HT _).mono ?_
  rintro e w2 ⟨rfl, b2⟩
  replace R := Lib.hid (upQ R.out b2)
  replace HB := Lib.hid (below2Z HB.out b2)
  clear b2
  obtain ⟨⟨Rc0, Rc1, Rc2, Rc3, Rc4, Rc5, Rc6, Rc7⟩, ⟨Rf0, Rf1, Rf2, Rf3, Rf4, Rf5, Rf6, Rf7⟩⟩ := blk8 R.out
  go_wp2_with fail
  refine bodyPost_ret (v := .tuple #[.agg #[.int .i64 0, .string ⟨#[]⟩, .string ⟨#[]⟩, .int .i64 0, .int .i64 0, .int .i64 0, .int .i64 0, .string ⟨#[]⟩], .int .i64 er]) (by simp [results, Try.results9, go_sem, Rc0, Rc1, Rc2, Rc3, Rc4, Rc5, Rc6, Rc7]) rfl ⟨rfl, ?_⟩
  exact ((((((((HB.out.setCell (Nat.le_refl _) _).setCell (Nat.le_refl _) _).setCell (Nat.le_refl _) _).setCell (Nat.le_refl _) _).setCell (Nat.le_refl _) _).setCell (Nat.le_refl _) _).setCell (Nat.le_refl _) _).setCell (Nat.le_refl _) _)

set_option maxHeartbeats 1600000 in
set_option maxRecDepth 100000 in
theorem scdec_cut (s : List UInt8) (hl : s.length ≤ 4294967296) {t : List UInt8} (HT : Hid (copen s = (t, 0))) (htl : t.length ≤ 4294967296) {k id a b c : Int} {u o st : List UInt8} (HE : Hid (scTake t = (⟨k, u, o, id, ⟨a, b, c, st⟩⟩, false))) (w : World) :
    Calls Try.prog 9 #[.string ⟨s.toArray⟩] w fun e w' => e = .returned (.tuple #[.agg #[.int .i64 0, .string ⟨#[]⟩, .string ⟨#[]⟩, .int .i64 0, .int .i64 0, .int .i64 0, .int .i64 0, .string ⟨#[]⟩], .int .i64 3]) ∧ Below w.heap.size w w' := by
  have b0 := bl_newZ w (.cells #[.int .i64 0, .string ⟨#[]⟩, .string ⟨#[]⟩, .int .i64 0, .int .i64 0, .int .i64 0, .int .i64 0, .string ⟨#[]⟩] 26)
  have HB := Lib.hid b0
  have R := newQ w (.cells #[.int .i64 0, .string ⟨#[]⟩, .string ⟨#[]⟩, .int .i64 0, .int .i64 0, .int .i64 0, .int .i64 0, .string ⟨#[]⟩] 26)
  replace R := Lib.hid R
  clear b0
  go_enter Try.func9, Try.ntmps9
  go_wp2_with fail
  refine (open_eq s hl HT _).mono ?_
  rintro e w2 ⟨rfl, b2⟩
  replace R := Lib.hid (upQ R.out b2)
  replace HB := Lib.hid (below2Z HB.out b2)
  clear b2
  go_wp2_with fail
  refine (sctake_any t htl HE _).mono ?_
  rintro e w3 ⟨rfl, b3⟩
  replace R := Lib.hid (upQ R.out b3)
  replace HB := Lib.hid (below2Z HB.out b3)
  clear b3
  obtain ⟨⟨Rc0, Rc1, Rc2, Rc3, Rc4, Rc5, Rc6, Rc7⟩, ⟨Rf0, Rf1, Rf2, Rf3, Rf4, Rf5, Rf6, Rf7⟩⟩ := blk8 R.out
  have hR := (Array.getElem?_eq_some_iff.1 R.out).1
  go_wp2_with fail
  refine bodyPost_ret (v := .tuple #[.agg #[.int .i64 0, .string ⟨#[]⟩, .string ⟨#[]⟩, .int .i64 0, .int .i64 0, .int .i64 0, .int .i64 0, .string ⟨#[]⟩], .int .i64 3]) (by simp [results, Try.results9, go_sem, Rc0, Rc1, Rc2, Rc3, Rc4, Rc5, Rc6, Rc7, World.cell?_alloc_lt, hR]) rfl ⟨rfl, ?_⟩
  exact (((((((((HB.out.setCell (Nat.le_refl _) _).setCell (Nat.le_refl _) _).setCell (Nat.le_refl _) _).setCell (Nat.le_refl _) _).setCell (Nat.le_refl _) _).setCell (Nat.le_refl _) _).setCell (Nat.le_refl _) _).setCell (Nat.le_refl _) _)).alloc (by simp only [setCell_size]; exact HB.out.size) _

set_option maxHeartbeats 1600000 in
set_option maxRecDepth 100000 in
theorem scdec_no (s : List UInt8) (hl : s.length ≤ 4294967296) {t : List UInt8} (HT : Hid (copen s = (t, 0))) (htl : t.length ≤ 4294967296) {k id a b c : Int} {u o st : List UInt8} (HE : Hid (scTake t = (⟨k, u, o, id, ⟨a, b, c, st⟩⟩, true))) (hsh : evShort ⟨k, u, o, id, ⟨a, b, c, st⟩⟩) (HM : Hid (scMay ⟨k, u, o, id, ⟨a, b, c, st⟩⟩ = false)) (w : World) :
    Calls Try.prog 9 #[.string ⟨s.toArray⟩] w fun e w' => e = .returned (.tuple #[.agg #[.int .i64 0, .string ⟨#[]⟩, .string ⟨#[]⟩, .int .i64 0, .int .i64 0, .int .i64 0, .int .i64 0, .string ⟨#[]⟩], .int .i64 3]) ∧ Below w.heap.size w w' := by
  have b0 := bl_newZ w (.cells #[.int .i64 0, .string ⟨#[]⟩, .string ⟨#[]⟩, .int .i64 0, .int .i64 0, .int .i64 0, .int .i64 0, .string ⟨#[]⟩] 26)
  have HB := Lib.hid b0
  have R := newQ w (.cells #[.int .i64 0, .string ⟨#[]⟩, .string ⟨#[]⟩, .int .i64 0, .int .i64 0, .int .i64 0, .int .i64 0, .string ⟨#[]⟩] 26)
  replace R := Lib.hid R
  clear b0
  go_enter Try.func9, Try.ntmps9
  go_wp2_with fail
  refine (open_eq s hl HT _).mono ?_
  rintro e w2 ⟨rfl, b2⟩
  replace R := Lib.hid (upQ R.out b2)
  replace HB := Lib.hid (below2Z HB.out b2)
  clear b2
  go_wp2_with fail
  refine (sctake_any t htl HE _).mono ?_
  rintro e w3 ⟨rfl, b3⟩
  replace R := Lib.hid (upQ R.out b3)
  replace HB := Lib.hid (below2Z HB.out b3)
  clear b3
  go_wp2_with fail
  have b4 := bl_newZ w3 (.cells #[.int .i64 k, .string ⟨u.toArray⟩, .string ⟨o.toArray⟩, .int .i64 id, .int .i64 a, .int .i64 b, .int .i64 c, .string ⟨st.toArray⟩] 26)
  have E := newQ w3 (.cells #[.int .i64 k, .string ⟨u.toArray⟩, .string ⟨o.toArray⟩, .int .i64 id, .int .i64 a, .int .i64 b, .int .i64 c, .string ⟨st.toArray⟩] 26)
  have hE : w.heap.size ≤ w3.heap.size := HB.out.size
  replace R := Lib.hid (upQ R.out b4)
  replace HB := Lib.hid (below2Z HB.out b4)
  clear b4
  replace E := Lib.hid E
  generalize w3.alloc (.cells #[.int .i64 k, .string ⟨u.toArray⟩, .string ⟨o.toArray⟩, .int .i64 id, .int .i64 a, .int .i64 b, .int .i64 c, .string ⟨st.toArray⟩] 26) = w5 at R E HB ⊢
  generalize w3.heap.size = BE at E hE ⊢
  obtain ⟨⟨Ec0, Ec1, Ec2, Ec3, Ec4, Ec5, Ec6, Ec7⟩, ⟨Ef0, Ef1, Ef2, Ef3, Ef4, Ef5, Ef6, Ef7⟩⟩ := blk8 E.out
  go_wp2_with fail
  clear Ec0 Ec1 Ec2 Ec3 Ec4 Ec5 Ec6 Ec7 Ef0 Ef1 Ef2 Ef3 Ef4 Ef5 Ef6 Ef7
  refine (scmay_any k u o st id a b c hsh HM _).mono ?_
  rintro e w6 ⟨rfl, b6⟩
  replace R := Lib.hid (upQ R.out b6)
  replace E := Lib.hid (upQ E.out b6)
  replace HB := Lib.hid (below2Z HB.out b6)
  clear b6
  obtain ⟨⟨Rc0, Rc1, Rc2, Rc3, Rc4, Rc5, Rc6, Rc7⟩, ⟨Rf0, Rf1, Rf2, Rf3, Rf4, Rf5, Rf6, Rf7⟩⟩ := blk8 R.out
  go_wp2_with fail
  refine bodyPost_ret (v := .tuple #[.agg #[.int .i64 0, .string ⟨#[]⟩, .string ⟨#[]⟩, .int .i64 0, .int .i64 0, .int .i64 0, .int .i64 0, .string ⟨#[]⟩], .int .i64 3]) (by simp [results, Try.results9, go_sem, Rc0, Rc1, Rc2, Rc3, Rc4, Rc5, Rc6, Rc7]) rfl ⟨rfl, ?_⟩
  exact ((((((((HB.out.setCell (Nat.le_refl _) _).setCell (Nat.le_refl _) _).setCell (Nat.le_refl _) _).setCell (Nat.le_refl _) _).setCell (Nat.le_refl _) _).setCell (Nat.le_refl _) _).setCell (Nat.le_refl _) _).setCell (Nat.le_refl _) _)

set_option maxHeartbeats 1600000 in
set_option maxRecDepth 100000 in
theorem scdec_ok (s : List UInt8) (hl : s.length ≤ 4294967296) {t : List UInt8} (HT : Hid (copen s = (t, 0))) (htl : t.length ≤ 4294967296) {k id a b c : Int} {u o st : List UInt8} (HE : Hid (scTake t = (⟨k, u, o, id, ⟨a, b, c, st⟩⟩, true))) (hsh : evShort ⟨k, u, o, id, ⟨a, b, c, st⟩⟩) (HM : Hid (scMay ⟨k, u, o, id, ⟨a, b, c, st⟩⟩ = true)) (w : World) :
    Calls Try.prog 9 #[.string ⟨s.toArray⟩] w fun e w' => e = .returned (.tuple #[.agg #[.int .i64 k, .string ⟨u.toArray⟩, .string ⟨o.toArray⟩, .int .i64 id, .int .i64 a, .int .i64 b, .int .i64 c, .string ⟨st.toArray⟩], .int .i64 0]) ∧ Below w.heap.size w w' := by
  have b0 := bl_newZ w (.cells #[.int .i64 0, .string ⟨#[]⟩, .string ⟨#[]⟩, .int .i64 0, .int .i64 0, .int .i64 0, .int .i64 0, .string ⟨#[]⟩] 26)
  have HB := Lib.hid b0
  have R := newQ w (.cells #[.int .i64 0, .string ⟨#[]⟩, .string ⟨#[]⟩, .int .i64 0, .int .i64 0, .int .i64 0, .int .i64 0, .string ⟨#[]⟩] 26)
  replace R := Lib.hid R
  clear b0
  go_enter Try.func9, Try.ntmps9
  go_wp2_with fail
  refine (open_eq s hl HT _).mono ?_
  rintro e w2 ⟨rfl, b2⟩
  replace R := Lib.hid (upQ R.out b2)
  replace HB := Lib.hid (below2Z HB.out b2)
  clear b2
  go_wp2_with fail
  refine (sctake_any t htl HE _).mono ?_
  rintro e w3 ⟨rfl, b3⟩
  replace R := Lib.hid (upQ R.out b3)
  replace HB := Lib.hid (below2Z HB.out b3)
  clear b3
  go_wp2_with fail
  have b4 := bl_newZ w3 (.cells #[.int .i64 k, .string ⟨u.toArray⟩, .string ⟨o.toArray⟩, .int .i64 id, .int .i64 a, .int .i64 b, .int .i64 c, .string ⟨st.toArray⟩] 26)
  have E := newQ w3 (.cells #[.int .i64 k, .string ⟨u.toArray⟩, .string ⟨o.toArray⟩, .int .i64 id, .int .i64 a, .int .i64 b, .int .i64 c, .string ⟨st.toArray⟩] 26)
  have hE : w.heap.size ≤ w3.heap.size := HB.out.size
  replace R := Lib.hid (upQ R.out b4)
  replace HB := Lib.hid (below2Z HB.out b4)
  clear b4
  replace E := Lib.hid E
  generalize w3.alloc (.cells #[.int .i64 k, .string ⟨u.toArray⟩, .string ⟨o.toArray⟩, .int .i64 id, .int .i64 a, .int .i64 b, .int .i64 c, .string ⟨st.toArray⟩] 26) = w5 at R E HB ⊢
  generalize w3.heap.size = BE at E hE ⊢
  obtain ⟨⟨Ec0, Ec1, Ec2, Ec3, Ec4, Ec5, Ec6, Ec7⟩, ⟨Ef0, Ef1, Ef2, Ef3, Ef4, Ef5, Ef6, Ef7⟩⟩ := blk8 E.out
  go_wp2_with fail
  clear Ec0 Ec1 Ec2 Ec3 Ec4 Ec5 Ec6 Ec7 Ef0 Ef1 Ef2 Ef3 Ef4 Ef5 Ef6 Ef7
  refine (scmay_any k u o st id a b c hsh HM _).mono ?_
  rintro e w6 ⟨rfl, b6⟩
  replace R := Lib.hid (upQ R.out b6)
  replace E := Lib.hid (upQ E.out b6)
  replace HB := Lib.hid (below2Z HB.out b6)
  clear b6
  obtain ⟨⟨Rc0, Rc1, Rc2, Rc3, Rc4, Rc5, Rc6, Rc7⟩, ⟨Rf0, Rf1, Rf2, Rf3, Rf4, Rf5, Rf6, Rf7⟩⟩ := blk8 R.out
  obtain ⟨⟨Ec0, Ec1, Ec2, Ec3, Ec4, Ec5, Ec6, Ec7⟩, ⟨Ef0, Ef1, Ef2, Ef3, Ef4, Ef5, Ef6, Ef7⟩⟩ := blk8 E.out
  go_wp2_with fail
  refine bodyPost_ret (v := .tuple #[.agg #[.int .i64 k, .string ⟨u.toArray⟩, .string ⟨o.toArray⟩, .int .i64 id, .int .i64 a, .int .i64 b, .int .i64 c, .string ⟨st.toArray⟩], .int .i64 0]) (by simp [results, Try.results9, go_sem, Rc0, Rc1, Rc2, Rc3, Rc4, Rc5, Rc6, Rc7]) rfl ⟨rfl, ?_⟩
  exact ((((((((HB.out.setCell (Nat.le_refl _) _).setCell (Nat.le_refl _) _).setCell (Nat.le_refl _) _).setCell (Nat.le_refl _) _).setCell (Nat.le_refl _) _).setCell (Nat.le_refl _) _).setCell (Nat.le_refl _) _).setCell (Nat.le_refl _) _)

/-- P23.2, the code's Decode. -/
theorem scdec_any (s : List UInt8) (hl : s.length ≤ 4294967296) {k id a b c : Int} {u o st : List UInt8} {er : Nat} (h : Hid (scDec s = (⟨k, u, o, id, ⟨a, b, c, st⟩⟩, er))) (w : World) :
    Calls Try.prog 9 #[.string ⟨s.toArray⟩] w fun e w' => e = .returned (.tuple #[.agg #[.int .i64 k, .string ⟨u.toArray⟩, .string ⟨o.toArray⟩, .int .i64 id, .int .i64 a, .int .i64 b, .int .i64 c, .string ⟨st.toArray⟩], .int .i64 er]) ∧ Below w.heap.size w w' := by
  have e := h.out
  unfold scDec at e
  obtain ⟨t, er0, ht⟩ : ∃ t er, copen s = (t, er) := ⟨_, _, rfl⟩
  rw [ht] at e
  have htl := copen_len ht
  by_cases he : er0 = 0
  case neg =>
    rw [if_pos (by simpa using he)] at e
    obtain ⟨rfl, rfl, rfl, rfl, rfl, rfl, rfl, rfl, rfl⟩ := evn_inj (show ((⟨0, [], [], 0, ⟨0, 0, 0, []⟩⟩ : Ev), er0) = _ from e)
    exact scdec_err s hl (Lib.hid ht) he w
  subst he
  rw [if_neg (by simp)] at e
  obtain ⟨⟨k0, u0, o0, id0, ⟨a0, b0, c0, st0⟩⟩, r, hr⟩ : ∃ x r, scTake t = (x, r) := ⟨_, _, rfl⟩
  have hsh := scTake_short hr (by omega)
  rw [hr] at e
  cases r with
  | false =>
    rw [if_neg (by simp)] at e
    obtain ⟨rfl, rfl, rfl, rfl, rfl, rfl, rfl, rfl, rfl⟩ := evn_inj (show ((⟨0, [], [], 0, ⟨0, 0, 0, []⟩⟩ : Ev), 3) = _ from e)
    exact scdec_cut s hl (Lib.hid ht) (by omega) (Lib.hid hr) w
  | true =>
    cases hm : scMay ⟨k0, u0, o0, id0, ⟨a0, b0, c0, st0⟩⟩ with
    | false =>
      rw [if_neg (by simp [hm])] at e
      obtain ⟨rfl, rfl, rfl, rfl, rfl, rfl, rfl, rfl, rfl⟩ := evn_inj (show ((⟨0, [], [], 0, ⟨0, 0, 0, []⟩⟩ : Ev), 3) = _ from e)
      exact scdec_no s hl (Lib.hid ht) (by omega) (Lib.hid hr) hsh (Lib.hid hm) w
    | true =>
      rw [if_pos (by simp [hm])] at e
      obtain ⟨rfl, rfl, rfl, rfl, rfl, rfl, rfl, rfl, rfl⟩ := evn_inj e
      exact scdec_ok s hl (Lib.hid ht) (by omega) (Lib.hid hr) hsh (Lib.hid hm) w

set_option maxHeartbeats 1600000 in
set_option maxRecDepth 100000 in
theorem sctakeone_err (s : List UInt8) (hl : s.length ≤ 4294967296) (p : Nat) {t : List UInt8} {q er : Nat} (HT : Hid (vtake s p s.length = (t, q, er))) (he : er ≠ 0) (w : World) :
    Calls Try.prog 29 #[.string ⟨s.toArray⟩, .int .i64 p] w fun e w' => e = .returned (.tuple #[.agg #[.int .i64 0, .string ⟨#[]⟩, .string ⟨#[]⟩, .int .i64 0, .int .i64 0, .int .i64 0, .int .i64 0, .string ⟨#[]⟩], .int .i64 0, .bool false]) ∧ Below w.heap.size w w' := by
  have HC := Lib.hid (fun w => take_eq s hl p s.length (by omega) w HT)
  have t1 : ((er : Int) != 0) = true := by simp; omega
  have hs1 : (⟨s.toArray⟩ : ByteArray).size = s.length := size_bytes s
  clear he
  have b0 := bl_newZ w (.cells #[.int .i64 0, .string ⟨#[]⟩, .string ⟨#[]⟩, .int .i64 0, .int .i64 0, .int .i64 0, .int .i64 0, .string ⟨#[]⟩] 26)
  have HB := Lib.hid b0
  have R := newQ w (.cells #[.int .i64 0, .string ⟨#[]⟩, .string ⟨#[]⟩, .int .i64 0, .int .i64 0, .int .i64 0, .int .i64 0, .string ⟨#[]⟩] 26)
  replace R := Lib.hid R
  clear b0
  go_enter Try.func29, Try.ntmps29
  go_wp2_with fail
  refine (HC.out _).mono ?_
  rintro e w1 ⟨rfl, rfl⟩
  go_wp2_with fail
  refine bodyPost_ret (v := .tuple #[.agg #[.int .i64 0, .string ⟨#[]⟩, .string ⟨#[]⟩, .int .i64 0, .int .i64 0, .int .i64 0, .int .i64 0, .string ⟨#[]⟩], .int .i64 0, .bool false]) (by simp [results, Try.results29, go_sem]) rfl ⟨rfl, ?_⟩
  exact HB.out

set_option maxHeartbeats 1600000 in
set_option maxRecDepth 100000 in
theorem sctakeone_ok (s : List UInt8) (hl : s.length ≤ 4294967296) (p : Nat) {t : List UInt8} {q : Nat} (HT : Hid (vtake s p s.length = (t, q, 0))) {k id a b c : Int} {u o st : List UInt8} {n : Nat} (HD : Hid (scDec t = (⟨k, u, o, id, ⟨a, b, c, st⟩⟩, n))) {r : Bool} (hr : ((n : Int) == 0) = r) (w : World) :
    Calls Try.prog 29 #[.string ⟨s.toArray⟩, .int .i64 p] w fun e w' => e = .returned (.tuple #[.agg #[.int .i64 k, .string ⟨u.toArray⟩, .string ⟨o.toArray⟩, .int .i64 id, .int .i64 a, .int .i64 b, .int .i64 c, .string ⟨st.toArray⟩], .int .i64 q, .bool r]) ∧ Below w.heap.size w w' := by
  have HC := Lib.hid (fun w => take_eq s hl p s.length (by omega) w HT)
  have htl : t.length ≤ 4294967296 := Nat.le_trans (vtake_len HT.out) hl
  have hs1 : (⟨s.toArray⟩ : ByteArray).size = s.length := size_bytes s
  have HR := Lib.hid hr
  clear hr
  have b0 := bl_newZ w (.cells #[.int .i64 0, .string ⟨#[]⟩, .string ⟨#[]⟩, .int .i64 0, .int .i64 0, .int .i64 0, .int .i64 0, .string ⟨#[]⟩] 26)
  have HB := Lib.hid b0
  have R := newQ w (.cells #[.int .i64 0, .string ⟨#[]⟩, .string ⟨#[]⟩, .int .i64 0, .int .i64 0, .int .i64 0, .int .i64 0, .string ⟨#[]⟩] 26)
  replace R := Lib.hid R
  clear b0
  go_enter Try.func29, Try.ntmps29
  go_wp2_with fail
  refine (HC.out _).mono ?_
  rintro e w1 ⟨rfl, rfl⟩
  go_wp2_with fail
  refine (scdec_any t htl HD _).mono ?_
  rintro e w2 ⟨rfl, b2⟩
  replace R := Lib.hid (upQ R.out b2)
  replace HB := Lib.hid (below2Z HB.out b2)
  clear b2
  have hr := HR.out
  obtain ⟨⟨Rc0, Rc1, Rc2, Rc3, Rc4, Rc5, Rc6, Rc7⟩, ⟨Rf0, Rf1, Rf2, Rf3, Rf4, Rf5, Rf6, Rf7⟩⟩ := blk8 R.out
  have hR := (Array.getElem?_eq_some_iff.1 R.out).1
  go_wp2_with fail
  refine bodyPost_ret (v := .tuple #[.agg #[.int .i64 k, .string ⟨u.toArray⟩, .string ⟨o.toArray⟩, .int .i64 id, .int .i64 a, .int .i64 b, .int .i64 c, .string ⟨st.toArray⟩], .int .i64 q, .bool r]) (by simp [results, Try.results29, go_sem, Rc0, Rc1, Rc2, Rc3, Rc4, Rc5, Rc6, Rc7, World.cell?_alloc_lt, hR]) rfl ⟨rfl, ?_⟩
  exact (((((((((HB.out.setCell (Nat.le_refl _) _).setCell (Nat.le_refl _) _).setCell (Nat.le_refl _) _).setCell (Nat.le_refl _) _).setCell (Nat.le_refl _) _).setCell (Nat.le_refl _) _).setCell (Nat.le_refl _) _).setCell (Nat.le_refl _) _)).alloc (by simp only [setCell_size]; exact HB.out.size) _

end Go.Proofs.Ythfkfonfiejbmaa
