/-
  TEXTS OF THE PROOF, one behind the other: FraRdec.
-/
import Derived.Test.YtohfhphiofobcaaS23
import Derived.Test.YtohfhphiofobcaaS20

/-
  LAYER 6, THE DOCUMENT: Decode.
-/
namespace Go.Proofs.Ytohfhphiofobcaa
open Go.RowKit

theorem ropen_eqF (l : List UInt8) (hl : l.length ≤ 4294967296) {t : List UInt8} {er : Nat} (h : Hid (copen l = (t, er))) (w : World) :
    Calls Try.prog 23 #[.string ⟨l.toArray⟩] w fun e w' => e = .returned (.tuple #[.string ⟨t.toArray⟩, .int .i64 er]) ∧ Below w.heap.size w w' := by
  have := ropen_any l hl w
  rw [h.out] at this
  exact this

set_option maxHeartbeats 1600000 in
set_option maxRecDepth 100000 in
theorem rfrdec_err (s : List UInt8) (hl : s.length ≤ 4294967296) {t : List UInt8} {er : Nat} (HT : Hid (copen s = (t, er))) (he : er ≠ 0) (w : World) :
    Calls Try.prog 19 #[.string ⟨s.toArray⟩] w fun e w' => ∃ v, e = .returned (.tuple #[.agg #[.int .i64 0, .int .i64 0, .bool false, .string ⟨#[]⟩, .int .i64 0, .int .i64 0, .int .i64 0, .string ⟨#[]⟩, .int .u64 0, v], .int .i64 er]) ∧ OwnR w' w.heap.size v [] ∧ Below w.heap.size w w' := by
  have t1 : ((er : Int) != 0) = true := by simp; omega
  clear he
  have b0 := bl_newZ w (.cells #[.int .i64 0, .int .i64 0, .bool false, .string ⟨#[]⟩, .int .i64 0, .int .i64 0, .int .i64 0, .string ⟨#[]⟩, .int .u64 0, .slice none 0 0] 27)
  have HB := Lib.hid b0
  have R := newQ w (.cells #[.int .i64 0, .int .i64 0, .bool false, .string ⟨#[]⟩, .int .i64 0, .int .i64 0, .int .i64 0, .string ⟨#[]⟩, .int .u64 0, .slice none 0 0] 27)
  replace R := Lib.hid R
  clear b0
  go_enter Try.func19, Try.ntmps19
  go_wp2_with fail
  refine (ropen_eqF s hl HT _).mono ?_
  rintro e w2 ⟨rfl, b2⟩
  replace R := Lib.hid (upQ R.out b2)
  replace HB := Lib.hid (below2Z HB.out b2)
  clear b2
  obtain ⟨⟨Rc0, Rc1, Rc2, Rc3, Rc4, Rc5, Rc6, Rc7, Rc8, Rc9⟩, ⟨Rf0, Rf1, Rf2, Rf3, Rf4, Rf5, Rf6, Rf7, Rf8, Rf9⟩⟩ := blk10 R.out
  go_wp2_with fail
  refine bodyPost_ret (v := .tuple #[.agg #[.int .i64 0, .int .i64 0, .bool false, .string ⟨#[]⟩, .int .i64 0, .int .i64 0, .int .i64 0, .string ⟨#[]⟩, .int .u64 0, .slice none 0 0], .int .i64 er]) (by simp [results, Try.results19, go_sem, Rc0, Rc1, Rc2, Rc3, Rc4, Rc5, Rc6, Rc7, Rc8, Rc9]) rfl ⟨_, rfl, ownR_nil _ _, ?_⟩
  exact ((((((((((HB.out.setCell (Nat.le_refl _) _).setCell (Nat.le_refl _) _).setCell (Nat.le_refl _) _).setCell (Nat.le_refl _) _).setCell (Nat.le_refl _) _).setCell (Nat.le_refl _) _).setCell (Nat.le_refl _) _).setCell (Nat.le_refl _) _).setCell (Nat.le_refl _) _).setCell (Nat.le_refl _) _)

set_option maxHeartbeats 1600000 in
set_option maxRecDepth 100000 in
theorem rfrdec_no (s : List UInt8) (hl : s.length ≤ 4294967296) {t : List UInt8} (HT : Hid (copen s = (t, 0))) (htl : t.length ≤ 4294967296) {k q sh pr si : Int} {on : Bool} {c st : List UInt8} {sum : Nat} {tt : List Row} (HE : Hid (frRead t = ⟨k, q, on, c, ⟨sh, pr, si, st⟩, sum, tt⟩)) (HSH : Hid (Short tt)) (hc : c.length ≤ 4294967296) (hst : st.length ≤ 4294967296) (hsum : sum < 18446744073709551616) (HC : Hid (frEnc ⟨k, q, on, c, ⟨sh, pr, si, st⟩, sum, tt⟩ = ([], 1))) (w : World) :
    Calls Try.prog 19 #[.string ⟨s.toArray⟩] w fun e w' => ∃ v, e = .returned (.tuple #[.agg #[.int .i64 0, .int .i64 0, .bool false, .string ⟨#[]⟩, .int .i64 0, .int .i64 0, .int .i64 0, .string ⟨#[]⟩, .int .u64 0, v], .int .i64 3]) ∧ OwnR w' w.heap.size v [] ∧ Below w.heap.size w w' := by
  have b0 := bl_newZ w (.cells #[.int .i64 0, .int .i64 0, .bool false, .string ⟨#[]⟩, .int .i64 0, .int .i64 0, .int .i64 0, .string ⟨#[]⟩, .int .u64 0, .slice none 0 0] 27)
  have HB := Lib.hid b0
  have R := newQ w (.cells #[.int .i64 0, .int .i64 0, .bool false, .string ⟨#[]⟩, .int .i64 0, .int .i64 0, .int .i64 0, .string ⟨#[]⟩, .int .u64 0, .slice none 0 0] 27)
  replace R := Lib.hid R
  clear b0
  go_enter Try.func19, Try.ntmps19
  go_wp2_with fail
  refine (ropen_eqF s hl HT _).mono ?_
  rintro e w2 ⟨rfl, b2⟩
  replace R := Lib.hid (upQ R.out b2)
  replace HB := Lib.hid (below2Z HB.out b2)
  clear b2
  go_wp2_with fail
  have hRl := (Array.getElem?_eq_some_iff.1 R.out).1
  refine (frread_any t htl HE _).mono ?_
  rintro e w3 ⟨v, rfl, hov, b3⟩
  replace R := Lib.hid (upQ R.out b3)
  replace HB := Lib.hid (below2Z HB.out b3)
  obtain ⟨va, vc, rfl, -⟩ := Tab.open' (OwnR.tab hov)
  have V := Lib.hid (OwnR.mono hov (Nat.succ_le_of_lt hRl))
  clear hov hRl
  clear b3
  go_wp2_with fail
  have b4 := bl_newZ w3 (.cells #[.int .i64 k, .int .i64 q, .bool on, .string ⟨c.toArray⟩, .int .i64 sh, .int .i64 pr, .int .i64 si, .string ⟨st.toArray⟩, .int .u64 sum, .slice va tt.length vc] 27)
  have E := newQ w3 (.cells #[.int .i64 k, .int .i64 q, .bool on, .string ⟨c.toArray⟩, .int .i64 sh, .int .i64 pr, .int .i64 si, .string ⟨st.toArray⟩, .int .u64 sum, .slice va tt.length vc] 27)
  have hE : w.heap.size ≤ w3.heap.size := HB.out.size
  replace R := Lib.hid (upQ R.out b4)
  replace V := Lib.hid (OwnR.later V.out b4)
  replace HB := Lib.hid (below2Z HB.out b4)
  clear b4
  replace E := Lib.hid E
  generalize w3.alloc (.cells #[.int .i64 k, .int .i64 q, .bool on, .string ⟨c.toArray⟩, .int .i64 sh, .int .i64 pr, .int .i64 si, .string ⟨st.toArray⟩, .int .u64 sum, .slice va tt.length vc] 27) = w5 at R E V HB ⊢
  generalize w3.heap.size = BE at E hE ⊢
  obtain ⟨⟨Ec0, Ec1, Ec2, Ec3, Ec4, Ec5, Ec6, Ec7, Ec8, Ec9⟩, ⟨Ef0, Ef1, Ef2, Ef3, Ef4, Ef5, Ef6, Ef7, Ef8, Ef9⟩⟩ := blk10 E.out
  go_wp2_with fail
  clear Ec0 Ec1 Ec2 Ec3 Ec4 Ec5 Ec6 Ec7 Ec8 Ec9 Ef0 Ef1 Ef2 Ef3 Ef4 Ef5 Ef6 Ef7 Ef8 Ef9
  refine (rfrenc_any (OwnR.tab V.out) HSH.out hc hst hsum HC).mono ?_
  rintro e w6 ⟨rfl, b6⟩
  replace R := Lib.hid (upQ R.out b6)
  replace E := Lib.hid (upQ E.out b6)
  replace V := Lib.hid (OwnR.later V.out b6)
  replace HB := Lib.hid (below2Z HB.out b6)
  clear b6
  obtain ⟨⟨Rc0, Rc1, Rc2, Rc3, Rc4, Rc5, Rc6, Rc7, Rc8, Rc9⟩, ⟨Rf0, Rf1, Rf2, Rf3, Rf4, Rf5, Rf6, Rf7, Rf8, Rf9⟩⟩ := blk10 R.out
  go_wp2_with fail
  refine bodyPost_ret (v := .tuple #[.agg #[.int .i64 0, .int .i64 0, .bool false, .string ⟨#[]⟩, .int .i64 0, .int .i64 0, .int .i64 0, .string ⟨#[]⟩, .int .u64 0, .slice none 0 0], .int .i64 3]) (by simp [results, Try.results19, go_sem, Rc0, Rc1, Rc2, Rc3, Rc4, Rc5, Rc6, Rc7, Rc8, Rc9]) rfl ⟨_, rfl, ownR_nil _ _, ?_⟩
  exact ((((((((((HB.out.setCell (Nat.le_refl _) _).setCell (Nat.le_refl _) _).setCell (Nat.le_refl _) _).setCell (Nat.le_refl _) _).setCell (Nat.le_refl _) _).setCell (Nat.le_refl _) _).setCell (Nat.le_refl _) _).setCell (Nat.le_refl _) _).setCell (Nat.le_refl _) _).setCell (Nat.le_refl _) _)

set_option maxHeartbeats 1600000 in
set_option maxRecDepth 100000 in
theorem rfrdec_dif (s : List UInt8) (hl : s.length ≤ 4294967296) {t : List UInt8} (HT : Hid (copen s = (t, 0))) (htl : t.length ≤ 4294967296) {k q sh pr si : Int} {on : Bool} {c st : List UInt8} {sum : Nat} {tt : List Row} (HE : Hid (frRead t = ⟨k, q, on, c, ⟨sh, pr, si, st⟩, sum, tt⟩)) (HSH : Hid (Short tt)) (hc : c.length ≤ 4294967296) (hst : st.length ≤ 4294967296) (hsum : sum < 18446744073709551616) {p : List UInt8} (HC : Hid (frEnc ⟨k, q, on, c, ⟨sh, pr, si, st⟩, sum, tt⟩ = (p, 0))) (T1 : Hid ((p == s) = false)) (w : World) :
    Calls Try.prog 19 #[.string ⟨s.toArray⟩] w fun e w' => ∃ v, e = .returned (.tuple #[.agg #[.int .i64 0, .int .i64 0, .bool false, .string ⟨#[]⟩, .int .i64 0, .int .i64 0, .int .i64 0, .string ⟨#[]⟩, .int .u64 0, v], .int .i64 3]) ∧ OwnR w' w.heap.size v [] ∧ Below w.heap.size w w' := by
  have b0 := bl_newZ w (.cells #[.int .i64 0, .int .i64 0, .bool false, .string ⟨#[]⟩, .int .i64 0, .int .i64 0, .int .i64 0, .string ⟨#[]⟩, .int .u64 0, .slice none 0 0] 27)
  have HB := Lib.hid b0
  have R := newQ w (.cells #[.int .i64 0, .int .i64 0, .bool false, .string ⟨#[]⟩, .int .i64 0, .int .i64 0, .int .i64 0, .string ⟨#[]⟩, .int .u64 0, .slice none 0 0] 27)
  replace R := Lib.hid R
  clear b0
  go_enter Try.func19, Try.ntmps19
  go_wp2_with fail
  refine (ropen_eqF s hl HT _).mono ?_
  rintro e w2 ⟨rfl, b2⟩
  replace R := Lib.hid (upQ R.out b2)
  replace HB := Lib.hid (below2Z HB.out b2)
  clear b2
  go_wp2_with fail
  have hRl := (Array.getElem?_eq_some_iff.1 R.out).1
  refine (frread_any t htl HE _).mono ?_
  rintro e w3 ⟨v, rfl, hov, b3⟩
  replace R := Lib.hid (upQ R.out b3)
  replace HB := Lib.hid (below2Z HB.out b3)
  obtain ⟨va, vc, rfl, -⟩ := Tab.open' (OwnR.tab hov)
  have V := Lib.hid (OwnR.mono hov (Nat.succ_le_of_lt hRl))
  clear hov hRl
  clear b3
  go_wp2_with fail
  have b4 := bl_newZ w3 (.cells #[.int .i64 k, .int .i64 q, .bool on, .string ⟨c.toArray⟩, .int .i64 sh, .int .i64 pr, .int .i64 si, .string ⟨st.toArray⟩, .int .u64 sum, .slice va tt.length vc] 27)
  have E := newQ w3 (.cells #[.int .i64 k, .int .i64 q, .bool on, .string ⟨c.toArray⟩, .int .i64 sh, .int .i64 pr, .int .i64 si, .string ⟨st.toArray⟩, .int .u64 sum, .slice va tt.length vc] 27)
  have hE : w.heap.size ≤ w3.heap.size := HB.out.size
  replace R := Lib.hid (upQ R.out b4)
  replace V := Lib.hid (OwnR.later V.out b4)
  replace HB := Lib.hid (below2Z HB.out b4)
  clear b4
  replace E := Lib.hid E
  generalize w3.alloc (.cells #[.int .i64 k, .int .i64 q, .bool on, .string ⟨c.toArray⟩, .int .i64 sh, .int .i64 pr, .int .i64 si, .string ⟨st.toArray⟩, .int .u64 sum, .slice va tt.length vc] 27) = w5 at R E V HB ⊢
  generalize w3.heap.size = BE at E hE ⊢
  obtain ⟨⟨Ec0, Ec1, Ec2, Ec3, Ec4, Ec5, Ec6, Ec7, Ec8, Ec9⟩, ⟨Ef0, Ef1, Ef2, Ef3, Ef4, Ef5, Ef6, Ef7, Ef8, Ef9⟩⟩ := blk10 E.out
  go_wp2_with fail
  clear Ec0 Ec1 Ec2 Ec3 Ec4 Ec5 Ec6 Ec7 Ec8 Ec9 Ef0 Ef1 Ef2 Ef3 Ef4 Ef5 Ef6 Ef7 Ef8 Ef9
  refine (rfrenc_any (OwnR.tab V.out) HSH.out hc hst hsum HC).mono ?_
  rintro e w6 ⟨rfl, b6⟩
  replace R := Lib.hid (upQ R.out b6)
  replace E := Lib.hid (upQ E.out b6)
  replace V := Lib.hid (OwnR.later V.out b6)
  replace HB := Lib.hid (below2Z HB.out b6)
  clear b6
  obtain ⟨⟨Rc0, Rc1, Rc2, Rc3, Rc4, Rc5, Rc6, Rc7, Rc8, Rc9⟩, ⟨Rf0, Rf1, Rf2, Rf3, Rf4, Rf5, Rf6, Rf7, Rf8, Rf9⟩⟩ := blk10 R.out
  have t1 := T1.out
  go_wp2_with fail
  refine bodyPost_ret (v := .tuple #[.agg #[.int .i64 0, .int .i64 0, .bool false, .string ⟨#[]⟩, .int .i64 0, .int .i64 0, .int .i64 0, .string ⟨#[]⟩, .int .u64 0, .slice none 0 0], .int .i64 3]) (by simp [results, Try.results19, go_sem, Rc0, Rc1, Rc2, Rc3, Rc4, Rc5, Rc6, Rc7, Rc8, Rc9]) rfl ⟨_, rfl, ownR_nil _ _, ?_⟩
  exact ((((((((((HB.out.setCell (Nat.le_refl _) _).setCell (Nat.le_refl _) _).setCell (Nat.le_refl _) _).setCell (Nat.le_refl _) _).setCell (Nat.le_refl _) _).setCell (Nat.le_refl _) _).setCell (Nat.le_refl _) _).setCell (Nat.le_refl _) _).setCell (Nat.le_refl _) _).setCell (Nat.le_refl _) _)

set_option maxHeartbeats 1600000 in
set_option maxRecDepth 100000 in
theorem rfrdec_ok (s : List UInt8) (hl : s.length ≤ 4294967296) {t : List UInt8} (HT : Hid (copen s = (t, 0))) (htl : t.length ≤ 4294967296) {k q sh pr si : Int} {on : Bool} {c st : List UInt8} {sum : Nat} {tt : List Row} (HE : Hid (frRead t = ⟨k, q, on, c, ⟨sh, pr, si, st⟩, sum, tt⟩)) (HSH : Hid (Short tt)) (hc : c.length ≤ 4294967296) (hst : st.length ≤ 4294967296) (hsum : sum < 18446744073709551616) (HC : Hid (frEnc ⟨k, q, on, c, ⟨sh, pr, si, st⟩, sum, tt⟩ = (s, 0))) (w : World) :
    Calls Try.prog 19 #[.string ⟨s.toArray⟩] w fun e w' => ∃ v, e = .returned (.tuple #[.agg #[.int .i64 k, .int .i64 q, .bool on, .string ⟨c.toArray⟩, .int .i64 sh, .int .i64 pr, .int .i64 si, .string ⟨st.toArray⟩, .int .u64 sum, v], .int .i64 0]) ∧ OwnR w' w.heap.size v tt ∧ Below w.heap.size w w' := by
  have b0 := bl_newZ w (.cells #[.int .i64 0, .int .i64 0, .bool false, .string ⟨#[]⟩, .int .i64 0, .int .i64 0, .int .i64 0, .string ⟨#[]⟩, .int .u64 0, .slice none 0 0] 27)
  have HB := Lib.hid b0
  have R := newQ w (.cells #[.int .i64 0, .int .i64 0, .bool false, .string ⟨#[]⟩, .int .i64 0, .int .i64 0, .int .i64 0, .string ⟨#[]⟩, .int .u64 0, .slice none 0 0] 27)
  replace R := Lib.hid R
  clear b0
  go_enter Try.func19, Try.ntmps19
  go_wp2_with fail
  refine (ropen_eqF s hl HT _).mono ?_
  rintro e w2 ⟨rfl, b2⟩
  replace R := Lib.hid (upQ R.out b2)
  replace HB := Lib.hid (below2Z HB.out b2)
  clear b2
  go_wp2_with fail
  have hRl := (Array.getElem?_eq_some_iff.1 R.out).1
  refine (frread_any t htl HE _).mono ?_
  rintro e w3 ⟨v, rfl, hov, b3⟩
  replace R := Lib.hid (upQ R.out b3)
  replace HB := Lib.hid (below2Z HB.out b3)
  obtain ⟨va, vc, rfl, -⟩ := Tab.open' (OwnR.tab hov)
  have V := Lib.hid (OwnR.mono hov (Nat.succ_le_of_lt hRl))
  clear hov hRl
  clear b3
  go_wp2_with fail
  have b4 := bl_newZ w3 (.cells #[.int .i64 k, .int .i64 q, .bool on, .string ⟨c.toArray⟩, .int .i64 sh, .int .i64 pr, .int .i64 si, .string ⟨st.toArray⟩, .int .u64 sum, .slice va tt.length vc] 27)
  have E := newQ w3 (.cells #[.int .i64 k, .int .i64 q, .bool on, .string ⟨c.toArray⟩, .int .i64 sh, .int .i64 pr, .int .i64 si, .string ⟨st.toArray⟩, .int .u64 sum, .slice va tt.length vc] 27)
  have hE : w.heap.size ≤ w3.heap.size := HB.out.size
  replace R := Lib.hid (upQ R.out b4)
  replace V := Lib.hid (OwnR.later V.out b4)
  replace HB := Lib.hid (below2Z HB.out b4)
  clear b4
  replace E := Lib.hid E
  generalize w3.alloc (.cells #[.int .i64 k, .int .i64 q, .bool on, .string ⟨c.toArray⟩, .int .i64 sh, .int .i64 pr, .int .i64 si, .string ⟨st.toArray⟩, .int .u64 sum, .slice va tt.length vc] 27) = w5 at R E V HB ⊢
  generalize w3.heap.size = BE at E hE ⊢
  obtain ⟨⟨Ec0, Ec1, Ec2, Ec3, Ec4, Ec5, Ec6, Ec7, Ec8, Ec9⟩, ⟨Ef0, Ef1, Ef2, Ef3, Ef4, Ef5, Ef6, Ef7, Ef8, Ef9⟩⟩ := blk10 E.out
  go_wp2_with fail
  clear Ec0 Ec1 Ec2 Ec3 Ec4 Ec5 Ec6 Ec7 Ec8 Ec9 Ef0 Ef1 Ef2 Ef3 Ef4 Ef5 Ef6 Ef7 Ef8 Ef9
  refine (rfrenc_any (OwnR.tab V.out) HSH.out hc hst hsum HC).mono ?_
  rintro e w6 ⟨rfl, b6⟩
  replace R := Lib.hid (upQ R.out b6)
  replace E := Lib.hid (upQ E.out b6)
  replace V := Lib.hid (OwnR.later V.out b6)
  replace HB := Lib.hid (below2Z HB.out b6)
  clear b6
  obtain ⟨⟨Rc0, Rc1, Rc2, Rc3, Rc4, Rc5, Rc6, Rc7, Rc8, Rc9⟩, ⟨Rf0, Rf1, Rf2, Rf3, Rf4, Rf5, Rf6, Rf7, Rf8, Rf9⟩⟩ := blk10 R.out
  obtain ⟨⟨Ec0, Ec1, Ec2, Ec3, Ec4, Ec5, Ec6, Ec7, Ec8, Ec9⟩, ⟨Ef0, Ef1, Ef2, Ef3, Ef4, Ef5, Ef6, Ef7, Ef8, Ef9⟩⟩ := blk10 E.out
  go_wp2_with fail
  refine bodyPost_ret (v := .tuple #[.agg #[.int .i64 k, .int .i64 q, .bool on, .string ⟨c.toArray⟩, .int .i64 sh, .int .i64 pr, .int .i64 si, .string ⟨st.toArray⟩, .int .u64 sum, .slice va tt.length vc], .int .i64 0]) (by simp [results, Try.results19, go_sem, Rc0, Rc1, Rc2, Rc3, Rc4, Rc5, Rc6, Rc7, Rc8, Rc9]) rfl ⟨_, rfl, OwnR.mono ((((((((((V.out.setCell (Nat.lt_succ_self _) _).setCell (Nat.lt_succ_self _) _).setCell (Nat.lt_succ_self _) _).setCell (Nat.lt_succ_self _) _).setCell (Nat.lt_succ_self _) _).setCell (Nat.lt_succ_self _) _).setCell (Nat.lt_succ_self _) _).setCell (Nat.lt_succ_self _) _).setCell (Nat.lt_succ_self _) _).setCell (Nat.lt_succ_self _) _) (Nat.le_succ _), ?_⟩
  exact ((((((((((HB.out.setCell (Nat.le_refl _) _).setCell (Nat.le_refl _) _).setCell (Nat.le_refl _) _).setCell (Nat.le_refl _) _).setCell (Nat.le_refl _) _).setCell (Nat.le_refl _) _).setCell (Nat.le_refl _) _).setCell (Nat.le_refl _) _).setCell (Nat.le_refl _) _).setCell (Nat.le_refl _) _)

/-- P6.3, the document's Decode. -/
theorem rfrdec_any (s : List UInt8) (hl : s.length ≤ 4294967296) {k q sh pr si : Int} {on : Bool} {c st : List UInt8} {sum : Nat} {tt : List Row} {er : Nat} (h : Hid (frDec s = (⟨k, q, on, c, ⟨sh, pr, si, st⟩, sum, tt⟩, er))) (w : World) :
    Calls Try.prog 19 #[.string ⟨s.toArray⟩] w fun e w' => ∃ v, e = .returned (.tuple #[.agg #[.int .i64 k, .int .i64 q, .bool on, .string ⟨c.toArray⟩, .int .i64 sh, .int .i64 pr, .int .i64 si, .string ⟨st.toArray⟩, .int .u64 sum, v], .int .i64 er]) ∧ OwnR w' w.heap.size v tt ∧ Below w.heap.size w w' := by
  have e := h.out
  rw [frDec_doc] at e
  unfold frDoc at e
  obtain ⟨t, er0, ht⟩ : ∃ t er, copen s = (t, er) := ⟨_, _, rfl⟩
  have htl := copen_lenF ht
  rw [ht] at e
  by_cases he : er0 = 0
  case neg =>
    rw [if_pos (by simpa using he)] at e
    simp only [Frm.zero, Val.zero, Prod.mk.injEq, Frm.mk.injEq, Val.mk.injEq] at e
    obtain ⟨⟨rfl, rfl, rfl, rfl, ⟨rfl, rfl, rfl, rfl⟩, rfl, rfl⟩, rfl⟩ := e
    exact rfrdec_err s hl (Lib.hid ht) he w
  subst he
  rw [if_neg (by simp)] at e
  have hs := frRead_short t (by omega)
  obtain ⟨⟨k1, q1, on1, c1, ⟨sh1, pr1, si1, st1⟩, sum1, t1⟩, hr⟩ : ∃ f, frRead t = f := ⟨_, rfl⟩
  simp only [hr] at e
  rw [hr] at hs
  obtain ⟨s1, s2, s3, s4⟩ := hs
  simp only at s1 s2 s3 s4
  cases hm : frMay ⟨k1, q1, on1, c1, ⟨sh1, pr1, si1, st1⟩, sum1, t1⟩ with
  | false =>
    rw [if_neg (by simp [hm])] at e
    simp only [Frm.zero, Val.zero, Prod.mk.injEq, Frm.mk.injEq, Val.mk.injEq] at e
    obtain ⟨⟨rfl, rfl, rfl, rfl, ⟨rfl, rfl, rfl, rfl⟩, rfl, rfl⟩, rfl⟩ := e
    exact rfrdec_no s hl (Lib.hid ht) (by omega) (Lib.hid hr) (Lib.hid s3) s1 s2 s4 (Lib.hid (by unfold frEnc; rw [if_neg (by simp [hm])])) w
  | true =>
    by_cases hp : cseal (frPlain ⟨k1, q1, on1, c1, ⟨sh1, pr1, si1, st1⟩, sum1, t1⟩) = s
    · rw [if_pos ⟨hm, hp⟩] at e
      simp only [Prod.mk.injEq, Frm.mk.injEq, Val.mk.injEq] at e
      obtain ⟨⟨rfl, rfl, rfl, rfl, ⟨rfl, rfl, rfl, rfl⟩, rfl, rfl⟩, rfl⟩ := e
      exact rfrdec_ok s hl (Lib.hid ht) (by omega) (Lib.hid hr) (Lib.hid s3) s1 s2 s4 (Lib.hid (by unfold frEnc; rw [if_pos hm, hp])) w
    · rw [if_neg (fun h => hp h.2)] at e
      simp only [Frm.zero, Val.zero, Prod.mk.injEq, Frm.mk.injEq, Val.mk.injEq] at e
      obtain ⟨⟨rfl, rfl, rfl, rfl, ⟨rfl, rfl, rfl, rfl⟩, rfl, rfl⟩, rfl⟩ := e
      exact rfrdec_dif s hl (Lib.hid ht) (by omega) (Lib.hid hr) (Lib.hid s3) s1 s2 s4 (Lib.hid (by unfold frEnc; rw [if_pos hm])) (Lib.hid (by rw [beq_eq_false_iff_ne]; exact hp)) w

end Go.Proofs.Ytohfhphiofobcaa
