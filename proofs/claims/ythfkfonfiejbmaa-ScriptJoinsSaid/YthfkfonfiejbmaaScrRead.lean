/-
  LAYER 23, THE CODE: readPart, takePart.
-/
import Derived.Test.YthfkfonfiejbmaaScrPut
import Derived.Test.YthfkfonfiejbmaaValTake
import Derived.Test.YthfkfonfiejbmaaBlk
namespace Go.Proofs.Ythfkfonfiejbmaa
open Go.RowKit

theorem getD_byte (l : List UInt8) (p : Nat) (hp : p < l.length) (h : p < (⟨l.toArray⟩ : ByteArray).size) : (⟨l.toArray⟩ : ByteArray)[p]'h = l.getD p 0 := by
  rw [List.getD_eq_getElem?_getD, List.getElem?_eq_getElem hp]
  rfl

set_option maxHeartbeats 1600000 in
set_option maxRecDepth 100000 in
theorem rp1_yes (l : List UInt8) (hl : l.length ≤ 4294967296) (p : Int) {t : List UInt8} {q : Nat} (HT : Hid (idTake l p = (t, q, 0))) (w : World) :
    Calls Try.prog 67 #[.int .i64 1, .string ⟨l.toArray⟩, .int .i64 p] w fun e w' => e = .returned (.tuple #[.iface 9 (.string ⟨t.toArray⟩), .int .i64 q]) ∧ Below w.heap.size w w' := by
  go_enter Try.func67, Try.ntmps67
  go_wp2_with fail
  refine (idtake_eq l hl p HT _).mono ?_
  rintro e w1 ⟨rfl, b1⟩
  go_wp2_with fail
  go_ret2
  exact ⟨rfl, b1⟩

set_option maxHeartbeats 1600000 in
set_option maxRecDepth 100000 in
theorem rp1_no (l : List UInt8) (hl : l.length ≤ 4294967296) (p : Int) {t : List UInt8} {q er : Nat} (HT : Hid (idTake l p = (t, q, er))) (he : er ≠ 0) (w : World) :
    Calls Try.prog 67 #[.int .i64 1, .string ⟨l.toArray⟩, .int .i64 p] w fun e w' => e = .returned (.tuple #[.nilIface, .int .i64 0]) ∧ Below w.heap.size w w' := by
  have t1 : ((er : Int) == 0) = false := by simp; omega
  clear he
  go_enter Try.func67, Try.ntmps67
  go_wp2_with fail
  refine (idtake_eq l hl p HT _).mono ?_
  rintro e w1 ⟨rfl, b1⟩
  go_wp2_with fail
  go_ret2
  exact ⟨rfl, b1⟩

set_option maxHeartbeats 1600000 in
set_option maxRecDepth 100000 in
theorem rp2_yes (l : List UInt8) (hl : l.length ≤ 4294967296) (p : Nat) (hp : p < l.length) {x : UInt8} (hx : l.getD p 0 = x) (w : World) :
    Calls Try.prog 67 #[.int .i64 2, .string ⟨l.toArray⟩, .int .i64 p] w fun e w' => e = .returned (.tuple #[.iface 3 (.int .i64 x.toNat), .int .i64 ((p + 1 : Nat) : Int)]) ∧ Below w.heap.size w w' := by
  have hq : p < (⟨l.toArray⟩ : ByteArray).size := by rw [size_bytes]; exact hp
  have hb := getD_byte l p hp hq
  rw [hx] at hb
  have hx256 := x.toNat_lt
  clear hx
  have hs1 : (⟨l.toArray⟩ : ByteArray).size = l.length := size_bytes l
  go_enter Try.func67, Try.ntmps67
  go_wp2_with fail
  go_ret2
  exact ⟨by simp, Below.refl _ _⟩

set_option maxHeartbeats 1600000 in
set_option maxRecDepth 100000 in
theorem rp2_no (l : List UInt8) (_hl : l.length ≤ 4294967296) (p : Nat) (hp : l.length ≤ p) (w : World) :
    Calls Try.prog 67 #[.int .i64 2, .string ⟨l.toArray⟩, .int .i64 p] w fun e w' => e = .returned (.tuple #[.nilIface, .int .i64 0]) ∧ Below w.heap.size w w' := by
  have hs1 : (⟨l.toArray⟩ : ByteArray).size = l.length := size_bytes l
  have t1 : decide ((p : Int) < (l.length : Int)) = false := by rw [decide_eq_false_iff_not]; omega
  have t2 : decide (p < l.length) = false := by rw [decide_eq_false_iff_not]; omega
  go_enter Try.func67, Try.ntmps67
  go_wp2_with fail
  go_ret2
  exact ⟨rfl, Below.refl _ _⟩

set_option maxHeartbeats 1600000 in
set_option maxRecDepth 100000 in
theorem rp4_yes (l : List UInt8) (hl : l.length ≤ 4294967296) (p : Int) {a b c : Int} {t : List UInt8} {q : Nat} (HT : Hid (vaTake l p = (⟨a, b, c, t⟩, q, 0))) (w : World) :
    Calls Try.prog 67 #[.int .i64 4, .string ⟨l.toArray⟩, .int .i64 p] w fun e w' => e = .returned (.tuple #[.iface 24 (.agg #[.int .i64 a, .int .i64 b, .int .i64 c, .string ⟨t.toArray⟩]), .int .i64 q]) ∧ Below w.heap.size w w' := by
  go_enter Try.func67, Try.ntmps67
  go_wp2_with fail
  refine (vatake_eq l hl p HT _).mono ?_
  rintro e w1 ⟨rfl, b1⟩
  go_wp2_with fail
  go_ret2
  exact ⟨rfl, b1.trans ((Below.refl _ _).alloc b1.size _)⟩

set_option maxHeartbeats 1600000 in
set_option maxRecDepth 100000 in
theorem rp4_no (l : List UInt8) (hl : l.length ≤ 4294967296) (p : Int) {a b c : Int} {t : List UInt8} {q er : Nat} (HT : Hid (vaTake l p = (⟨a, b, c, t⟩, q, er))) (he : er ≠ 0) (w : World) :
    Calls Try.prog 67 #[.int .i64 4, .string ⟨l.toArray⟩, .int .i64 p] w fun e w' => e = .returned (.tuple #[.nilIface, .int .i64 0]) ∧ Below w.heap.size w w' := by
  have t1 : ((er : Int) == 0) = false := by simp; omega
  clear he
  go_enter Try.func67, Try.ntmps67
  go_wp2_with fail
  refine (vatake_eq l hl p HT _).mono ?_
  rintro e w1 ⟨rfl, b1⟩
  go_wp2_with fail
  go_ret2
  exact ⟨rfl, b1.trans ((Below.refl _ _).alloc b1.size _)⟩

/-- What a type switch asks of what was read. -/
theorem ta_same (T : TypeId) (v : Value) (hT : T = 9 ∨ T = 3 ∨ T = 24) (w : World) : (Instr.typeAssert (.iface T v) 20 T true).run Try.prog w = .ok (.tuple #[v, .bool true]) w := by
  rcases hT with rfl | rfl | rfl <;> kernel_rfl

theorem ta_is (v : Value) (w : World) : (Instr.typeAssert (.iface 3 v) 20 9 true).run Try.prog w = .ok (.tuple #[.string ⟨#[]⟩, .bool false]) w := by kernel_rfl

theorem ta_vs (v : Value) (w : World) : (Instr.typeAssert (.iface 24 v) 20 9 true).run Try.prog w = .ok (.tuple #[.string ⟨#[]⟩, .bool false]) w := by kernel_rfl

theorem ta_ns (w : World) : (Instr.typeAssert .nilIface 20 9 true).run Try.prog w = .ok (.tuple #[.string ⟨#[]⟩, .bool false]) w := by kernel_rfl

theorem ta_si (v : Value) (w : World) : (Instr.typeAssert (.iface 9 v) 20 3 true).run Try.prog w = .ok (.tuple #[.int .i64 0, .bool false]) w := by kernel_rfl

theorem ta_vi (v : Value) (w : World) : (Instr.typeAssert (.iface 24 v) 20 3 true).run Try.prog w = .ok (.tuple #[.int .i64 0, .bool false]) w := by kernel_rfl

theorem ta_ni (w : World) : (Instr.typeAssert .nilIface 20 3 true).run Try.prog w = .ok (.tuple #[.int .i64 0, .bool false]) w := by kernel_rfl

theorem ta_sv (v : Value) (w : World) : (Instr.typeAssert (.iface 9 v) 20 24 true).run Try.prog w = .ok (.tuple #[.agg #[.int .i64 0, .int .i64 0, .int .i64 0, .string ⟨#[]⟩], .bool false]) w := by kernel_rfl

theorem ta_iv (v : Value) (w : World) : (Instr.typeAssert (.iface 3 v) 20 24 true).run Try.prog w = .ok (.tuple #[.agg #[.int .i64 0, .int .i64 0, .int .i64 0, .string ⟨#[]⟩], .bool false]) w := by kernel_rfl

theorem ta_nv (w : World) : (Instr.typeAssert .nilIface 20 24 true).run Try.prog w = .ok (.tuple #[.agg #[.int .i64 0, .int .i64 0, .int .i64 0, .string ⟨#[]⟩], .bool false]) w := by kernel_rfl

set_option maxHeartbeats 1600000 in
set_option maxRecDepth 100000 in
theorem tp1_yes (k : Int) (u o st : List UInt8) (id a b c : Int) (l : List UInt8) (hl : l.length ≤ 4294967296) (p : Int) {t : List UInt8} {q : Nat} (HT : Hid (idTake l p = (t, q, 0))) (w : World) :
    Calls Try.prog 48 #[.agg #[.int .i64 k, .string ⟨u.toArray⟩, .string ⟨o.toArray⟩, .int .i64 id, .int .i64 a, .int .i64 b, .int .i64 c, .string ⟨st.toArray⟩], .int .i64 1, .string ⟨l.toArray⟩, .int .i64 p] w fun e w' => e = .returned (.tuple #[.agg #[.int .i64 k, .string ⟨u.toArray⟩, .string ⟨t.toArray⟩, .int .i64 id, .int .i64 a, .int .i64 b, .int .i64 c, .string ⟨st.toArray⟩], .int .i64 q, .bool true]) ∧ Below w.heap.size w w' := by
  have ta1 := fun v w => ta_same 9 v (by simp) w
  have b0 := bl_newZ w (.cells #[.int .i64 k, .string ⟨u.toArray⟩, .string ⟨o.toArray⟩, .int .i64 id, .int .i64 a, .int .i64 b, .int .i64 c, .string ⟨st.toArray⟩] 26)
  have b1 := bl_newZ (w.alloc (.cells #[.int .i64 k, .string ⟨u.toArray⟩, .string ⟨o.toArray⟩, .int .i64 id, .int .i64 a, .int .i64 b, .int .i64 c, .string ⟨st.toArray⟩] 26)) (.cells #[.int .i64 0, .string ⟨#[]⟩, .string ⟨#[]⟩, .int .i64 0, .int .i64 0, .int .i64 0, .int .i64 0, .string ⟨#[]⟩] 26)
  have HB := Lib.hid (below2Z b0 b1)
  have E := newQ w (.cells #[.int .i64 k, .string ⟨u.toArray⟩, .string ⟨o.toArray⟩, .int .i64 id, .int .i64 a, .int .i64 b, .int .i64 c, .string ⟨st.toArray⟩] 26)
  replace E := upQ E b1
  replace E := Lib.hid E
  have R := newQ (w.alloc (.cells #[.int .i64 k, .string ⟨u.toArray⟩, .string ⟨o.toArray⟩, .int .i64 id, .int .i64 a, .int .i64 b, .int .i64 c, .string ⟨st.toArray⟩] 26)) (.cells #[.int .i64 0, .string ⟨#[]⟩, .string ⟨#[]⟩, .int .i64 0, .int .i64 0, .int .i64 0, .int .i64 0, .string ⟨#[]⟩] 26)
  rw [World.size_alloc] at R
  replace R := Lib.hid R
  clear b0 b1
  go_enter Try.func48, Try.ntmps48
  go_wp2_with fail
  refine (rp1_yes l hl p HT _).mono ?_
  rintro e w3 ⟨rfl, b3⟩
  replace E := Lib.hid (upQ E.out b3)
  replace R := Lib.hid (upQ R.out b3)
  replace HB := Lib.hid (below2Z HB.out b3)
  clear b3
  obtain ⟨⟨Ec0, Ec1, Ec2, Ec3, Ec4, Ec5, Ec6, Ec7⟩, ⟨Ef0, Ef1, Ef2, Ef3, Ef4, Ef5, Ef6, Ef7⟩⟩ := blk8 E.out
  obtain ⟨⟨Rc0, Rc1, Rc2, Rc3, Rc4, Rc5, Rc6, Rc7⟩, ⟨Rf0, Rf1, Rf2, Rf3, Rf4, Rf5, Rf6, Rf7⟩⟩ := blk8 R.out
  have hE := (Array.getElem?_eq_some_iff.1 E.out).1
  have hR := (Array.getElem?_eq_some_iff.1 R.out).1
  go_wp2_with fail
  refine bodyPost_ret (v := .tuple #[.agg #[.int .i64 k, .string ⟨u.toArray⟩, .string ⟨t.toArray⟩, .int .i64 id, .int .i64 a, .int .i64 b, .int .i64 c, .string ⟨st.toArray⟩], .int .i64 q, .bool true]) (by simp [results, Try.results48, go_sem, Rc0, Rc1, Rc2, Rc3, Rc4, Rc5, Rc6, Rc7]) rfl ⟨rfl, ?_⟩
  exact (((((((((HB.out.setCell (Nat.le_refl _) _).setCell (Nat.le_succ _) _).setCell (Nat.le_succ _) _).setCell (Nat.le_succ _) _).setCell (Nat.le_succ _) _).setCell (Nat.le_succ _) _).setCell (Nat.le_succ _) _).setCell (Nat.le_succ _) _).setCell (Nat.le_succ _) _)

set_option maxHeartbeats 1600000 in
set_option maxRecDepth 100000 in
theorem tp1_no (k : Int) (u o st : List UInt8) (id a b c : Int) (l : List UInt8) (hl : l.length ≤ 4294967296) (p : Int) {t : List UInt8} {q er : Nat} (HT : Hid (idTake l p = (t, q, er))) (he : er ≠ 0) (w : World) :
    Calls Try.prog 48 #[.agg #[.int .i64 k, .string ⟨u.toArray⟩, .string ⟨o.toArray⟩, .int .i64 id, .int .i64 a, .int .i64 b, .int .i64 c, .string ⟨st.toArray⟩], .int .i64 1, .string ⟨l.toArray⟩, .int .i64 p] w fun e w' => e = .returned (.tuple #[.agg #[.int .i64 0, .string ⟨#[]⟩, .string ⟨#[]⟩, .int .i64 0, .int .i64 0, .int .i64 0, .int .i64 0, .string ⟨#[]⟩], .int .i64 0, .bool false]) ∧ Below w.heap.size w w' := by
  have ta1 := ta_ns
  have ta2 := ta_ni
  have ta3 := ta_nv
  have b0 := bl_newZ w (.cells #[.int .i64 k, .string ⟨u.toArray⟩, .string ⟨o.toArray⟩, .int .i64 id, .int .i64 a, .int .i64 b, .int .i64 c, .string ⟨st.toArray⟩] 26)
  have b1 := bl_newZ (w.alloc (.cells #[.int .i64 k, .string ⟨u.toArray⟩, .string ⟨o.toArray⟩, .int .i64 id, .int .i64 a, .int .i64 b, .int .i64 c, .string ⟨st.toArray⟩] 26)) (.cells #[.int .i64 0, .string ⟨#[]⟩, .string ⟨#[]⟩, .int .i64 0, .int .i64 0, .int .i64 0, .int .i64 0, .string ⟨#[]⟩] 26)
  have HB := Lib.hid (below2Z b0 b1)
  have E := newQ w (.cells #[.int .i64 k, .string ⟨u.toArray⟩, .string ⟨o.toArray⟩, .int .i64 id, .int .i64 a, .int .i64 b, .int .i64 c, .string ⟨st.toArray⟩] 26)
  replace E := upQ E b1
  replace E := Lib.hid E
  have R := newQ (w.alloc (.cells #[.int .i64 k, .string ⟨u.toArray⟩, .string ⟨o.toArray⟩, .int .i64 id, .int .i64 a, .int .i64 b, .int .i64 c, .string ⟨st.toArray⟩] 26)) (.cells #[.int .i64 0, .string ⟨#[]⟩, .string ⟨#[]⟩, .int .i64 0, .int .i64 0, .int .i64 0, .int .i64 0, .string ⟨#[]⟩] 26)
  rw [World.size_alloc] at R
  replace R := Lib.hid R
  clear b0 b1
  go_enter Try.func48, Try.ntmps48
  go_wp2_with fail
  refine (rp1_no l hl p HT he _).mono ?_
  rintro e w3 ⟨rfl, b3⟩
  replace E := Lib.hid (upQ E.out b3)
  replace R := Lib.hid (upQ R.out b3)
  replace HB := Lib.hid (below2Z HB.out b3)
  clear b3
  obtain ⟨⟨Ec0, Ec1, Ec2, Ec3, Ec4, Ec5, Ec6, Ec7⟩, ⟨Ef0, Ef1, Ef2, Ef3, Ef4, Ef5, Ef6, Ef7⟩⟩ := blk8 E.out
  obtain ⟨⟨Rc0, Rc1, Rc2, Rc3, Rc4, Rc5, Rc6, Rc7⟩, ⟨Rf0, Rf1, Rf2, Rf3, Rf4, Rf5, Rf6, Rf7⟩⟩ := blk8 R.out
  have hE := (Array.getElem?_eq_some_iff.1 E.out).1
  have hR := (Array.getElem?_eq_some_iff.1 R.out).1
  go_wp2_with fail
  refine bodyPost_ret (v := .tuple #[.agg #[.int .i64 0, .string ⟨#[]⟩, .string ⟨#[]⟩, .int .i64 0, .int .i64 0, .int .i64 0, .int .i64 0, .string ⟨#[]⟩], .int .i64 0, .bool false]) (by simp [results, Try.results48, go_sem, Rc0, Rc1, Rc2, Rc3, Rc4, Rc5, Rc6, Rc7]) rfl ⟨rfl, ?_⟩
  exact ((((((((HB.out.setCell (Nat.le_succ _) _).setCell (Nat.le_succ _) _).setCell (Nat.le_succ _) _).setCell (Nat.le_succ _) _).setCell (Nat.le_succ _) _).setCell (Nat.le_succ _) _).setCell (Nat.le_succ _) _).setCell (Nat.le_succ _) _)

set_option maxHeartbeats 1600000 in
set_option maxRecDepth 100000 in
theorem tp2_yes (k : Int) (u o st : List UInt8) (id a b c : Int) (l : List UInt8) (hl : l.length ≤ 4294967296) (p : Nat) (hp : p < l.length) {x : UInt8} (hx : l.getD p 0 = x) (w : World) :
    Calls Try.prog 48 #[.agg #[.int .i64 k, .string ⟨u.toArray⟩, .string ⟨o.toArray⟩, .int .i64 id, .int .i64 a, .int .i64 b, .int .i64 c, .string ⟨st.toArray⟩], .int .i64 2, .string ⟨l.toArray⟩, .int .i64 p] w fun e w' => e = .returned (.tuple #[.agg #[.int .i64 k, .string ⟨u.toArray⟩, .string ⟨o.toArray⟩, .int .i64 x.toNat, .int .i64 a, .int .i64 b, .int .i64 c, .string ⟨st.toArray⟩], .int .i64 ((p + 1 : Nat) : Int), .bool true]) ∧ Below w.heap.size w w' := by
  have ta1 := ta_is
  have ta2 := fun v w => ta_same 3 v (by simp) w
  have b0 := bl_newZ w (.cells #[.int .i64 k, .string ⟨u.toArray⟩, .string ⟨o.toArray⟩, .int .i64 id, .int .i64 a, .int .i64 b, .int .i64 c, .string ⟨st.toArray⟩] 26)
  have b1 := bl_newZ (w.alloc (.cells #[.int .i64 k, .string ⟨u.toArray⟩, .string ⟨o.toArray⟩, .int .i64 id, .int .i64 a, .int .i64 b, .int .i64 c, .string ⟨st.toArray⟩] 26)) (.cells #[.int .i64 0, .string ⟨#[]⟩, .string ⟨#[]⟩, .int .i64 0, .int .i64 0, .int .i64 0, .int .i64 0, .string ⟨#[]⟩] 26)
  have HB := Lib.hid (below2Z b0 b1)
  have E := newQ w (.cells #[.int .i64 k, .string ⟨u.toArray⟩, .string ⟨o.toArray⟩, .int .i64 id, .int .i64 a, .int .i64 b, .int .i64 c, .string ⟨st.toArray⟩] 26)
  replace E := upQ E b1
  replace E := Lib.hid E
  have R := newQ (w.alloc (.cells #[.int .i64 k, .string ⟨u.toArray⟩, .string ⟨o.toArray⟩, .int .i64 id, .int .i64 a, .int .i64 b, .int .i64 c, .string ⟨st.toArray⟩] 26)) (.cells #[.int .i64 0, .string ⟨#[]⟩, .string ⟨#[]⟩, .int .i64 0, .int .i64 0, .int .i64 0, .int .i64 0, .string ⟨#[]⟩] 26)
  rw [World.size_alloc] at R
  replace R := Lib.hid R
  clear b0 b1
  go_enter Try.func48, Try.ntmps48
  go_wp2_with fail
  refine (rp2_yes l hl p hp hx _).mono ?_
  rintro e w3 ⟨rfl, b3⟩
  replace E := Lib.hid (upQ E.out b3)
  replace R := Lib.hid (upQ R.out b3)
  replace HB := Lib.hid (below2Z HB.out b3)
  clear b3
  obtain ⟨⟨Ec0, Ec1, Ec2, Ec3, Ec4, Ec5, Ec6, Ec7⟩, ⟨Ef0, Ef1, Ef2, Ef3, Ef4, Ef5, Ef6, Ef7⟩⟩ := blk8 E.out
  obtain ⟨⟨Rc0, Rc1, Rc2, Rc3, Rc4, Rc5, Rc6, Rc7⟩, ⟨Rf0, Rf1, Rf2, Rf3, Rf4, Rf5, Rf6, Rf7⟩⟩ := blk8 R.out
  have hE := (Array.getElem?_eq_some_iff.1 E.out).1
  have hR := (Array.getElem?_eq_some_iff.1 R.out).1
  go_wp2_with fail
  refine bodyPost_ret (v := .tuple #[.agg #[.int .i64 k, .string ⟨u.toArray⟩, .string ⟨o.toArray⟩, .int .i64 x.toNat, .int .i64 a, .int .i64 b, .int .i64 c, .string ⟨st.toArray⟩], .int .i64 ((p + 1 : Nat) : Int), .bool true]) (by simp [results, Try.results48, go_sem, Rc0, Rc1, Rc2, Rc3, Rc4, Rc5, Rc6, Rc7]) rfl ⟨rfl, ?_⟩
  exact (((((((((HB.out.setCell (Nat.le_refl _) _).setCell (Nat.le_succ _) _).setCell (Nat.le_succ _) _).setCell (Nat.le_succ _) _).setCell (Nat.le_succ _) _).setCell (Nat.le_succ _) _).setCell (Nat.le_succ _) _).setCell (Nat.le_succ _) _).setCell (Nat.le_succ _) _)

set_option maxHeartbeats 1600000 in
set_option maxRecDepth 100000 in
theorem tp2_no (k : Int) (u o st : List UInt8) (id a b c : Int) (l : List UInt8) (hl : l.length ≤ 4294967296) (p : Nat) (hp : l.length ≤ p) (w : World) :
    Calls Try.prog 48 #[.agg #[.int .i64 k, .string ⟨u.toArray⟩, .string ⟨o.toArray⟩, .int .i64 id, .int .i64 a, .int .i64 b, .int .i64 c, .string ⟨st.toArray⟩], .int .i64 2, .string ⟨l.toArray⟩, .int .i64 p] w fun e w' => e = .returned (.tuple #[.agg #[.int .i64 0, .string ⟨#[]⟩, .string ⟨#[]⟩, .int .i64 0, .int .i64 0, .int .i64 0, .int .i64 0, .string ⟨#[]⟩], .int .i64 0, .bool false]) ∧ Below w.heap.size w w' := by
  have ta1 := ta_ns
  have ta2 := ta_ni
  have ta3 := ta_nv
  have b0 := bl_newZ w (.cells #[.int .i64 k, .string ⟨u.toArray⟩, .string ⟨o.toArray⟩, .int .i64 id, .int .i64 a, .int .i64 b, .int .i64 c, .string ⟨st.toArray⟩] 26)
  have b1 := bl_newZ (w.alloc (.cells #[.int .i64 k, .string ⟨u.toArray⟩, .string ⟨o.toArray⟩, .int .i64 id, .int .i64 a, .int .i64 b, .int .i64 c, .string ⟨st.toArray⟩] 26)) (.cells #[.int .i64 0, .string ⟨#[]⟩, .string ⟨#[]⟩, .int .i64 0, .int .i64 0, .int .i64 0, .int .i64 0, .string ⟨#[]⟩] 26)
  have HB := Lib.hid (below2Z b0 b1)
  have E := newQ w (.cells #[.int .i64 k, .string ⟨u.toArray⟩, .string ⟨o.toArray⟩, .int .i64 id, .int .i64 a, .int .i64 b, .int .i64 c, .string ⟨st.toArray⟩] 26)
  replace E := upQ E b1
  replace E := Lib.hid E
  have R := newQ (w.alloc (.cells #[.int .i64 k, .string ⟨u.toArray⟩, .string ⟨o.toArray⟩, .int .i64 id, .int .i64 a, .int .i64 b, .int .i64 c, .string ⟨st.toArray⟩] 26)) (.cells #[.int .i64 0, .string ⟨#[]⟩, .string ⟨#[]⟩, .int .i64 0, .int .i64 0, .int .i64 0, .int .i64 0, .string ⟨#[]⟩] 26)
  rw [World.size_alloc] at R
  replace R := Lib.hid R
  clear b0 b1
  go_enter Try.func48, Try.ntmps48
  go_wp2_with fail
  refine (rp2_no l hl p hp _).mono ?_
  rintro e w3 ⟨rfl, b3⟩
  replace E := Lib.hid (upQ E.out b3)
  replace R := Lib.hid (upQ R.out b3)
  replace HB := Lib.hid (below2Z HB.out b3)
  clear b3
  obtain ⟨⟨Ec0, Ec1, Ec2, Ec3, Ec4, Ec5, Ec6, Ec7⟩, ⟨Ef0, Ef1, Ef2, Ef3, Ef4, Ef5, Ef6, Ef7⟩⟩ := blk8 E.out
  obtain ⟨⟨Rc0, Rc1, Rc2, Rc3, Rc4, Rc5, Rc6, Rc7⟩, ⟨Rf0, Rf1, Rf2, Rf3, Rf4, Rf5, Rf6, Rf7⟩⟩ := blk8 R.out
  have hE := (Array.getElem?_eq_some_iff.1 E.out).1
  have hR := (Array.getElem?_eq_some_iff.1 R.out).1
  go_wp2_with fail
  refine bodyPost_ret (v := .tuple #[.agg #[.int .i64 0, .string ⟨#[]⟩, .string ⟨#[]⟩, .int .i64 0, .int .i64 0, .int .i64 0, .int .i64 0, .string ⟨#[]⟩], .int .i64 0, .bool false]) (by simp [results, Try.results48, go_sem, Rc0, Rc1, Rc2, Rc3, Rc4, Rc5, Rc6, Rc7]) rfl ⟨rfl, ?_⟩
  exact ((((((((HB.out.setCell (Nat.le_succ _) _).setCell (Nat.le_succ _) _).setCell (Nat.le_succ _) _).setCell (Nat.le_succ _) _).setCell (Nat.le_succ _) _).setCell (Nat.le_succ _) _).setCell (Nat.le_succ _) _).setCell (Nat.le_succ _) _)

set_option maxHeartbeats 1600000 in
set_option maxRecDepth 100000 in
theorem tp4_yes (k : Int) (u o st : List UInt8) (id a b c : Int) (l : List UInt8) (hl : l.length ≤ 4294967296) (p : Int) {x y z : Int} {t : List UInt8} {q : Nat} (HT : Hid (vaTake l p = (⟨x, y, z, t⟩, q, 0))) (w : World) :
    Calls Try.prog 48 #[.agg #[.int .i64 k, .string ⟨u.toArray⟩, .string ⟨o.toArray⟩, .int .i64 id, .int .i64 a, .int .i64 b, .int .i64 c, .string ⟨st.toArray⟩], .int .i64 4, .string ⟨l.toArray⟩, .int .i64 p] w fun e w' => e = .returned (.tuple #[.agg #[.int .i64 k, .string ⟨u.toArray⟩, .string ⟨o.toArray⟩, .int .i64 id, .int .i64 x, .int .i64 y, .int .i64 z, .string ⟨t.toArray⟩], .int .i64 q, .bool true]) ∧ Below w.heap.size w w' := by
  have ta1 := ta_vs
  have ta2 := ta_vi
  have ta3 := fun v w => ta_same 24 v (by simp) w
  have b0 := bl_newZ w (.cells #[.int .i64 k, .string ⟨u.toArray⟩, .string ⟨o.toArray⟩, .int .i64 id, .int .i64 a, .int .i64 b, .int .i64 c, .string ⟨st.toArray⟩] 26)
  have b1 := bl_newZ (w.alloc (.cells #[.int .i64 k, .string ⟨u.toArray⟩, .string ⟨o.toArray⟩, .int .i64 id, .int .i64 a, .int .i64 b, .int .i64 c, .string ⟨st.toArray⟩] 26)) (.cells #[.int .i64 0, .string ⟨#[]⟩, .string ⟨#[]⟩, .int .i64 0, .int .i64 0, .int .i64 0, .int .i64 0, .string ⟨#[]⟩] 26)
  have HB := Lib.hid (below2Z b0 b1)
  have E := newQ w (.cells #[.int .i64 k, .string ⟨u.toArray⟩, .string ⟨o.toArray⟩, .int .i64 id, .int .i64 a, .int .i64 b, .int .i64 c, .string ⟨st.toArray⟩] 26)
  replace E := upQ E b1
  replace E := Lib.hid E
  have R := newQ (w.alloc (.cells #[.int .i64 k, .string ⟨u.toArray⟩, .string ⟨o.toArray⟩, .int .i64 id, .int .i64 a, .int .i64 b, .int .i64 c, .string ⟨st.toArray⟩] 26)) (.cells #[.int .i64 0, .string ⟨#[]⟩, .string ⟨#[]⟩, .int .i64 0, .int .i64 0, .int .i64 0, .int .i64 0, .string ⟨#[]⟩] 26)
  rw [World.size_alloc] at R
  replace R := Lib.hid R
  clear b0 b1
  go_enter Try.func48, Try.ntmps48
  go_wp2_with fail
  refine (rp4_yes l hl p HT _).mono ?_
  rintro e w3 ⟨rfl, b3⟩
  replace E := Lib.hid (upQ E.out b3)
  replace R := Lib.hid (upQ R.out b3)
  replace HB := Lib.hid (below2Z HB.out b3)
  clear b3
  obtain ⟨⟨Ec0, Ec1, Ec2, Ec3, Ec4, Ec5, Ec6, Ec7⟩, ⟨Ef0, Ef1, Ef2, Ef3, Ef4, Ef5, Ef6, Ef7⟩⟩ := blk8 E.out
  obtain ⟨⟨Rc0, Rc1, Rc2, Rc3, Rc4, Rc5, Rc6, Rc7⟩, ⟨Rf0, Rf1, Rf2, Rf3, Rf4, Rf5, Rf6, Rf7⟩⟩ := blk8 R.out
  have hE := (Array.getElem?_eq_some_iff.1 E.out).1
  have hR := (Array.getElem?_eq_some_iff.1 R.out).1
  obtain ⟨y0, y1, y2, y3⟩ := four_cells w3 (.int .i64 x) (.int .i64 y) (.int .i64 z) (.string ⟨t.toArray⟩) 24
  have hV : ¬ w3.heap.size = w.heap.size := by omega
  have hV1 : ¬ w3.heap.size = w.heap.size + 1 := by omega
  go_wp2_with fail
  refine bodyPost_ret (v := .tuple #[.agg #[.int .i64 k, .string ⟨u.toArray⟩, .string ⟨o.toArray⟩, .int .i64 id, .int .i64 x, .int .i64 y, .int .i64 z, .string ⟨t.toArray⟩], .int .i64 q, .bool true]) (by simp [results, Try.results48, go_sem, Rc0, Rc1, Rc2, Rc3, Rc4, Rc5, Rc6, Rc7, World.cell?_alloc_lt, hR]) rfl ⟨rfl, ?_⟩
  exact (((((((((((((HB.out.setCell (Nat.le_refl _) _).setCell (Nat.le_refl _) _).setCell (Nat.le_refl _) _).setCell (Nat.le_refl _) _).setCell (Nat.le_succ _) _).setCell (Nat.le_succ _) _).setCell (Nat.le_succ _) _).setCell (Nat.le_succ _) _).setCell (Nat.le_succ _) _).setCell (Nat.le_succ _) _).setCell (Nat.le_succ _) _).setCell (Nat.le_succ _) _)).alloc (by simp only [setCell_size]; exact HB.out.size) _

set_option maxHeartbeats 1600000 in
set_option maxRecDepth 100000 in
theorem tp4_no (k : Int) (u o st : List UInt8) (id a b c : Int) (l : List UInt8) (hl : l.length ≤ 4294967296) (p : Int) {x y z : Int} {t : List UInt8} {q er : Nat} (HT : Hid (vaTake l p = (⟨x, y, z, t⟩, q, er))) (he : er ≠ 0) (w : World) :
    Calls Try.prog 48 #[.agg #[.int .i64 k, .string ⟨u.toArray⟩, .string ⟨o.toArray⟩, .int .i64 id, .int .i64 a, .int .i64 b, .int .i64 c, .string ⟨st.toArray⟩], .int .i64 4, .string ⟨l.toArray⟩, .int .i64 p] w fun e w' => e = .returned (.tuple #[.agg #[.int .i64 0, .string ⟨#[]⟩, .string ⟨#[]⟩, .int .i64 0, .int .i64 0, .int .i64 0, .int .i64 0, .string ⟨#[]⟩], .int .i64 0, .bool false]) ∧ Below w.heap.size w w' := by
  have ta1 := ta_ns
  have ta2 := ta_ni
  have ta3 := ta_nv
  have b0 := bl_newZ w (.cells #[.int .i64 k, .string ⟨u.toArray⟩, .string ⟨o.toArray⟩, .int .i64 id, .int .i64 a, .int .i64 b, .int .i64 c, .string ⟨st.toArray⟩] 26)
  have b1 := bl_newZ (w.alloc (.cells #[.int .i64 k, .string ⟨u.toArray⟩, .string ⟨o.toArray⟩, .int .i64 id, .int .i64 a, .int .i64 b, .int .i64 c, .string ⟨st.toArray⟩] 26)) (.cells #[.int .i64 0, .string ⟨#[]⟩, .string ⟨#[]⟩, .int .i64 0, .int .i64 0, .int .i64 0, .int .i64 0, .string ⟨#[]⟩] 26)
  have HB := Lib.hid (below2Z b0 b1)
  have E := newQ w (.cells #[.int .i64 k, .string ⟨u.toArray⟩, .string ⟨o.toArray⟩, .int .i64 id, .int .i64 a, .int .i64 b, .int .i64 c, .string ⟨st.toArray⟩] 26)
  replace E := upQ E b1
  replace E := Lib.hid E
  have R := newQ (w.alloc (.cells #[.int .i64 k, .string ⟨u.toArray⟩, .string ⟨o.toArray⟩, .int .i64 id, .int .i64 a, .int .i64 b, .int .i64 c, .string ⟨st.toArray⟩] 26)) (.cells #[.int .i64 0, .string ⟨#[]⟩, .string ⟨#[]⟩, .int .i64 0, .int .i64 0, .int .i64 0, .int .i64 0, .string ⟨#[]⟩] 26)
  rw [World.size_alloc] at R
  replace R := Lib.hid R
  clear b0 b1
  go_enter Try.func48, Try.ntmps48
  go_wp2_with fail
  refine (rp4_no l hl p HT he _).mono ?_
  rintro e w3 ⟨rfl, b3⟩
  replace E := Lib.hid (upQ E.out b3)
  replace R := Lib.hid (upQ R.out b3)
  replace HB := Lib.hid (below2Z HB.out b3)
  clear b3
  obtain ⟨⟨Ec0, Ec1, Ec2, Ec3, Ec4, Ec5, Ec6, Ec7⟩, ⟨Ef0, Ef1, Ef2, Ef3, Ef4, Ef5, Ef6, Ef7⟩⟩ := blk8 E.out
  obtain ⟨⟨Rc0, Rc1, Rc2, Rc3, Rc4, Rc5, Rc6, Rc7⟩, ⟨Rf0, Rf1, Rf2, Rf3, Rf4, Rf5, Rf6, Rf7⟩⟩ := blk8 R.out
  have hE := (Array.getElem?_eq_some_iff.1 E.out).1
  have hR := (Array.getElem?_eq_some_iff.1 R.out).1
  go_wp2_with fail
  refine bodyPost_ret (v := .tuple #[.agg #[.int .i64 0, .string ⟨#[]⟩, .string ⟨#[]⟩, .int .i64 0, .int .i64 0, .int .i64 0, .int .i64 0, .string ⟨#[]⟩], .int .i64 0, .bool false]) (by simp [results, Try.results48, go_sem, Rc0, Rc1, Rc2, Rc3, Rc4, Rc5, Rc6, Rc7]) rfl ⟨rfl, ?_⟩
  exact ((((((((HB.out.setCell (Nat.le_succ _) _).setCell (Nat.le_succ _) _).setCell (Nat.le_succ _) _).setCell (Nat.le_succ _) _).setCell (Nat.le_succ _) _).setCell (Nat.le_succ _) _).setCell (Nat.le_succ _) _).setCell (Nat.le_succ _) _)

end Go.Proofs.Ythfkfonfiejbmaa
