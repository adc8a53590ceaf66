/-
  THE WALK OF ValueBack, out of the contracts.
-/
import Derived.Test.YtmbgdkelghoghaaDoorWValueTakes
namespace Go.Proofs.YtmbgdkelghoghaaDoor
open Go.RowKit
attribute [local go_sem] ByteArray.mk_append_mk

theorem val_same_not (a b c : Int) (s : List UInt8) (w : World) :
    (binOp .neq 23 (.agg #[.int .i64 a, .int .i64 b, .int .i64 c, .string ⟨s.toArray⟩]) (.agg #[.int .i64 a, .int .i64 b, .int .i64 c, .string ⟨s.toArray⟩])).run Tryd.prog w = .ok (.bool false) w := by
  have h := val_same a b c s w
  rw [run_eql_struct] at h
  rw [run_neq_struct]
  revert h
  generalize (Op.equalIn 10000 23 (.agg #[.int .i64 a, .int .i64 b, .int .i64 c, .string ⟨s.toArray⟩]) (.agg #[.int .i64 a, .int .i64 b, .int .i64 c, .string ⟨s.toArray⟩])).run Tryd.prog w = r
  intro h
  cases r with
  | ok x w' => simp only [Result.andThen_ok, Result.ok.injEq, Value.bool.injEq] at h ⊢; rw [h.1, h.2]; exact ⟨rfl, rfl⟩
  | halt x w' => simp [Result.andThen] at h

set_option maxHeartbeats 1600000 in
set_option maxRecDepth 1000000 in
theorem back_11 {w : World} (hL : Laid w) (a b c : Int) (l : List UInt8) (hl : l.length ≤ 300) (x y : List UInt8) (hx : x.length ≤ 300) (hy : y.length ≤ 300)
    (hm : vaMay ⟨a, b, c, l⟩ = true) {a2 b2 c2 : Int} {t2 : List UInt8} {f er : Nat} (h2 : vaTake y 0 = (⟨a2, b2, c2, t2⟩, f, er)) (he : er ≠ 0) :
    Calls Tryd.prog 5 #[.agg #[.int .i64 a, .int .i64 b, .int .i64 c, .string ⟨l.toArray⟩], .string ⟨x.toArray⟩, .string ⟨y.toArray⟩] w fun e w' => e = .returned (.bool true) ∧ Below w.heap.size w w' := by
  obtain ⟨t, ht⟩ : ∃ t, vaBytes ⟨a, b, c, l⟩ = t := ⟨_, rfl⟩
  have hT := vaTake_put hm x y
  have htl := vaBytes_len hm
  have hsm := (vaMay_parts hm).2.2.2.2.2.2
  have hvl := vput_len_le c.toNat
  simp only at htl hsm
  rw [ht] at hT htl
  have hP : Hid (vaPut ⟨a, b, c, l⟩ = t) := by show _ = _; unfold vaPut; rw [if_pos hm, ht]
  have htl' : t.length ≤ 45 := by omega
  obtain ⟨g, hg⟩ : ∃ g, x.length + t.length = g := ⟨_, rfl⟩
  rw [hg] at hT
  have HT := Lib.hid hT
  have g1 : ((g : Int) != (x.length : Int) + (t.length : Int)) = false := by simp; omega
  have hneq := val_same_not a b c l
  clear hT htl hsm hvl hg ht
  have HM := Lib.hid hm
  have HM1 := Lib.hid (may_eq a b c l (by omega) HM)
  have hz := (vaTake_err y 0).resolve_left (by rw [h2]; exact he)
  rw [h2] at hz
  simp only [Val.zero, Val.mk.injEq] at hz
  obtain ⟨⟨rfl, rfl, rfl, rfl⟩, rfl⟩ := hz
  have g2 : ((er : Int) != 0) = true := by simp; omega
  have heq := val_same 0 0 0 []
  have H2 := Lib.hid h2
  have hgd : Tryd.prog.eqGuardType Tryd.prog.depth 23 = false := by kernel_rfl
  clear hm h2 he
  go_enter Tryd.func5, Tryd.ntmps5
  go_wp2_with fail
  refine (vaput_any a b c l (by omega) hP HM _).mono ?_
  rintro e w1 ⟨rfl, hb1⟩
  have B1 : Hid (Below w.heap.size w w1) := below2' ((Below.refl _ _).alloc (Nat.le_refl _) _) hb1
  have K1 := Lib.hid (one_block hb1)
  obtain ⟨k0, k1, k2, k3⟩ := K1.out
  have hz := World.block_lt_of_cell? w1 _ k0
  simp only at hz
  clear hb1
  go_wp2_with fail
  refine (HM1.out _).mono ?_
  rintro e w2 ⟨rfl, hb2⟩
  have B2 := Lib.hid (below2' B1.out hb2)
  have K2 := Lib.hid (keep4 hb2 K1.out)
  clear hb2 B1 K1 k0 k1 k2 k3 hz
  go_wp2_with fail
  refine (vatake_eq (x ++ (t ++ y)) (by simp; omega) x.length HT _).mono ?_
  rintro e w3 ⟨rfl, hb3⟩
  have B3 := Lib.hid (bl_alloc (below2' B2.out hb3) (.cells #[.int .i64 a, .int .i64 b, .int .i64 c, .string ⟨l.toArray⟩] 23))
  have K3 := Lib.hid (keep4 hb3 K2.out)
  obtain ⟨k0, k1, k2, k3⟩ := K3.out
  have hz := World.block_lt_of_cell? w3 _ k0
  simp only at hz
  clear hb3 B2 K2
  go_wp2_with fail
  clear k0 k1 k2 k3 hz hneq
  refine (vatake_eq y (by omega) 0 H2 _).mono ?_
  rintro e w4 ⟨rfl, hb4⟩
  have B4 := Lib.hid (bl_alloc (below2' B3.out hb4) (.cells #[.int .i64 0, .int .i64 0, .int .i64 0, .string ⟨#[]⟩] 23))
  have HL4 := Lib.hid (hL.later B4.out)
  clear hb4 B3 hL
  go_wp2_with fail
  refine (live4 _ HL4.out).mono ?_
  rintro e w6 ⟨rfl, hb6⟩
  have B6 := Lib.hid (below2' B4.out hb6)
  clear hb6
  go_wp2_with fail
  go_ret
  exact ⟨rfl, B6.out⟩

set_option maxHeartbeats 1600000 in
set_option maxRecDepth 1000000 in
theorem back_10 {w : World} (hL : Laid w) (a b c : Int) (l : List UInt8) (hl : l.length ≤ 300) (x y : List UInt8) (hx : x.length ≤ 300) (hy : y.length ≤ 300)
    (hm : vaMay ⟨a, b, c, l⟩ = true) {a2 b2 c2 : Int} {t2 : List UInt8} {f er : Nat} (h2 : vaTake y 0 = (⟨a2, b2, c2, t2⟩, f, er)) (he : er = 0) :
    Calls Tryd.prog 5 #[.agg #[.int .i64 a, .int .i64 b, .int .i64 c, .string ⟨l.toArray⟩], .string ⟨x.toArray⟩, .string ⟨y.toArray⟩] w fun e w' => e = .returned (.bool true) ∧ Below w.heap.size w w' := by
  obtain ⟨t, ht⟩ : ∃ t, vaBytes ⟨a, b, c, l⟩ = t := ⟨_, rfl⟩
  have hT := vaTake_put hm x y
  have htl := vaBytes_len hm
  have hsm := (vaMay_parts hm).2.2.2.2.2.2
  have hvl := vput_len_le c.toNat
  simp only at htl hsm
  rw [ht] at hT htl
  have hP : Hid (vaPut ⟨a, b, c, l⟩ = t) := by show _ = _; unfold vaPut; rw [if_pos hm, ht]
  have htl' : t.length ≤ 45 := by omega
  obtain ⟨g, hg⟩ : ∃ g, x.length + t.length = g := ⟨_, rfl⟩
  rw [hg] at hT
  have HT := Lib.hid hT
  have g1 : ((g : Int) != (x.length : Int) + (t.length : Int)) = false := by simp; omega
  have hneq := val_same_not a b c l
  clear hT htl hsm hvl hg ht
  have HM := Lib.hid hm
  have HM1 := Lib.hid (may_eq a b c l (by omega) HM)
  subst he
  have hq := vaPut_take (p := 0) h2
  simp only [List.drop_zero, Nat.sub_zero] at hq
  have hP2 : Hid (vaPut ⟨a2, b2, c2, t2⟩ = y.take f) := by show _ = _; unfold vaPut; rw [if_pos hq.1, hq.2.2.2]
  have hM2 := Lib.hid hq.1
  have hfy := hq.2.2.1
  have hsl := fun w => run_slice_bytes_to (P := Tryd.prog) w 9 y f f rfl Tryd.underlying9 hfy
  have ht2 : t2.length ≤ 4294967296 := by have := (vaMay_parts hq.1).2.2.2.2.2.2; simp only at this; omega
  clear hq
  have H2 := Lib.hid h2
  have hgd : Tryd.prog.eqGuardType Tryd.prog.depth 23 = false := by kernel_rfl
  clear hm h2 
  go_enter Tryd.func5, Tryd.ntmps5
  go_wp2_with fail
  refine (vaput_any a b c l (by omega) hP HM _).mono ?_
  rintro e w1 ⟨rfl, hb1⟩
  have B1 : Hid (Below w.heap.size w w1) := below2' ((Below.refl _ _).alloc (Nat.le_refl _) _) hb1
  have K1 := Lib.hid (one_block hb1)
  obtain ⟨k0, k1, k2, k3⟩ := K1.out
  have hz := World.block_lt_of_cell? w1 _ k0
  simp only at hz
  clear hb1
  go_wp2_with fail
  refine (HM1.out _).mono ?_
  rintro e w2 ⟨rfl, hb2⟩
  have B2 := Lib.hid (below2' B1.out hb2)
  have K2 := Lib.hid (keep4 hb2 K1.out)
  clear hb2 B1 K1 k0 k1 k2 k3 hz
  go_wp2_with fail
  refine (vatake_eq (x ++ (t ++ y)) (by simp; omega) x.length HT _).mono ?_
  rintro e w3 ⟨rfl, hb3⟩
  have B3 := Lib.hid (bl_alloc (below2' B2.out hb3) (.cells #[.int .i64 a, .int .i64 b, .int .i64 c, .string ⟨l.toArray⟩] 23))
  have K3 := Lib.hid (keep4 hb3 K2.out)
  obtain ⟨k0, k1, k2, k3⟩ := K3.out
  have hz := World.block_lt_of_cell? w3 _ k0
  simp only at hz
  clear hb3 B2 K2
  go_wp2_with fail
  clear k0 k1 k2 k3 hz hneq
  refine (vatake_eq y (by omega) 0 H2 _).mono ?_
  rintro e w4 ⟨rfl, hb4⟩
  have B4 := Lib.hid (bl_alloc (below2' B3.out hb4) (.cells #[.int .i64 a2, .int .i64 b2, .int .i64 c2, .string ⟨t2.toArray⟩] 23))
  have HL4 := Lib.hid (hL.later B4.out)
  clear hb4 B3 hL
  go_wp2_with fail
  refine (vaput_any a2 b2 c2 t2 ht2 hP2 hM2 _).mono ?_
  rintro e w5 ⟨rfl, hb5⟩
  have B5 := Lib.hid (below2' B4.out hb5)
  have HL5 := Lib.hid (HL4.out.later hb5)
  clear hb5 B4 HL4
  go_wp2_with fail
  refine (live4 _ HL5.out).mono ?_
  rintro e w6 ⟨rfl, hb6⟩
  have B6 := Lib.hid (below2' B5.out hb6)
  clear hb6
  go_wp2_with fail
  go_ret
  exact ⟨rfl, B6.out⟩

set_option maxHeartbeats 1600000 in
set_option maxRecDepth 1000000 in
theorem back_01 {w : World} (hL : Laid w) (a b c : Int) (l : List UInt8) (hl : l.length ≤ 300) (x y : List UInt8) (hx : x.length ≤ 300) (hy : y.length ≤ 300)
    (hm : vaMay ⟨a, b, c, l⟩ = false) {a2 b2 c2 : Int} {t2 : List UInt8} {f er : Nat} (h2 : vaTake y 0 = (⟨a2, b2, c2, t2⟩, f, er)) (he : er ≠ 0) :
    Calls Tryd.prog 5 #[.agg #[.int .i64 a, .int .i64 b, .int .i64 c, .string ⟨l.toArray⟩], .string ⟨x.toArray⟩, .string ⟨y.toArray⟩] w fun e w' => e = .returned (.bool true) ∧ Below w.heap.size w w' := by
  have hP : Hid (vaPut ⟨a, b, c, l⟩ = []) := by show _ = _; unfold vaPut; rw [if_neg (by rw [hm]; decide)]
  have HM := Lib.hid hm
  have HM1 := Lib.hid (may_eq a b c l (by omega) HM)
  have hz := (vaTake_err y 0).resolve_left (by rw [h2]; exact he)
  rw [h2] at hz
  simp only [Val.zero, Val.mk.injEq] at hz
  obtain ⟨⟨rfl, rfl, rfl, rfl⟩, rfl⟩ := hz
  have g2 : ((er : Int) != 0) = true := by simp; omega
  have heq := val_same 0 0 0 []
  have H2 := Lib.hid h2
  have hgd : Tryd.prog.eqGuardType Tryd.prog.depth 23 = false := by kernel_rfl
  clear hm h2 he
  go_enter Tryd.func5, Tryd.ntmps5
  go_wp2_with fail
  refine (vaput_any a b c l (by omega) hP HM _).mono ?_
  rintro e w1 ⟨rfl, hb1⟩
  have B1 : Hid (Below w.heap.size w w1) := below2' ((Below.refl _ _).alloc (Nat.le_refl _) _) hb1
  have K1 := Lib.hid (one_block hb1)
  obtain ⟨k0, k1, k2, k3⟩ := K1.out
  have hz := World.block_lt_of_cell? w1 _ k0
  simp only at hz
  clear hb1
  go_wp2_with fail
  refine (HM1.out _).mono ?_
  rintro e w2 ⟨rfl, hb2⟩
  have B2 := Lib.hid (below2' B1.out hb2)
  have K2 := Lib.hid (keep4 hb2 K1.out)
  clear hb2 B1 K1 k0 k1 k2 k3 hz
  go_wp2_with fail
  refine (vatake_eq y (by omega) 0 H2 _).mono ?_
  rintro e w4 ⟨rfl, hb4⟩
  have B4 := Lib.hid (bl_alloc (below2' B2.out hb4) (.cells #[.int .i64 0, .int .i64 0, .int .i64 0, .string ⟨#[]⟩] 23))
  have HL4 := Lib.hid (hL.later B4.out)
  clear hb4 B2 hL
  go_wp2_with fail
  refine (live4 _ HL4.out).mono ?_
  rintro e w6 ⟨rfl, hb6⟩
  have B6 := Lib.hid (below2' B4.out hb6)
  clear hb6
  go_wp2_with fail
  go_ret
  exact ⟨rfl, B6.out⟩

set_option maxHeartbeats 1600000 in
set_option maxRecDepth 1000000 in
theorem back_00 {w : World} (hL : Laid w) (a b c : Int) (l : List UInt8) (hl : l.length ≤ 300) (x y : List UInt8) (hx : x.length ≤ 300) (hy : y.length ≤ 300)
    (hm : vaMay ⟨a, b, c, l⟩ = false) {a2 b2 c2 : Int} {t2 : List UInt8} {f er : Nat} (h2 : vaTake y 0 = (⟨a2, b2, c2, t2⟩, f, er)) (he : er = 0) :
    Calls Tryd.prog 5 #[.agg #[.int .i64 a, .int .i64 b, .int .i64 c, .string ⟨l.toArray⟩], .string ⟨x.toArray⟩, .string ⟨y.toArray⟩] w fun e w' => e = .returned (.bool true) ∧ Below w.heap.size w w' := by
  have hP : Hid (vaPut ⟨a, b, c, l⟩ = []) := by show _ = _; unfold vaPut; rw [if_neg (by rw [hm]; decide)]
  have HM := Lib.hid hm
  have HM1 := Lib.hid (may_eq a b c l (by omega) HM)
  subst he
  have hq := vaPut_take (p := 0) h2
  simp only [List.drop_zero, Nat.sub_zero] at hq
  have hP2 : Hid (vaPut ⟨a2, b2, c2, t2⟩ = y.take f) := by show _ = _; unfold vaPut; rw [if_pos hq.1, hq.2.2.2]
  have hM2 := Lib.hid hq.1
  have hfy := hq.2.2.1
  have hsl := fun w => run_slice_bytes_to (P := Tryd.prog) w 9 y f f rfl Tryd.underlying9 hfy
  have ht2 : t2.length ≤ 4294967296 := by have := (vaMay_parts hq.1).2.2.2.2.2.2; simp only at this; omega
  clear hq
  have H2 := Lib.hid h2
  have hgd : Tryd.prog.eqGuardType Tryd.prog.depth 23 = false := by kernel_rfl
  clear hm h2 
  go_enter Tryd.func5, Tryd.ntmps5
  go_wp2_with fail
  refine (vaput_any a b c l (by omega) hP HM _).mono ?_
  rintro e w1 ⟨rfl, hb1⟩
  have B1 : Hid (Below w.heap.size w w1) := below2' ((Below.refl _ _).alloc (Nat.le_refl _) _) hb1
  have K1 := Lib.hid (one_block hb1)
  obtain ⟨k0, k1, k2, k3⟩ := K1.out
  have hz := World.block_lt_of_cell? w1 _ k0
  simp only at hz
  clear hb1
  go_wp2_with fail
  refine (HM1.out _).mono ?_
  rintro e w2 ⟨rfl, hb2⟩
  have B2 := Lib.hid (below2' B1.out hb2)
  have K2 := Lib.hid (keep4 hb2 K1.out)
  clear hb2 B1 K1 k0 k1 k2 k3 hz
  go_wp2_with fail
  refine (vatake_eq y (by omega) 0 H2 _).mono ?_
  rintro e w4 ⟨rfl, hb4⟩
  have B4 := Lib.hid (bl_alloc (below2' B2.out hb4) (.cells #[.int .i64 a2, .int .i64 b2, .int .i64 c2, .string ⟨t2.toArray⟩] 23))
  have HL4 := Lib.hid (hL.later B4.out)
  clear hb4 B2 hL
  go_wp2_with fail
  refine (vaput_any a2 b2 c2 t2 ht2 hP2 hM2 _).mono ?_
  rintro e w5 ⟨rfl, hb5⟩
  have B5 := Lib.hid (below2' B4.out hb5)
  have HL5 := Lib.hid (HL4.out.later hb5)
  clear hb5 B4 HL4
  go_wp2_with fail
  refine (live4 _ HL5.out).mono ?_
  rintro e w6 ⟨rfl, hb6⟩
  have B6 := Lib.hid (below2' B5.out hb6)
  clear hb6
  go_wp2_with fail
  go_ret
  exact ⟨rfl, B6.out⟩

set_option maxHeartbeats 800000 in
set_option maxRecDepth 1000000 in
theorem back_long {w : World} (hL : Laid w) (a b c : Int) (l x y : List UInt8) (hl : l.length ≤ 9223372036854775807) (hx : x.length ≤ 9223372036854775807) (hy : y.length ≤ 9223372036854775807)
    (h : 300 < l.length ∨ (l.length ≤ 300 ∧ 300 < x.length) ∨ (l.length ≤ 300 ∧ x.length ≤ 300 ∧ 300 < y.length)) :
    Calls Tryd.prog 5 #[.agg #[.int .i64 a, .int .i64 b, .int .i64 c, .string ⟨l.toArray⟩], .string ⟨x.toArray⟩, .string ⟨y.toArray⟩] w fun e w' => e = .returned (.bool true) ∧ Below w.heap.size w w' := by
  rcases h with h1 | ⟨h1, h2⟩ | ⟨h1, h2, h3⟩
  all_goals
    go_enter Tryd.func5, Tryd.ntmps5
    go_wp2_with fail
    refine (live4 _ (hL.later ((Below.refl _ _).alloc (Nat.le_refl _) _))).mono ?_
    rintro e w3 ⟨rfl, hb3⟩
    go_wp2_with fail
    go_ret
    exact ⟨rfl, below2' ((Below.refl _ _).alloc (Nat.le_refl _) _) hb3⟩

theorem walkValueBack {w : World} (hL : Laid w) (a b c : Int) (l : List UInt8) (hl : l.length ≤ maxLen) (x : List UInt8) (hx : x.length ≤ maxLen) (y : List UInt8) (hy : y.length ≤ maxLen) :
    Calls Tryd.prog 5 #[.agg #[.int .i64 a, .int .i64 b, .int .i64 c, .string ⟨l.toArray⟩], .string ⟨x.toArray⟩, .string ⟨y.toArray⟩] w fun e w' => e = .returned (.bool true) ∧ Below w.heap.size w w' := by
  unfold maxLen at hl hx hy
  by_cases h : 300 < l.length ∨ (l.length ≤ 300 ∧ 300 < x.length) ∨ (l.length ≤ 300 ∧ x.length ≤ 300 ∧ 300 < y.length)
  · exact back_long hL a b c l x y hl hx hy h
  · have h1 : l.length ≤ 300 := by omega
    have h2 : x.length ≤ 300 := by omega
    have h3 : y.length ≤ 300 := by omega
    obtain ⟨a2, b2, c2, t2, f, er, ht⟩ : ∃ a2 b2 c2 t2 f er, vaTake y 0 = (⟨a2, b2, c2, t2⟩, f, er) := ⟨_, _, _, _, _, _, rfl⟩
    by_cases he : er = 0
    · cases hm : vaMay ⟨a, b, c, l⟩ with
      | true => exact back_10 hL a b c l h1 x y h2 h3 hm ht he
      | false => exact back_00 hL a b c l h1 x y h2 h3 hm ht he
    · cases hm : vaMay ⟨a, b, c, l⟩ with
      | true => exact back_11 hL a b c l h1 x y h2 h3 hm ht he
      | false => exact back_01 hL a b c l h1 x y h2 h3 hm ht he

end Go.Proofs.YtmbgdkelghoghaaDoor
