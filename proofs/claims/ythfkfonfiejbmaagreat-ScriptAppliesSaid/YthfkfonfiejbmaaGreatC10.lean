/-
  TEXTS OF THE PROOF, one behind the other: ValPut, ScrMay, CrcStep.
-/
import Derived.Test.YthfkfonfiejbmaaGreatC09
import Derived.Deep.RegionHeld
import Derived.Test.YthfkfonfiejbmaaGreatC08
import Derived.Test.YthfkfonfiejbmaaGreatC01
import Derived.Test.YthfkfonfiejbmaaGreatC02
import Derived.Test.YthfkfonfiejbmaaGreatRows
import Derived.Deep.DeepMust
import Derived.Lib.Hide

section

/-
  THE CONTRACTS OF value.Put AND OF THE DOCUMENT'S ANSWER TO IT.
-/
namespace Go.Proofs.YthfkfonfiejbmaaGreat
open Go.RowKit
attribute [local go_sem] ByteArray.mk_append_mk

/-- What Put tells. -/
def vaPut (v : Val) : List UInt8 := if vaMay v = true then vaBytes v else []

theorem cell_later {w w' : World} {a : Addr} {v : Value} (h : w.cell? a = some v) (hb : Below w.heap.size w w') : w'.cell? a = some v :=
  (hb.cell (World.block_lt_of_cell? w a h)).trans h

theorem head_vals (a b : Int) (ha : 1 ≤ a) (ha' : a ≤ 4) (hb : -128 ≤ b) (hb' : b ≤ 127) : #[Value.int IntKind.u8 a, Value.int IntKind.u8 (b + 128)] = (bvals [u8of a.toNat, u8of (b + 128).toNat]).toArray := by
  simp only [bvals, List.map_cons, List.map_nil]
  rw [u8of_toNat (by omega), u8of_toNat (by omega), show ((a.toNat : Nat) : Int) = a by omega, show (((b + 128).toNat : Nat) : Int) = b + 128 by omega]

theorem may_eq (a b c : Int) (l : List UInt8) (hl : l.length ≤ 4294967296) {r : Bool} (h : Hid (vaMay ⟨a, b, c, l⟩ = r)) (w : World) :
    Calls Tryz.prog 84 #[.agg #[.int .i64 a, .int .i64 b, .int .i64 c, .string ⟨l.toArray⟩]] w fun e w' => e = .returned (.bool r) ∧ Below w.heap.size w w' := by
  have := may_any a b c l hl w
  rwa [h.out] at this

theorem regrown_below {w w' : World} (h : ∃ p : Regrown, w' = Sort.grow (redrawn w p.d) p.os) : Below w.heap.size w w' := by
  obtain ⟨p, rfl⟩ := h
  exact below_regrown _ _ _

/-- The four cells of a value's block. -/
theorem four_cells (w : World) (a b c s : Value) (t : TypeId) : (w.alloc (.cells #[a, b, c, s] t)).cell? ⟨w.heap.size, 0, none⟩ = some a ∧ (w.alloc (.cells #[a, b, c, s] t)).cell? ⟨w.heap.size, 1, none⟩ = some b ∧ (w.alloc (.cells #[a, b, c, s] t)).cell? ⟨w.heap.size, 2, none⟩ = some c ∧ (w.alloc (.cells #[a, b, c, s] t)).cell? ⟨w.heap.size, 3, none⟩ = some s :=
  ⟨by rw [World.cell?_alloc_at _ _ _ _ rfl]; rfl, by rw [World.cell?_alloc_at _ _ _ _ rfl]; rfl, by rw [World.cell?_alloc_at _ _ _ _ rfl]; rfl, by rw [World.cell?_alloc_at _ _ _ _ rfl]; rfl⟩

set_option maxHeartbeats 800000 in
set_option maxRecDepth 100000 in
theorem vaput_yes (a b c : Int) (l : List UInt8) (hm : vaMay ⟨a, b, c, l⟩ = true) (w : World) :
    Calls Tryz.prog 57 #[.agg #[.int .i64 a, .int .i64 b, .int .i64 c, .string ⟨l.toArray⟩]] w fun e w' => e = .returned (.tuple #[.string ⟨(vaBytes ⟨a, b, c, l⟩).toArray⟩, .bool true]) ∧ Below w.heap.size w w' := by
  obtain ⟨h1, h2, h3, h4, h5, h6, h7⟩ := vaMay_parts hm
  simp only at h1 h2 h3 h4 h5 h6 h7
  obtain ⟨n, rfl⟩ := Int.eq_ofNat_of_zero_le h5
  have hl : l.length ≤ 4294967296 := by omega
  have HM := may_eq a b n l hl (Lib.hid hm)
  have HM' := Lib.hid HM
  have HP := Lib.hid (put_any n (by omega))
  have HT := Lib.hid (text_any l hl)
  have hcv := fun w => run_convert_new (P := Tryz.prog) w 83 5 9 Tryz.underlying83 Tryz.underlying5 Tryz.underlying9 _ _ (head_vals a b h1 h2 h3 h4) 2 rfl (by decide)
  have HV : Hid (vaBytes ⟨a, b, n, l⟩ = [u8of a.toNat, u8of (b + 128).toNat] ++ (vput n ++ (vput l.length ++ l))) := rfl
  have hz0 : (0 : Int) ≤ n := by omega
  obtain ⟨k0, k1, k2, k3⟩ := four_cells w (.int .i64 a) (.int .i64 b) (.int .i64 n) (.string ⟨l.toArray⟩) 27
  have HK0 := Lib.hid k0
  have HK1 := Lib.hid k1
  have HK2 := Lib.hid k2
  have HK3 := Lib.hid k3
  obtain ⟨hd, hhd⟩ : ∃ hd, hd = [u8of a.toNat, u8of (b + 128).toNat] := ⟨_, rfl⟩
  rw [← hhd] at hcv HV
  have hdl : hd.length ≤ 2 := by rw [hhd]; simp
  have hvn := vput_len_le n
  have hvl := vput_len_le l.length
  clear hhd hm HM k0 k1 k2 k3 h5
  go_enter Tryz.func57, Tryz.ntmps57
  go_wp2_with fail
  refine (HM'.out _).mono ?_
  rintro e w1 ⟨rfl, hb1⟩
  have k0 := cell_later HK0.out hb1
  have k1 := cell_later HK1.out hb1
  have k2 := cell_later HK2.out hb1
  have k3 := cell_later HK3.out hb1
  have hsz1 : w.heap.size + 1 ≤ w1.heap.size := by have := hb1.size; simpa using this
  have HB1 : Hid (Below w.heap.size w w1) := below2' ((Below.refl _ _).alloc (Nat.le_refl _) _) hb1
  have HK2' := Lib.hid k2
  have HK3' := Lib.hid k3
  clear HK0 HK1 HK2 HK3 hb1
  go_wp2_with fail
  have r2 := cell_regrown (w := w1.alloc (.cells #[.int .u8 a, .int .u8 (b + 128)] 5)) (a := ⟨w.heap.size, 2, none⟩) (v := .int .i64 n) (by rw [World.cell?_alloc_lt _ _ _ (by show w.heap.size < w1.heap.size; omega)]; exact HK2'.out)
  have r3 := cell_regrown (w := w1.alloc (.cells #[.int .u8 a, .int .u8 (b + 128)] 5)) (a := ⟨w.heap.size, 3, none⟩) (v := .string ⟨l.toArray⟩) (by rw [World.cell?_alloc_lt _ _ _ (by show w.heap.size < w1.heap.size; omega)]; exact HK3'.out)
  clear k0 k1 k2 k3 hcv
  refine wp_region_quiet_below (by kernel_rfl) (by kernel_rfl) ?_
  repeat (go_big_quiet_step (first | with_reducible exact rgB HP.out _ _ _ | with_reducible exact rgB HT.out _ _ _))
  refine wpQuiet_nil ?_
  intro w3 hw3
  have hb3 := regrown_below hw3
  have HB3 : Hid (Below w.heap.size w w3) := below3 HB1.out ((Below.refl _ _).alloc (Nat.le_refl _) _) hb3
  clear hw3 hb3 r2 r3
  go_wp2_with fail
  go_ret2
  exact ⟨by rw [HV.out]; rfl, HB3.out⟩

set_option maxHeartbeats 400000 in
set_option maxRecDepth 100000 in
theorem vaput_no (a b c : Int) (l : List UInt8) (hl : l.length ≤ 4294967296) (hm : vaMay ⟨a, b, c, l⟩ = false) (w : World) :
    Calls Tryz.prog 57 #[.agg #[.int .i64 a, .int .i64 b, .int .i64 c, .string ⟨l.toArray⟩]] w fun e w' => e = .returned (.tuple #[.string ⟨([] : List UInt8).toArray⟩, .bool false]) ∧ Below w.heap.size w w' := by
  have HM' := Lib.hid (may_eq a b c l hl (Lib.hid hm))
  clear hm
  go_enter Tryz.func57, Tryz.ntmps57
  go_wp2_with fail
  refine (HM'.out _).mono ?_
  rintro e w1 ⟨rfl, hb1⟩
  go_wp2_with fail
  go_ret2
  exact ⟨rfl, below2' ((Below.refl _ _).alloc (Nat.le_refl _) _) hb1⟩

/-- Whatever the value: what Put tells, and whether. -/
theorem vaput_any (a b c : Int) (l : List UInt8) (hl : l.length ≤ 4294967296) {t : List UInt8} {r : Bool} (ht : Hid (vaPut ⟨a, b, c, l⟩ = t)) (hr : Hid (vaMay ⟨a, b, c, l⟩ = r)) (w : World) :
    Calls Tryz.prog 57 #[.agg #[.int .i64 a, .int .i64 b, .int .i64 c, .string ⟨l.toArray⟩]] w fun e w' => e = .returned (.tuple #[.string ⟨t.toArray⟩, .bool r]) ∧ Below w.heap.size w w' := by
  have h1 := ht.out
  have h2 := hr.out
  unfold vaPut at h1
  cases r with
  | true => rw [if_pos h2] at h1; rw [← h1]; exact vaput_yes a b c l h2 w
  | false => rw [if_neg (by rw [h2]; decide)] at h1; rw [← h1]; exact vaput_no a b c l hl h2 w

end Go.Proofs.YthfkfonfiejbmaaGreat

end

section

/-
  LAYER 23: parts, mayOther, mayId, mayValue, May of the code; May of the document.
-/
namespace Go.Proofs.YthfkfonfiejbmaaGreat
open Go.RowKit

/-- The numbers that 'parts' tells. -/
def IsHas (h : Int) : Prop := h = 0 ∨ h = 1 ∨ h = 2 ∨ h = 6

theorem scHas_is (k : Int) : IsHas (scHas k) := by
  unfold scHas IsHas
  split
  · simp
  · split
    · simp
    · split <;> simp

set_option maxHeartbeats 800000 in
set_option maxRecDepth 100000 in
theorem parts_any (k : Int) (w : World) :
    Calls Tryz.prog 47 #[.int .i64 k] w fun e w' => e = .returned (.int .i64 (scHas k)) ∧ w = w' := by
  by_cases hk : 1 ≤ k ∧ k ≤ 8
  · have : k = 1 ∨ k = 2 ∨ k = 3 ∨ k = 4 ∨ k = 5 ∨ k = 6 ∨ k = 7 ∨ k = 8 := by omega
    clear hk
    rcases this with rfl | rfl | rfl | rfl | rfl | rfl | rfl | rfl
    all_goals
      go_enter Tryz.func47, Tryz.ntmps47
      go_wp2_with fail
      go_ret
      exact ⟨rfl, rfl⟩
  · have hs : scHas k = 0 := by unfold scHas; rw [if_neg (by omega), if_neg (by omega), if_neg (by omega)]
    have HS := Lib.hid hs
    have t1 : ((k : Int) == 1) = false := by simp; omega
    have t2 : ((k : Int) == 2) = false := by simp; omega
    have t3 : ((k : Int) == 3) = false := by simp; omega
    have t4 : ((k : Int) == 4) = false := by simp; omega
    have t5 : ((k : Int) == 5) = false := by simp; omega
    have t6 : ((k : Int) == 6) = false := by simp; omega
    have t7 : ((k : Int) == 7) = false := by simp; omega
    have t8 : ((k : Int) == 8) = false := by simp; omega
    clear hs hk
    go_enter Tryz.func47, Tryz.ntmps47
    go_wp2_with fail
    go_ret
    exact ⟨by rw [HS.out]; rfl, rfl⟩

theorem parts_eq (k : Int) {h : Int} (hh : Hid (scHas k = h)) (w : World) :
    Calls Tryz.prog 47 #[.int .i64 k] w fun e w' => e = .returned (.int .i64 h) ∧ w = w' := by
  have := parts_any k w
  rwa [hh.out] at this

theorem and_lits : bits .and .i64 0 1 = 0 ∧ bits .and .i64 1 1 = 1 ∧ bits .and .i64 2 1 = 0 ∧ bits .and .i64 6 1 = 0 ∧ bits .and .i64 0 2 = 0 ∧ bits .and .i64 1 2 = 0 ∧ bits .and .i64 2 2 = 2 ∧ bits .and .i64 6 2 = 2 ∧ bits .and .i64 0 4 = 0 ∧ bits .and .i64 1 4 = 0 ∧ bits .and .i64 2 4 = 0 ∧ bits .and .i64 6 4 = 4 := by decide

/-- What mayOther, mayId, mayValue tell, by the bits. -/
def hasOther (h : Int) (o : List UInt8) : Bool := if h = 1 then idIs o else decide (o = [])
def hasId (h id : Int) : Bool := if h = 2 ∨ h = 6 then decide (0 ≤ id ∧ id < 4) else decide (id = 0)
def hasValue (h : Int) (v : Val) : Bool := if h = 6 then vaMay v else vaEq v Val.zero

set_option maxHeartbeats 800000 in
set_option maxRecDepth 100000 in
theorem mayOther_any (h : Int) (hh : IsHas h) (o : List UInt8) (ho : o.length ≤ 4294967296) {r : Bool} (hr : Hid (hasOther h o = r)) (w : World) :
    Calls Tryz.prog 49 #[.int .i64 h, .string ⟨o.toArray⟩] w fun e w' => e = .returned (.bool r) ∧ Below w.heap.size w w' := by
  obtain ⟨a1, a2, a3, a4, _⟩ := and_lits
  have hr := hr.out
  rcases hh with rfl | rfl | rfl | rfl
  case inr.inl =>
    have HR : Hid (idIs o = r) := Lib.hid hr
    clear hr
    go_enter Tryz.func49, Tryz.ntmps49
    go_wp2_with fail
    refine (is_eq o ho HR _).mono ?_
    rintro e w1 ⟨rfl, b1⟩
    go_wp2_with fail
    go_ret
    exact ⟨rfl, b1⟩
  all_goals
    have hr2 : decide (o = []) = r := hr
    by_cases h0 : o = []
    · subst h0
      obtain rfl : true = r := by rw [← hr2]; rfl
      go_enter Tryz.func49, Tryz.ntmps49
      go_wp2_with fail
      go_ret
      exact ⟨rfl, Below.refl _ _⟩
    · obtain rfl : false = r := by rw [← hr2]; simp [h0]
      obtain ⟨b, l, rfl⟩ : ∃ b l, o = b :: l := by
        cases o with
        | nil => exact absurd rfl h0
        | cons b l => exact ⟨b, l, rfl⟩
      clear h0 hr hr2
      go_enter Tryz.func49, Tryz.ntmps49
      go_wp2_with fail
      go_ret
      exact ⟨rfl, Below.refl _ _⟩

set_option maxHeartbeats 800000 in
set_option maxRecDepth 100000 in
theorem mayId_any (h : Int) (hh : IsHas h) (id : Int) {r : Bool} (hr : Hid (hasId h id = r)) (w : World) :
    Calls Tryz.prog 50 #[.int .i64 h, .int .i64 id] w fun e w' => e = .returned (.bool r) ∧ Below w.heap.size w w' := by
  obtain ⟨_, _, _, _, a1, a2, a3, a4, _⟩ := and_lits
  have hr := hr.out
  rcases hh with rfl | rfl | rfl | rfl
  case inl | inr.inl =>
    have hr2 : (id == 0) = r := by rw [← hr]; unfold hasId; by_cases h : id = 0 <;> simp [h]
    clear hr
    go_enter Tryz.func50, Tryz.ntmps50
    go_wp2_with fail
    go_ret
    exact ⟨rfl, Below.refl _ _⟩
  all_goals
    have hr2 : decide (0 ≤ id ∧ id < 4) = r := hr
    clear hr
    by_cases h0 : 0 ≤ id
    · by_cases h4 : id < 4
      · obtain rfl : true = r := by rw [← hr2]; simp [h0, h4]
        clear hr2
        go_enter Tryz.func50, Tryz.ntmps50
        go_wp2_with fail
        go_ret
        exact ⟨rfl, Below.refl _ _⟩
      · obtain rfl : false = r := by rw [← hr2]; simp [h4]
        have h4' : decide (id < 4) = false := by rw [decide_eq_false_iff_not]; exact h4
        clear hr2 h4
        go_enter Tryz.func50, Tryz.ntmps50
        go_wp2_with fail
        go_ret
        exact ⟨rfl, Below.refl _ _⟩
    · obtain rfl : false = r := by rw [← hr2]; simp [h0]
      have h0' : decide (0 ≤ id) = false := by rw [decide_eq_false_iff_not]; exact h0
      clear hr2 h0
      go_enter Tryz.func50, Tryz.ntmps50
      go_wp2_with fail
      go_ret
      exact ⟨rfl, Below.refl _ _⟩

set_option maxHeartbeats 800000 in
set_option maxRecDepth 100000 in
theorem mayValue_any (h : Int) (hh : IsHas h) (a b c : Int) (st : List UInt8) (ho : st.length ≤ 4294967296) {r : Bool} (hr : Hid (hasValue h ⟨a, b, c, st⟩ = r)) (w : World) :
    Calls Tryz.prog 51 #[.int .i64 h, .agg #[.int .i64 a, .int .i64 b, .int .i64 c, .string ⟨st.toArray⟩]] w fun e w' => e = .returned (.bool r) ∧ Below w.heap.size w w' := by
  obtain ⟨_, _, _, _, _, _, _, _, a1, a2, a3, a4⟩ := and_lits
  have hr := hr.out
  have HB := Lib.hid (bl_newZ w (.cells #[.int .i64 a, .int .i64 b, .int .i64 c, .string ⟨st.toArray⟩] 27))
  rcases hh with rfl | rfl | rfl | rfl
  case inr.inr.inr =>
    have HR : Hid (vaMay ⟨a, b, c, st⟩ = r) := Lib.hid hr
    clear hr
    go_enter Tryz.func51, Tryz.ntmps51
    go_wp2_with fail
    refine (may_eq a b c st ho HR _).mono ?_
    rintro e w1 ⟨rfl, b1⟩
    go_wp2_with fail
    go_ret
    exact ⟨rfl, below2Z HB.out b1⟩
  all_goals
    have HR : Hid (vaEq ⟨a, b, c, st⟩ Val.zero = r) := Lib.hid hr
    have heq : ∀ w, (binOp .eql 27 (.agg #[.int .i64 a, .int .i64 b, .int .i64 c, .string ⟨st.toArray⟩]) (.agg #[.int .i64 0, .int .i64 0, .int .i64 0, .string ⟨#[]⟩])).run Tryz.prog w = .ok (.bool r) w := fun w => by rw [← HR.out]; exact val_eql a b c 0 0 0 st [] w
    have hgd : Tryz.prog.eqGuardType Tryz.prog.depth 27 = false := by kernel_rfl
    clear hr
    go_enter Tryz.func51, Tryz.ntmps51
    go_wp2_with fail
    go_ret
    exact ⟨rfl, HB.out⟩

theorem scMay_has (k : Int) (u o st : List UInt8) (id a b c : Int) : scMay ⟨k, u, o, id, ⟨a, b, c, st⟩⟩ = (decide (¬ scHas k = 0) && (idIs u && (hasOther (scHas k) o && (hasId (scHas k) id && hasValue (scHas k) ⟨a, b, c, st⟩)))) := by
  unfold scMay oOk iOk vOk hasOther hasId hasValue scHas
  simp only
  by_cases h6 : 1 ≤ k ∧ k ≤ 6
  · have h8 : 1 ≤ k ∧ k ≤ 8 := by omega
    have h7 : ¬ k = 7 := by omega
    have h88 : ¬ k = 8 := by omega
    simp [h6, h8, h7, h88]
  · by_cases h7 : k = 7
    · subst h7; simp
    · by_cases h8 : k = 8
      · subst h8; simp
      · have h9 : ¬ (1 ≤ k ∧ k ≤ 8) := by omega
        have hz : (if 1 ≤ k ∧ k ≤ 6 then (1 : Int) else if k = 7 then 6 else if k = 8 then 2 else 0) = 0 := by rw [if_neg h6, if_neg h7, if_neg h8]
        rw [hz, decide_eq_false h9]
        simp

set_option maxHeartbeats 1600000 in
set_option maxRecDepth 100000 in
theorem scmay_any (k : Int) (u o st : List UInt8) (id a b c : Int) (hs : evShort ⟨k, u, o, id, ⟨a, b, c, st⟩⟩) {r : Bool} (hr : Hid (scMay ⟨k, u, o, id, ⟨a, b, c, st⟩⟩ = r)) (w : World) :
    Calls Tryz.prog 21 #[.agg #[.int .i64 k, .string ⟨u.toArray⟩, .string ⟨o.toArray⟩, .int .i64 id, .int .i64 a, .int .i64 b, .int .i64 c, .string ⟨st.toArray⟩]] w fun e w' => e = .returned (.bool r) ∧ Below w.heap.size w w' := by
  obtain ⟨s1, s2, s3⟩ := hs
  simp only at s1 s2 s3
  have hr := hr.out
  rw [scMay_has] at hr
  have hh := scHas_is k
  have HB := Lib.hid (bl_newZ w (.cells #[.int .i64 k, .string ⟨u.toArray⟩, .string ⟨o.toArray⟩, .int .i64 id, .int .i64 a, .int .i64 b, .int .i64 c, .string ⟨st.toArray⟩] 29))
  obtain ⟨h, hk⟩ : ∃ h, scHas k = h := ⟨_, rfl⟩
  rw [hk] at hr hh
  have HK := Lib.hid hk
  clear hk
  by_cases h0 : h = 0
  · subst h0
    obtain rfl : false = r := by rw [← hr]; rfl
    clear hr hh
    go_enter Tryz.func21, Tryz.ntmps21
    go_wp2_with fail
    refine (parts_eq k HK _).mono ?_
    rintro e w1 ⟨rfl, rfl⟩
    go_wp2_with fail
    go_ret
    exact ⟨rfl, HB.out⟩
  have t0 : ((h : Int) != 0) = true := by simp [h0]
  rw [decide_eq_true h0, Bool.true_and] at hr
  obtain ⟨qu, hqu⟩ : ∃ q, idIs u = q := ⟨_, rfl⟩
  obtain ⟨qo, hqo⟩ : ∃ q, hasOther h o = q := ⟨_, rfl⟩
  obtain ⟨qi, hqi⟩ : ∃ q, hasId h id = q := ⟨_, rfl⟩
  obtain ⟨qv, hqv⟩ : ∃ q, hasValue h ⟨a, b, c, st⟩ = q := ⟨_, rfl⟩
  rw [hqu, hqo, hqi, hqv] at hr
  have HU := Lib.hid hqu
  have HO := Lib.hid hqo
  have HI := Lib.hid hqi
  have HV := Lib.hid hqv
  have HH := Lib.hid hh
  clear hqu hqo hqi hqv hh h0
  cases qu with
  | false =>
    obtain rfl : false = r := by rw [← hr]; rfl
    clear hr
    go_enter Tryz.func21, Tryz.ntmps21
    go_wp2_with fail
    refine (parts_eq k HK _).mono ?_
    rintro e w1 ⟨rfl, rfl⟩
    go_wp2_with fail
    refine (is_eq u s1 HU _).mono ?_
    rintro e w1 ⟨rfl, b1⟩
    have HB1 := Lib.hid (below2Z HB.out b1)
    clear b1
    go_wp2_with fail
    go_ret
    exact ⟨rfl, HB1.out⟩
  | true =>
  rw [Bool.true_and] at hr
  cases qo with
  | false =>
    obtain rfl : false = r := by rw [← hr]; rfl
    clear hr
    go_enter Tryz.func21, Tryz.ntmps21
    go_wp2_with fail
    refine (parts_eq k HK _).mono ?_
    rintro e w1 ⟨rfl, rfl⟩
    have HC := Lib.hid (cellsAt_made (w := w) (cs := #[.int .i64 k, .string ⟨u.toArray⟩, .string ⟨o.toArray⟩, .int .i64 id, .int .i64 a, .int .i64 b, .int .i64 c, .string ⟨st.toArray⟩]) (vs := evVals ⟨k, u, o, id, ⟨a, b, c, st⟩⟩) rfl 29 rfl)
    go_wp2_with fail
    refine (is_eq u s1 HU _).mono ?_
    rintro e w1 ⟨rfl, b1⟩
    have HB1 := Lib.hid (below2Z HB.out b1)
    obtain ⟨m0, m1, m2, m3, m4, m5, m6, m7⟩ := eightAt (HC.out.later b1)
    clear b1
    go_wp2_with fail
    refine (mayOther_any h HH.out o s2 HO _).mono ?_
    rintro e w2 ⟨rfl, b2⟩
    have HB2 := Lib.hid (below2Z HB1.out b2)
    clear b2
    go_wp2_with fail
    go_ret
    exact ⟨rfl, HB2.out⟩
  | true =>
  rw [Bool.true_and] at hr
  have HC := Lib.hid (cellsAt_made (w := w) (cs := #[.int .i64 k, .string ⟨u.toArray⟩, .string ⟨o.toArray⟩, .int .i64 id, .int .i64 a, .int .i64 b, .int .i64 c, .string ⟨st.toArray⟩]) (vs := evVals ⟨k, u, o, id, ⟨a, b, c, st⟩⟩) rfl 29 rfl)
  cases qi with
  | false =>
    obtain rfl : false = r := by rw [← hr]; rfl
    clear hr
    go_enter Tryz.func21, Tryz.ntmps21
    go_wp2_with fail
    refine (parts_eq k HK _).mono ?_
    rintro e w1 ⟨rfl, rfl⟩
    go_wp2_with fail
    refine (is_eq u s1 HU _).mono ?_
    rintro e w1 ⟨rfl, b1⟩
    have HB1 := Lib.hid (below2Z HB.out b1)
    have HC1 := Lib.hid (HC.out.later b1)
    obtain ⟨m0, m1, m2, m3, m4, m5, m6, m7⟩ := eightAt HC1.out
    clear b1
    go_wp2_with fail
    refine (mayOther_any h HH.out o s2 HO _).mono ?_
    rintro e w2 ⟨rfl, b2⟩
    have HB2 := Lib.hid (below2Z HB1.out b2)
    have HC2 := Lib.hid (HC1.out.later b2)
    clear b2 m0 m1 m2 m3 m4 m5 m6 m7
    obtain ⟨m0, m1, m2, m3, m4, m5, m6, m7⟩ := eightAt HC2.out
    go_wp2_with fail
    refine (mayId_any h HH.out id HI _).mono ?_
    rintro e w3 ⟨rfl, b3⟩
    have HB3 := Lib.hid (below2Z HB2.out b3)
    clear b3
    go_wp2_with fail
    go_ret
    exact ⟨rfl, HB3.out⟩
  | true =>
    rw [Bool.true_and] at hr
    subst hr
    go_enter Tryz.func21, Tryz.ntmps21
    go_wp2_with fail
    refine (parts_eq k HK _).mono ?_
    rintro e w1 ⟨rfl, rfl⟩
    go_wp2_with fail
    refine (is_eq u s1 HU _).mono ?_
    rintro e w1 ⟨rfl, b1⟩
    have HB1 := Lib.hid (below2Z HB.out b1)
    have HC1 := Lib.hid (HC.out.later b1)
    obtain ⟨m0, m1, m2, m3, m4, m5, m6, m7⟩ := eightAt HC1.out
    clear b1
    go_wp2_with fail
    refine (mayOther_any h HH.out o s2 HO _).mono ?_
    rintro e w2 ⟨rfl, b2⟩
    have HB2 := Lib.hid (below2Z HB1.out b2)
    have HC2 := Lib.hid (HC1.out.later b2)
    clear b2 m0 m1 m2 m3 m4 m5 m6 m7
    obtain ⟨m0, m1, m2, m3, m4, m5, m6, m7⟩ := eightAt HC2.out
    go_wp2_with fail
    refine (mayId_any h HH.out id HI _).mono ?_
    rintro e w3 ⟨rfl, b3⟩
    have HB3 := Lib.hid (below2Z HB2.out b3)
    have HC3 := Lib.hid (HC2.out.later b3)
    clear b3 m0 m1 m2 m3 m4 m5 m6 m7
    obtain ⟨m0, m1, m2, m3, m4, m5, m6, m7⟩ := eightAt HC3.out
    go_wp2_with fail
    refine (mayValue_any h HH.out a b c st s3 HV _).mono ?_
    rintro e w4 ⟨rfl, b4⟩
    have HB4 := Lib.hid (below2Z HB3.out b4)
    clear b4
    go_wp2_with fail
    go_ret
    exact ⟨rfl, HB4.out⟩

end Go.Proofs.YthfkfonfiejbmaaGreat

end

section

/-
  THE CONTRACTS OF crc.Step, low AND OF THE DOCUMENT'S ANSWER TO Step.
-/
namespace Go.Proofs.YthfkfonfiejbmaaGreat
open Go.RowKit

theorem and1_u32 (y : Nat) (h : y < 4294967296) : bits .and .u32 (y : Int) 1 = ((y % 2 : Nat) : Int) := by
  rw [show (1 : Int) = ((1 : Nat) : Int) from rfl, u32_and_nat _ _ h (by omega), nat_mask1]

theorem xor_poly (y : Nat) (h : y < 4294967296) : bits .xor .u32 ((y : Int) / 2) 3988292384 = ((y / 2 ^^^ 3988292384 : Nat) : Int) := by
  rw [show (3988292384 : Int) = ((3988292384 : Nat) : Int) from rfl, show (y : Int) / 2 = ((y / 2 : Nat) : Int) by omega, u32_xor_nat _ _ (by omega) (by omega)]

theorem xor_u32 (a b : Nat) (h : a < 4294967296) (h' : b < 4294967296) : bits .xor .u32 (a : Int) (b : Int) = ((a ^^^ b : Nat) : Int) := u32_xor_nat a b h h'

set_option maxHeartbeats 400000 in
set_option maxRecDepth 100000 in
theorem step_any (c b : Nat) (hc : c < 4294967296) (hb : b < 256) (w : World) :
    Calls Tryz.prog 108 #[.int .u32 c, .int .u8 b] w fun e w' => e = .returned (.int .u32 (cstep c b)) ∧ w = w' := by
  have hx := xor_u32 c b hc (by omega)
  have hxl : c ^^^ b < 4294967296 := Nat.xor_lt_two_pow (n := 32) hc (by omega)
  have HS : Hid (cN 8 (c ^^^ b) = cstep c b) := rfl
  obtain ⟨x, hx'⟩ : ∃ x, x = c ^^^ b := ⟨_, rfl⟩
  rw [← hx'] at hx hxl HS
  clear hx'
  go_enter Tryz.func108, Tryz.ntmps108
  go_wp2
  go_loop [5, 11] (fun v i => ∃ k y : Nat, k ≤ 8 ∧ y < 4294967296 ∧ i = .int .i64 k ∧ v = .int .u32 y ∧ Hid (cN (8 - k) y = cstep c b)) (fun _ i => 8 - (intOf i).toNat)
  case atStart => exact ⟨0, x, by omega, hxl, rfl, rfl, HS⟩
  case round =>
    obtain ⟨k, y, hk, hy, rfl, rfl, HY⟩ := hrel
    by_cases hlt : k < 8
    · have HN : Hid (cN (8 - (k + 1)) (c1 y) = cstep c b) := by
        show _ = _
        rw [← HY.out, show 8 - k = (8 - (k + 1)) + 1 by omega]
        rfl
      have t1 := and1_u32 y hy
      have t2 := xor_poly y hy
      have hcl := c1_lt hy
      by_cases hodd : y % 2 = 1
      · have HC : Hid (c1 y = y / 2 ^^^ 3988292384) := by show _ = _; unfold c1; rw [if_pos hodd]
        rw [hodd] at t1
        rw [← HC.out] at t2
        clear hodd
        go_wp2
        go_round
        case rel => exact ⟨k + 1, c1 y, by omega, hcl, by go_num, by go_num, HN⟩
        case measure => simp [intOf]; omega
      · have HC : Hid (c1 y = y / 2) := by show _ = _; unfold c1; rw [if_neg hodd]
        rw [show y % 2 = 0 by omega] at t1
        clear hodd t2
        go_wp2
        go_round
        case rel => exact ⟨k + 1, c1 y, by omega, hcl, by go_num, by rw [HC.out]; go_num, HN⟩
        case measure => simp [intOf]; omega
    · obtain rfl : k = 8 := by omega
      go_wp2
      go_ret
      exact ⟨ret_int (by rw [← HY.out]; rfl), rfl⟩

set_option maxHeartbeats 400000 in
set_option maxRecDepth 100000 in
theorem rstep_any (c b : Nat) (hc : c < 4294967296) (hb : b < 256) (w : World) :
    Calls Tryz.prog 78 #[.int .u32 c, .int .u8 b] w fun e w' => e = .returned (.int .u32 (cstep c b)) ∧ w = w' := by
  have hx := xor_u32 c b hc (by omega)
  have hxl : c ^^^ b < 4294967296 := Nat.xor_lt_two_pow (n := 32) hc (by omega)
  have HS : Hid (cN 8 (c ^^^ b) = cstep c b) := rfl
  obtain ⟨x, hx'⟩ : ∃ x, x = c ^^^ b := ⟨_, rfl⟩
  rw [← hx'] at hx hxl HS
  clear hx'
  go_enter Tryz.func78, Tryz.ntmps78
  go_wp2
  go_loop [5, 6] (fun v i => ∃ k y : Nat, k ≤ 8 ∧ y < 4294967296 ∧ i = .int .i64 k ∧ v = .int .u32 y ∧ Hid (cN (8 - k) y = cstep c b)) (fun _ i => 8 - (intOf i).toNat)
  case atStart => exact ⟨0, x, by omega, hxl, rfl, rfl, HS⟩
  case round =>
    obtain ⟨k, y, hk, hy, rfl, rfl, HY⟩ := hrel
    by_cases hlt : k < 8
    · have HN : Hid (cN (8 - (k + 1)) (c1 y) = cstep c b) := by
        show _ = _
        rw [← HY.out, show 8 - k = (8 - (k + 1)) + 1 by omega]
        rfl
      have t2 := xor_poly y hy
      have hcl := c1_lt hy
      by_cases hodd : y % 2 = 1
      · have HC : Hid (c1 y = y / 2 ^^^ 3988292384) := by show _ = _; unfold c1; rw [if_pos hodd]
        have t1 : ((y : Int) % 2 == 1) = true := by simp; omega
        rw [← HC.out] at t2
        clear hodd
        go_wp2
        go_round
        case rel => exact ⟨k + 1, c1 y, by omega, hcl, by go_num, by go_num, HN⟩
        case measure => simp [intOf]; omega
      · have HC : Hid (c1 y = y / 2) := by show _ = _; unfold c1; rw [if_neg hodd]
        have t1 : ((y : Int) % 2 == 1) = false := by simp; omega
        clear hodd t2
        go_wp2
        go_round
        case rel => exact ⟨k + 1, c1 y, by omega, hcl, by go_num, by rw [HC.out]; go_num, HN⟩
        case measure => simp [intOf]; omega
    · obtain rfl : k = 8 := by omega
      go_wp2
      go_ret
      exact ⟨ret_int (by rw [← HY.out]; rfl), rfl⟩

end Go.Proofs.YthfkfonfiejbmaaGreat

end
