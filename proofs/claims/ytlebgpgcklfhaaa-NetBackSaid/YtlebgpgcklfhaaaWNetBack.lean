/-
  THE WALK OF NetBack.
-/
import Derived.Test.YtlebgpgcklfhaaaNetW
import Derived.Test.YtlebgpgcklfhaaaWNetTwo
namespace Go.Proofs.Ytlebgpgcklfhaaa
open Go.RowKit

/-- Cells that a drawn region reads. -/
def heldC (X : World) (cs : List (Nat × Nat × Value)) : Prop := ∀ p ∈ cs, X.cell? ⟨p.1, p.2.1, none⟩ = some p.2.2

theorem heldC_nil (X : World) : heldC X [] := fun p h => by cases h
theorem heldC_cons {X : World} {b o : Nat} {v : Value} {cs : List (Nat × Nat × Value)} (h : X.cell? ⟨b, o, none⟩ = some v) (ht : heldC X cs) : heldC X ((b, o, v) :: cs) := fun p hp => by
  rcases List.mem_cons.1 hp with rfl | hp
  · exact h
  · exact ht p hp
theorem heldC_up {W X : World} {cs : List (Nat × Nat × Value)} (hb : Below W.heap.size W X) (h : heldC W cs) : heldC X cs := fun p hp => cellLaterZ (h p hp) hb
theorem heldC_get {X : World} {cs : List (Nat × Nat × Value)} (h : heldC X cs) {b o : Nat} {v : Value} (hm : (b, o, v) ∈ cs) : X.cell? ⟨b, o, none⟩ = some v := h _ hm

theorem cells_later {W X : World} {b o : Nat} {ls : List (List UInt8)} (h : ∀ k, k < ls.length → W.cell? ⟨b, o + k, none⟩ = some (encS (ls.getD k []))) (hb : Below W.heap.size W X) : ∀ k, k < ls.length → X.cell? ⟨b, o + k, none⟩ = some (encS (ls.getD k [])) := fun k hk => cellLaterZ (h k hk) hb

theorem set_getD {ls : List (List UInt8)} {k : Nat} (hk : k < ls.length) (s : List UInt8) : (ls.set k s).getD k [] = s := by
  rw [List.getD_eq_getElem?_getD, List.getElem?_set_self hk]
  rfl

theorem set_other {ls : List (List UInt8)} {k j : Nat} (h : ¬ j = k) (s : List UInt8) : (ls.set k s).getD j [] = ls.getD j [] := by
  rw [List.getD_eq_getElem?_getD, List.getElem?_set_ne (fun e => h e.symm), ← List.getD_eq_getElem?_getD]

theorem set_self {ls : List (List UInt8)} {k : Nat} (hk : k < ls.length) {y : List UInt8} (h : ls.getD k [] = y) : ls.set k y = ls := by
  apply List.ext_getElem?
  intro n
  by_cases hn : n = k
  · subst hn
    rw [List.getElem?_set_self hk, ← h, List.getD_eq_getElem?_getD, List.getElem?_eq_getElem hk]
    rfl
  · rw [List.getElem?_set_ne (fun e => hn e.symm)]

theorem xor_back (b : UInt8) {m : Nat} (hm : m < 256) : u8of ((u8of (b.toNat ^^^ m)).toNat ^^^ m) = b := by
  have h1 : b.toNat ^^^ m < 256 := Nat.xor_lt_two_pow (n := 8) b.toNat_lt hm
  rw [u8of_toNat h1, Nat.xor_assoc, Nat.xor_self, Nat.xor_zero]
  exact UInt8.toNat_inj.1 (u8of_toNat b.toNat_lt)

theorem xor_unlike (b : UInt8) {m : Nat} (h0 : 0 < m) (hm : m < 256) : (u8of (b.toNat ^^^ m)).toNat ≠ b.toNat := by
  have h1 : b.toNat ^^^ m < 256 := Nat.xor_lt_two_pow (n := 8) b.toNat_lt hm
  rw [u8of_toNat h1]
  intro e
  have : b.toNat ^^^ (b.toNat ^^^ m) = b.toNat ^^^ b.toNat := by rw [e]
  rw [← Nat.xor_assoc, Nat.xor_self, Nat.zero_xor] at this
  omega

theorem spoil_back (y : List UInt8) (q m : Nat) (hq : q < y.length) (hm : m < 256) : spoil (spoil y q m) q m = y := by
  unfold spoil
  have h1 : (y.set q (u8of ((y.getD q 0).toNat ^^^ m))).getD q 0 = u8of ((y.getD q 0).toNat ^^^ m) := by
    rw [List.getD_eq_getElem?_getD, List.getElem?_set_self hq]
    rfl
  rw [h1, List.set_set, xor_back _ hm]
  apply List.ext_getElem?
  intro n
  by_cases hn : n = q
  · subst hn
    rw [List.getElem?_set_self hq, List.getD_eq_getElem?_getD, List.getElem?_eq_getElem hq]
    rfl
  · rw [List.getElem?_set_ne (fun e => hn e.symm)]

theorem spoil_byte {y s : List UInt8} {q m j : Nat} {g d : UInt8} (hq : q < y.length) (h0 : 0 < m) (hm : m < 256) (hs : spoil y q m = s) (hg : y[j]? = some g) (hd : s[j]? = some d) : (j = q → d.toNat ≠ g.toNat) ∧ (¬ j = q → d.toNat = g.toNat) := by
  subst hs
  unfold spoil at hd
  constructor
  · rintro rfl
    rw [List.getElem?_set_self hq, List.getD_eq_getElem?_getD, hg] at hd
    obtain rfl := Option.some.inj hd
    exact xor_unlike g h0 hm
  · intro hn
    rw [List.getElem?_set_ne (fun e => hn e.symm), hg] at hd
    obtain rfl := Option.some.inj hd
    rfl

set_option maxHeartbeats 3200000 in
set_option maxRecDepth 1000000 in
theorem nb {w : World} {v : Value} {ls : List (List UInt8)} (h : Texts w v ls) (i n0 n1 : Int) :
    Calls Try.prog 5 #[v, .int .i64 i, .agg #[.int .i64 n0, .int .i64 n1]] w fun e w' => e = .returned (.bool true) ∧ Below w.heap.size w w' := by
  have b0 := bl_newZ w (.cells #[.int .i64 n0, .int .i64 n1] 43)
  have HB := Lib.hid b0
  have H := Lib.hid (h.later b0)
  have NB := newQ w (.cells #[.int .i64 n0, .int .i64 n1] 43)
  replace NB := Lib.hid NB
  clear b0
  obtain ⟨a, cap, rfl, hc1, hc2, _, _⟩ := h
  unfold maxLen at hc2
  obtain ⟨f1, hf1⟩ : ∃ r, fewN 30 100 ls = r := ⟨_, rfl⟩
  have F1 := Lib.hid hf1
  clear hf1
  obtain ⟨⟨NBc0, NBc1⟩, ⟨NBf0, NBf1⟩⟩ := blk2 NB.out
  go_enter Try.func5, Try.ntmps5
  go_wp2_with fail
  clear NBc0 NBc1 NBf0 NBf1
  refine (fewN_eq H.out 30 100 F1).mono ?_
  rintro e w2 ⟨rfl, b2⟩
  replace NB := Lib.hid (upQ NB.out b2)
  replace H := Lib.hid (H.out.later b2)
  replace HB := Lib.hid (below2Z HB.out b2)
  clear b2
  cases f1 with
  | false =>
    go_wp2_with fail
    refine (live22 _).mono ?_
    rintro e w103 ⟨rfl, b103⟩
    replace HB := Lib.hid (below2Z HB.out b103)
    clear b103
    go_wp2_with fail
    go_ret
    exact ⟨rfl, HB.out⟩
  | true =>
    obtain ⟨hl, hx⟩ := few_len F1
    have HX : Hid (∀ t ∈ ls, t.length ≤ 100) := Lib.hid hx
    have HX6 : Hid (∀ t ∈ ls, t.length ≤ 1000000) := Lib.hid (fun t ht => Nat.le_trans (hx t ht) (by decide))
    clear hx F1
    by_cases hi : ntIn ls.length i
    case neg =>
      have HQ : Hid (ntCor ls i n0 n1 = (ls, 6)) := Lib.hid (ntCor_no hi)
      clear hi
      obtain ⟨⟨NBc0, NBc1⟩, ⟨NBf0, NBf1⟩⟩ := blk2 NB.out
      go_wp2_with fail
      clear NBc0 NBc1 NBf0 NBf1
      refine (ncor_any H.out (by omega) HX6.out i n0 n1 HQ).mono ?_
      rintro e w103 ⟨uU, rfl, huU, b103⟩
      replace NB := Lib.hid (upQ NB.out b103)
      replace H := Lib.hid (H.out.later b103)
      replace HB := Lib.hid (below2Z HB.out b103)
      have U := Lib.hid huU
      clear huU
      clear b103
      go_wp2_with fail
      refine (same_yes U.out H.out (by omega)).mono ?_
      rintro e w104 ⟨rfl, b104⟩
      replace NB := Lib.hid (upQ NB.out b104)
      replace H := Lib.hid (H.out.later b104)
      replace U := Lib.hid (U.out.later b104)
      replace HB := Lib.hid (below2Z HB.out b104)
      clear b104
      go_wp2_with fail
      refine (live22 _).mono ?_
      rintro e w105 ⟨rfl, b105⟩
      replace NB := Lib.hid (upQ NB.out b105)
      replace H := Lib.hid (H.out.later b105)
      replace U := Lib.hid (U.out.later b105)
      replace HB := Lib.hid (below2Z HB.out b105)
      clear b105
      go_wp2_with fail
      go_ret
      exact ⟨rfl, HB.out⟩
    obtain ⟨k, rfl, hk⟩ := in_nat hi
    by_cases hb : ntBad (ls.getD k []) n0 n1
    case pos =>
      have HQ : Hid (ntCor ls (k : Int) n0 n1 = (ls, 1)) := Lib.hid (ntCor_bad hk hb)
      clear hb hi
      obtain ⟨⟨NBc0, NBc1⟩, ⟨NBf0, NBf1⟩⟩ := blk2 NB.out
      go_wp2_with fail
      clear NBc0 NBc1 NBf0 NBf1
      refine (ncor_any H.out (by omega) HX6.out (k : Int) n0 n1 HQ).mono ?_
      rintro e w103 ⟨uU, rfl, huU, b103⟩
      replace NB := Lib.hid (upQ NB.out b103)
      replace H := Lib.hid (H.out.later b103)
      replace HB := Lib.hid (below2Z HB.out b103)
      have U := Lib.hid huU
      clear huU
      clear b103
      go_wp2_with fail
      refine (same_yes U.out H.out (by omega)).mono ?_
      rintro e w104 ⟨rfl, b104⟩
      replace NB := Lib.hid (upQ NB.out b104)
      replace H := Lib.hid (H.out.later b104)
      replace U := Lib.hid (U.out.later b104)
      replace HB := Lib.hid (below2Z HB.out b104)
      clear b104
      go_wp2_with fail
      refine (live22 _).mono ?_
      rintro e w105 ⟨rfl, b105⟩
      replace NB := Lib.hid (upQ NB.out b105)
      replace H := Lib.hid (H.out.later b105)
      replace U := Lib.hid (U.out.later b105)
      replace HB := Lib.hid (below2Z HB.out b105)
      clear b105
      go_wp2_with fail
      go_ret
      exact ⟨rfl, HB.out⟩
    have hb2 := hb
    unfold ntBad at hb2
    obtain ⟨p, rfl⟩ := Int.eq_ofNat_of_zero_le (show 0 ≤ n0 by omega)
    obtain ⟨m, rfl⟩ := Int.eq_ofNat_of_zero_le (show 0 ≤ n1 by omega)
    obtain ⟨y, hy⟩ : ∃ y, ls.getD k [] = y := ⟨_, rfl⟩
    have hyl : y.length ≤ 100 := by rw [← hy]; exact HX.out _ (by rw [List.getD_eq_getElem?_getD, List.getElem?_eq_getElem hk]; exact List.getElem_mem hk)
    rw [hy] at hb2
    have hy0 : 0 < y.length := List.length_pos_iff.2 (fun e => hb2 (.inl e))
    have hm0 : 0 < m := by omega
    have hm1 : m < 256 := by omega
    obtain ⟨q, hq⟩ : ∃ q, p % y.length = q := ⟨_, rfl⟩
    have hql : q < y.length := by rw [← hq]; exact Nat.mod_lt _ hy0
    obtain ⟨s, hs⟩ : ∃ s, spoil y q m = s := ⟨_, rfl⟩
    have hsl : s.length = y.length := by rw [← hs]; exact spoil_len _ _ _
    have hback : spoil s q m = y := by rw [← hs]; exact spoil_back y q m hql hm1
    have HS := Lib.hid hs
    have HY := Lib.hid hy
    have HBK := Lib.hid hback
    have HQE := Lib.hid hq
    obtain ⟨ms, hms⟩ : ∃ ms, ls.set k s = ms := ⟨_, rfl⟩
    have hmsl : ms.length = ls.length := by rw [← hms, List.length_set]
    have HMS := Lib.hid hms
    have HML := Lib.hid hmsl
    have HSL := Lib.hid hsl
    have hgk : ms.getD k [] = s := by rw [← hms]; exact set_getD hk s
    have HGK := Lib.hid hgk
    have hbk : ms.set k (spoil s q m) = ls := by rw [hback, ← hms, List.set_set]; exact set_self hk hy
    have HBB := Lib.hid hbk
    clear hb hb2 hi hy hq hs hsl hback hms hmsl hgk hbk
    obtain ⟨⟨NBc0, NBc1⟩, ⟨NBf0, NBf1⟩⟩ := blk2 NB.out
    go_wp2_with fail
    clear NBc0 NBc1 NBf0 NBf1
    refine (ncor_yes H.out (by omega) k hk p m HY.out hy0 (by omega) hm0 hm1).mono ?_
    rintro e w3 ⟨uU, rfl, hU, b3⟩
    replace NB := Lib.hid (upQ NB.out b3)
    replace H := Lib.hid (H.out.later b3)
    replace HB := Lib.hid (below2Z HB.out b3)
    rw [HQE.out, HS.out, HMS.out] at hU
    have U := Lib.hid hU
    clear hU
    clear b3
    obtain ⟨⟨NBc0, NBc1⟩, ⟨NBf0, NBf1⟩⟩ := blk2 NB.out
    go_wp2_with fail
    clear NBc0 NBc1 NBf0 NBf1
    refine (ncor_yes U.out (by rw [HML.out]; omega) k (by rw [HML.out]; exact hk) p m HGK.out (by rw [HSL.out]; exact hy0) (by rw [HSL.out]; omega) hm0 hm1).mono ?_
    rintro e w4 ⟨uV, rfl, hV, b4⟩
    replace NB := Lib.hid (upQ NB.out b4)
    replace H := Lib.hid (H.out.later b4)
    replace U := Lib.hid (U.out.later b4)
    replace HB := Lib.hid (below2Z HB.out b4)
    rw [HSL.out, HQE.out, HBB.out] at hV
    have V := Lib.hid hV
    clear hV
    clear b4
    clear NB
    obtain ⟨b1, o1, rfl, hcl⟩ := texts_all H.out (by omega)
    have HCL := Lib.hid hcl
    obtain ⟨ua, uc, eU⟩ : ∃ ua uc, uU = .slice ua ls.length uc := by obtain ⟨ua, uc, e, _⟩ := U.out; exact ⟨ua, uc, by rw [e, HML.out]⟩
    subst eU
    obtain ⟨b2, o2, rfl, hcm⟩ := texts_all U.out (by rw [HML.out]; omega)
    have HCM := Lib.hid hcm
    clear hcl hcm
    have C1 : Hid (w4.cell? ⟨b1, o1 + k, none⟩ = some (.string ⟨y.toArray⟩)) := Lib.hid (by have := HCL.out k hk; rw [HY.out] at this; exact this)
    have C2 : Hid (w4.cell? ⟨b2, o2 + k, none⟩ = some (.string ⟨s.toArray⟩)) := Lib.hid (by have := HCM.out k (by rw [HML.out]; exact hk); rw [HGK.out] at this; exact this)
    have t1 : decide ((k : Int) < 0) = false := by simp
    have t2 : decide ((ls.length : Int) ≤ (k : Int)) = false := by simp; omega
    have t3 : ((s.length : Int) != (y.length : Int)) = false := by rw [HSL.out]; simp
    have t4 : ((ls.length : Int) != (ls.length : Int)) = false := by simp
    have t5 : decide (ls.length ≤ k) = false := by simp; omega
    have t6 : (s.length != y.length) = false := by rw [HSL.out]; simp
    have hs0 := HSL.out
    clear hs0
    go_upto_region 7 with fail
    obtain ⟨BS, hBS⟩ : ∃ BS : List (Nat × List Value), BS = [] := ⟨_, rfl⟩
    obtain ⟨CS, hCS⟩ : ∃ CS : List (Nat × Nat × Value), CS = [(b1, o1 + k, .string ⟨y.toArray⟩), (b2, o2 + k, .string ⟨s.toArray⟩)] := ⟨_, rfl⟩
    have D0 := Lib.hid (show heldC w4 CS from by rw [hCS]; exact heldC_cons (C1.out) (heldC_cons (C2.out) (heldC_nil _)))
    have hq0 : ∀ X, heldC X CS → X.cell? ⟨b1, o1 + k, none⟩ = some (.string ⟨y.toArray⟩) := fun X hx => heldC_get hx (by rw [hCS]; simp)
    have hq1 : ∀ X, heldC X CS → X.cell? ⟨b2, o2 + k, none⟩ = some (.string ⟨s.toArray⟩) := fun X hx => heldC_get hx (by rw [hCS]; simp)
    clear hCS
    clear hBS
    have K0 : Hid (Below w4.heap.size w4 w4.drew) := Lib.hid (Below.refl _ _).drew
    refine wp_region_held_drew (S := (fun X => heldC X CS)) (by kernel_rfl) ?_ (fun hHeld => ?_)
    · exact heldC_up K0.out D0.out
    generalize w4.drew = z0 at K0 hHeld ⊢
    refine wpAnyH_take (i := 0) (oi := { dst := some 46, op := Op.move (Operand.tmp 10), type := 31, pos := "law.go:61", after := #[], guard := none }) (v := ?_) rfl (by as_aux_lemma => kernel_rfl) (by as_aux_lemma => kernel_rfl) (by as_aux_lemma => kernel_rfl) (fun _ _ _ h => h) (Or.inl ⟨by rfl, ?_⟩) (by assumption) ?_
    rotate_left
    · intro w' hSw
      try dsimp only at hSw
      go_simp
      try with_reducible rfl
    try simp only [Act.put, List.setIfInBounds_toArray, List.set_cons_zero, List.set_cons_succ]
    refine wpAnyH_take (i := 1) (oi := { dst := some 47, op := Op.binOp BinOp.neq 31 (Operand.tmp 46) (Operand.const (Value.int IntKind.i64 0)) 31, type := 4, pos := "law.go:61", after := #[{ on := 0, ground := Ground.data }], guard := none }) (v := ?_) rfl (by as_aux_lemma => kernel_rfl) (by as_aux_lemma => kernel_rfl) (by as_aux_lemma => kernel_rfl) (fun _ _ _ h => h) (Or.inl ⟨by rfl, ?_⟩) (by assumption) ?_
    rotate_left
    · intro w' hSw
      try dsimp only at hSw
      go_simp
      try with_reducible rfl
    try simp only [Act.put, List.setIfInBounds_toArray, List.set_cons_zero, List.set_cons_succ]
    refine wpAnyH_take (i := 2) (oi := { dst := some 48, op := Op.move (Operand.tmp 47), type := 4, pos := "law.go:61", after := #[{ on := 1, ground := Ground.data }], guard := none }) (v := ?_) rfl (by as_aux_lemma => kernel_rfl) (by as_aux_lemma => kernel_rfl) (by as_aux_lemma => kernel_rfl) (fun _ _ _ h => h) (Or.inl ⟨by rfl, ?_⟩) (by assumption) ?_
    rotate_left
    · intro w' hSw
      try dsimp only at hSw
      go_simp
      try with_reducible rfl
    try simp only [Act.put, List.setIfInBounds_toArray, List.set_cons_zero, List.set_cons_succ]
    refine wpAnyH_take (i := 3) (oi := { dst := some 49, op := Op.move (Operand.tmp 9), type := 22, pos := "law.go:61", after := #[{ on := 2, ground := Ground.guard }], guard := some (2, false) }) (v := ?_) rfl (by as_aux_lemma => kernel_rfl) (by as_aux_lemma => kernel_rfl) (by as_aux_lemma => kernel_rfl) (fun _ _ _ h => h) (Or.inl ⟨by rfl, ?_⟩) (by assumption) ?_
    rotate_left
    · intro w' hSw
      try dsimp only at hSw
      go_simp
      try with_reducible rfl
    try simp only [Act.put, List.setIfInBounds_toArray, List.set_cons_zero, List.set_cons_succ]
    refine wpAnyH_take (i := 4) (oi := { dst := some 50, op := Op.move (Operand.tmp 0), type := 22, pos := "law.go:61", after := #[{ on := 2, ground := Ground.guard }], guard := some (2, false) }) (v := ?_) rfl (by as_aux_lemma => kernel_rfl) (by as_aux_lemma => kernel_rfl) (by as_aux_lemma => kernel_rfl) (fun _ _ _ h => h) (Or.inl ⟨by rfl, ?_⟩) (by assumption) ?_
    rotate_left
    · intro w' hSw
      try dsimp only at hSw
      go_simp
      try with_reducible rfl
    try simp only [Act.put, List.setIfInBounds_toArray, List.set_cons_zero, List.set_cons_succ]
    refine wpAnyH_ready (rs := [5]) (by as_aux_lemma => kernel_rfl) (by simp) ?_
    refine AllReadyH.cons (o := { dst := some 51, op := Op.call { callee := Callee.value (Operand.func 14), args := #[Operand.tmp 49, Operand.tmp 50], argTypes := #[22, 22] }, type := 4, pos := "law.go:61", after := #[{ on := 3, ground := Ground.data }, { on := 4, ground := Ground.data }, { on := 2, ground := Ground.chain }, { on := 2, ground := Ground.guard }], guard := some (2, false) }) rfl (fun Kx hK => ?_) AllReadyH.nil
    go_simp
    refine (same_yes (V.out.later K0.out) (H.out.later K0.out) (by omega)).mono ?_
    rintro e z1 ⟨rfl, bz1⟩
    have K1 := Lib.hid (below2Z K0.out bz1)
    have D1 := Lib.hid (heldC_up K1.out D0.out)
    clear bz1
    go_wp2_with fail
    refine hK.out _ _ ?_ (fun hHeld2 => ?_)
    · exact D1.out
    clear hK Kx hHeld
    have hHeld := hHeld2
    clear hHeld2
    try simp only [Act.put, List.setIfInBounds_toArray, List.set_cons_zero, List.set_cons_succ]
    refine wpAnyH_take (i := 6) (oi := { dst := some 52, op := Op.unOp UnOp.not 4 (Operand.tmp 51), type := 4, pos := "law.go:61", after := #[{ on := 5, ground := Ground.data }, { on := 2, ground := Ground.guard }], guard := some (2, false) }) (v := ?_) rfl (by as_aux_lemma => kernel_rfl) (by as_aux_lemma => kernel_rfl) (by as_aux_lemma => kernel_rfl) (fun _ _ _ h => h) (Or.inl ⟨by rfl, ?_⟩) (by assumption) ?_
    rotate_left
    · intro w' hSw
      try dsimp only at hSw
      go_simp
      try with_reducible rfl
    try simp only [Act.put, List.setIfInBounds_toArray, List.set_cons_zero, List.set_cons_succ]
    refine wpAnyH_take (i := 7) (oi := { dst := some 53, op := Op.pick (Operand.tmp 48) (Operand.const (Value.bool true)) (Operand.tmp 52), type := 4, pos := "law.go:61", after := #[{ on := 2, ground := Ground.data }, { on := 6, ground := Ground.data }], guard := none }) (v := ?_) rfl (by as_aux_lemma => kernel_rfl) (by as_aux_lemma => kernel_rfl) (by as_aux_lemma => kernel_rfl) (fun _ _ _ h => h) (Or.inl ⟨by rfl, ?_⟩) (by assumption) ?_
    rotate_left
    · intro w' hSw
      try dsimp only at hSw
      go_simp
      try with_reducible rfl
    try simp only [Act.put, List.setIfInBounds_toArray, List.set_cons_zero, List.set_cons_succ]
    refine wpAnyH_take (i := 8) (oi := { dst := some 54, op := Op.move (Operand.tmp 53), type := 4, pos := "law.go:61", after := #[{ on := 7, ground := Ground.data }, { on := 5, ground := Ground.chain }], guard := none }) (v := ?_) rfl (by as_aux_lemma => kernel_rfl) (by as_aux_lemma => kernel_rfl) (by as_aux_lemma => kernel_rfl) (fun _ _ _ h => h) (Or.inl ⟨by rfl, ?_⟩) (by assumption) ?_
    rotate_left
    · intro w' hSw
      try dsimp only at hSw
      go_simp
      try with_reducible rfl
    try simp only [Act.put, List.setIfInBounds_toArray, List.set_cons_zero, List.set_cons_succ]
    refine wpAnyH_take (i := 9) (oi := { dst := some 55, op := Op.move (Operand.tmp 7), type := 22, pos := "law.go:61", after := #[{ on := 8, ground := Ground.guard }], guard := some (8, false) }) (v := ?_) rfl (by as_aux_lemma => kernel_rfl) (by as_aux_lemma => kernel_rfl) (by as_aux_lemma => kernel_rfl) (fun _ _ _ h => h) (Or.inl ⟨by rfl, ?_⟩) (by assumption) ?_
    rotate_left
    · intro w' hSw
      try dsimp only at hSw
      go_simp
      try with_reducible rfl
    try simp only [Act.put, List.setIfInBounds_toArray, List.set_cons_zero, List.set_cons_succ]
    refine wpAnyH_take (i := 10) (oi := { dst := some 56, op := Op.call { callee := Callee.builtin Builtin.len, args := #[Operand.tmp 55], argTypes := #[22] }, type := 3, pos := "law.go:61", after := #[{ on := 9, ground := Ground.data }, { on := 8, ground := Ground.guard }], guard := some (8, false) }) (v := ?_) rfl (by as_aux_lemma => kernel_rfl) (by as_aux_lemma => kernel_rfl) (by as_aux_lemma => kernel_rfl) (fun _ _ _ h => h) (Or.inl ⟨by rfl, ?_⟩) (by assumption) ?_
    rotate_left
    · intro w' hSw
      try dsimp only at hSw
      go_simp
      try with_reducible rfl
    try simp only [Act.put, List.setIfInBounds_toArray, List.set_cons_zero, List.set_cons_succ]
    refine wpAnyH_take (i := 11) (oi := { dst := some 57, op := Op.move (Operand.tmp 0), type := 22, pos := "law.go:61", after := #[{ on := 8, ground := Ground.guard }], guard := some (8, false) }) (v := ?_) rfl (by as_aux_lemma => kernel_rfl) (by as_aux_lemma => kernel_rfl) (by as_aux_lemma => kernel_rfl) (fun _ _ _ h => h) (Or.inl ⟨by rfl, ?_⟩) (by assumption) ?_
    rotate_left
    · intro w' hSw
      try dsimp only at hSw
      go_simp
      try with_reducible rfl
    try simp only [Act.put, List.setIfInBounds_toArray, List.set_cons_zero, List.set_cons_succ]
    refine wpAnyH_take (i := 12) (oi := { dst := some 58, op := Op.call { callee := Callee.builtin Builtin.len, args := #[Operand.tmp 57], argTypes := #[22] }, type := 3, pos := "law.go:61", after := #[{ on := 11, ground := Ground.data }, { on := 8, ground := Ground.guard }], guard := some (8, false) }) (v := ?_) rfl (by as_aux_lemma => kernel_rfl) (by as_aux_lemma => kernel_rfl) (by as_aux_lemma => kernel_rfl) (fun _ _ _ h => h) (Or.inl ⟨by rfl, ?_⟩) (by assumption) ?_
    rotate_left
    · intro w' hSw
      try dsimp only at hSw
      go_simp
      try with_reducible rfl
    try simp only [Act.put, List.setIfInBounds_toArray, List.set_cons_zero, List.set_cons_succ]
    refine wpAnyH_take (i := 13) (oi := { dst := some 59, op := Op.binOp BinOp.neq 3 (Operand.tmp 56) (Operand.tmp 58) 3, type := 4, pos := "law.go:61", after := #[{ on := 10, ground := Ground.data }, { on := 12, ground := Ground.data }, { on := 8, ground := Ground.guard }], guard := some (8, false) }) (v := ?_) rfl (by as_aux_lemma => kernel_rfl) (by as_aux_lemma => kernel_rfl) (by as_aux_lemma => kernel_rfl) (fun _ _ _ h => h) (Or.inl ⟨by rfl, ?_⟩) (by assumption) ?_
    rotate_left
    · intro w' hSw
      try dsimp only at hSw
      go_simp
      try with_reducible rfl
    try simp only [Act.put, List.setIfInBounds_toArray, List.set_cons_zero, List.set_cons_succ]
    refine wpAnyH_take (i := 14) (oi := { dst := some 60, op := Op.pick (Operand.tmp 54) (Operand.const (Value.bool true)) (Operand.tmp 59), type := 4, pos := "law.go:61", after := #[{ on := 8, ground := Ground.data }, { on := 13, ground := Ground.data }], guard := none }) (v := ?_) rfl (by as_aux_lemma => kernel_rfl) (by as_aux_lemma => kernel_rfl) (by as_aux_lemma => kernel_rfl) (fun _ _ _ h => h) (Or.inl ⟨by rfl, ?_⟩) (by assumption) ?_
    rotate_left
    · intro w' hSw
      try dsimp only at hSw
      go_simp
      try with_reducible rfl
    try simp only [Act.put, List.setIfInBounds_toArray, List.set_cons_zero, List.set_cons_succ]
    refine wpAnyH_take (i := 15) (oi := { dst := some 61, op := Op.move (Operand.tmp 60), type := 4, pos := "law.go:61", after := #[{ on := 14, ground := Ground.data }, { on := 8, ground := Ground.chain }], guard := none }) (v := ?_) rfl (by as_aux_lemma => kernel_rfl) (by as_aux_lemma => kernel_rfl) (by as_aux_lemma => kernel_rfl) (fun _ _ _ h => h) (Or.inl ⟨by rfl, ?_⟩) (by assumption) ?_
    rotate_left
    · intro w' hSw
      try dsimp only at hSw
      go_simp
      try with_reducible rfl
    try simp only [Act.put, List.setIfInBounds_toArray, List.set_cons_zero, List.set_cons_succ]
    refine wpAnyH_take (i := 16) (oi := { dst := some 62, op := Op.move (Operand.tmp 1), type := 3, pos := "law.go:61", after := #[{ on := 15, ground := Ground.guard }], guard := some (15, false) }) (v := ?_) rfl (by as_aux_lemma => kernel_rfl) (by as_aux_lemma => kernel_rfl) (by as_aux_lemma => kernel_rfl) (fun _ _ _ h => h) (Or.inl ⟨by rfl, ?_⟩) (by assumption) ?_
    rotate_left
    · intro w' hSw
      try dsimp only at hSw
      go_simp
      try with_reducible rfl
    try simp only [Act.put, List.setIfInBounds_toArray, List.set_cons_zero, List.set_cons_succ]
    refine wpAnyH_take (i := 17) (oi := { dst := some 63, op := Op.binOp BinOp.lss 3 (Operand.tmp 62) (Operand.const (Value.int IntKind.i64 0)) 3, type := 4, pos := "law.go:61", after := #[{ on := 16, ground := Ground.data }, { on := 15, ground := Ground.guard }], guard := some (15, false) }) (v := ?_) rfl (by as_aux_lemma => kernel_rfl) (by as_aux_lemma => kernel_rfl) (by as_aux_lemma => kernel_rfl) (fun _ _ _ h => h) (Or.inl ⟨by rfl, ?_⟩) (by assumption) ?_
    rotate_left
    · intro w' hSw
      try dsimp only at hSw
      go_simp
      try with_reducible rfl
    try simp only [Act.put, List.setIfInBounds_toArray, List.set_cons_zero, List.set_cons_succ]
    refine wpAnyH_take (i := 18) (oi := { dst := some 64, op := Op.pick (Operand.tmp 61) (Operand.const (Value.bool true)) (Operand.tmp 63), type := 4, pos := "law.go:61", after := #[{ on := 15, ground := Ground.data }, { on := 17, ground := Ground.data }], guard := none }) (v := ?_) rfl (by as_aux_lemma => kernel_rfl) (by as_aux_lemma => kernel_rfl) (by as_aux_lemma => kernel_rfl) (fun _ _ _ h => h) (Or.inl ⟨by rfl, ?_⟩) (by assumption) ?_
    rotate_left
    · intro w' hSw
      try dsimp only at hSw
      go_simp
      try with_reducible rfl
    try simp only [Act.put, List.setIfInBounds_toArray, List.set_cons_zero, List.set_cons_succ]
    refine wpAnyH_take (i := 19) (oi := { dst := some 65, op := Op.move (Operand.tmp 64), type := 4, pos := "law.go:61", after := #[{ on := 18, ground := Ground.data }, { on := 15, ground := Ground.chain }], guard := none }) (v := ?_) rfl (by as_aux_lemma => kernel_rfl) (by as_aux_lemma => kernel_rfl) (by as_aux_lemma => kernel_rfl) (fun _ _ _ h => h) (Or.inl ⟨by rfl, ?_⟩) (by assumption) ?_
    rotate_left
    · intro w' hSw
      try dsimp only at hSw
      go_simp
      try with_reducible rfl
    try simp only [Act.put, List.setIfInBounds_toArray, List.set_cons_zero, List.set_cons_succ]
    refine wpAnyH_take (i := 20) (oi := { dst := some 66, op := Op.move (Operand.tmp 1), type := 3, pos := "law.go:61", after := #[{ on := 19, ground := Ground.guard }], guard := some (19, false) }) (v := ?_) rfl (by as_aux_lemma => kernel_rfl) (by as_aux_lemma => kernel_rfl) (by as_aux_lemma => kernel_rfl) (fun _ _ _ h => h) (Or.inl ⟨by rfl, ?_⟩) (by assumption) ?_
    rotate_left
    · intro w' hSw
      try dsimp only at hSw
      go_simp
      try with_reducible rfl
    try simp only [Act.put, List.setIfInBounds_toArray, List.set_cons_zero, List.set_cons_succ]
    refine wpAnyH_take (i := 21) (oi := { dst := some 67, op := Op.move (Operand.tmp 0), type := 22, pos := "law.go:61", after := #[{ on := 19, ground := Ground.guard }], guard := some (19, false) }) (v := ?_) rfl (by as_aux_lemma => kernel_rfl) (by as_aux_lemma => kernel_rfl) (by as_aux_lemma => kernel_rfl) (fun _ _ _ h => h) (Or.inl ⟨by rfl, ?_⟩) (by assumption) ?_
    rotate_left
    · intro w' hSw
      try dsimp only at hSw
      go_simp
      try with_reducible rfl
    try simp only [Act.put, List.setIfInBounds_toArray, List.set_cons_zero, List.set_cons_succ]
    refine wpAnyH_take (i := 22) (oi := { dst := some 68, op := Op.call { callee := Callee.builtin Builtin.len, args := #[Operand.tmp 67], argTypes := #[22] }, type := 3, pos := "law.go:61", after := #[{ on := 21, ground := Ground.data }, { on := 19, ground := Ground.guard }], guard := some (19, false) }) (v := ?_) rfl (by as_aux_lemma => kernel_rfl) (by as_aux_lemma => kernel_rfl) (by as_aux_lemma => kernel_rfl) (fun _ _ _ h => h) (Or.inl ⟨by rfl, ?_⟩) (by assumption) ?_
    rotate_left
    · intro w' hSw
      try dsimp only at hSw
      go_simp
      try with_reducible rfl
    try simp only [Act.put, List.setIfInBounds_toArray, List.set_cons_zero, List.set_cons_succ]
    refine wpAnyH_take (i := 23) (oi := { dst := some 69, op := Op.binOp BinOp.geq 3 (Operand.tmp 66) (Operand.tmp 68) 3, type := 4, pos := "law.go:61", after := #[{ on := 20, ground := Ground.data }, { on := 22, ground := Ground.data }, { on := 19, ground := Ground.guard }], guard := some (19, false) }) (v := ?_) rfl (by as_aux_lemma => kernel_rfl) (by as_aux_lemma => kernel_rfl) (by as_aux_lemma => kernel_rfl) (fun _ _ _ h => h) (Or.inl ⟨by rfl, ?_⟩) (by assumption) ?_
    rotate_left
    · intro w' hSw
      try dsimp only at hSw
      go_simp
      try with_reducible rfl
    try simp only [Act.put, List.setIfInBounds_toArray, List.set_cons_zero, List.set_cons_succ]
    refine wpAnyH_take (i := 24) (oi := { dst := some 70, op := Op.pick (Operand.tmp 65) (Operand.const (Value.bool true)) (Operand.tmp 69), type := 4, pos := "law.go:61", after := #[{ on := 19, ground := Ground.data }, { on := 23, ground := Ground.data }], guard := none }) (v := ?_) rfl (by as_aux_lemma => kernel_rfl) (by as_aux_lemma => kernel_rfl) (by as_aux_lemma => kernel_rfl) (fun _ _ _ h => h) (Or.inl ⟨by rfl, ?_⟩) (by assumption) ?_
    rotate_left
    · intro w' hSw
      try dsimp only at hSw
      go_simp
      try with_reducible rfl
    try simp only [Act.put, List.setIfInBounds_toArray, List.set_cons_zero, List.set_cons_succ]
    refine wpAnyH_take (i := 25) (oi := { dst := some 71, op := Op.move (Operand.tmp 70), type := 4, pos := "law.go:61", after := #[{ on := 24, ground := Ground.data }, { on := 19, ground := Ground.chain }], guard := none }) (v := ?_) rfl (by as_aux_lemma => kernel_rfl) (by as_aux_lemma => kernel_rfl) (by as_aux_lemma => kernel_rfl) (fun _ _ _ h => h) (Or.inl ⟨by rfl, ?_⟩) (by assumption) ?_
    rotate_left
    · intro w' hSw
      try dsimp only at hSw
      go_simp
      try with_reducible rfl
    try simp only [Act.put, List.setIfInBounds_toArray, List.set_cons_zero, List.set_cons_succ]
    refine wpAnyH_take (i := 26) (oi := { dst := some 72, op := Op.move (Operand.tmp 7), type := 22, pos := "law.go:61", after := #[{ on := 25, ground := Ground.guard }], guard := some (25, false) }) (v := ?_) rfl (by as_aux_lemma => kernel_rfl) (by as_aux_lemma => kernel_rfl) (by as_aux_lemma => kernel_rfl) (fun _ _ _ h => h) (Or.inl ⟨by rfl, ?_⟩) (by assumption) ?_
    rotate_left
    · intro w' hSw
      try dsimp only at hSw
      go_simp
      try with_reducible rfl
    try simp only [Act.put, List.setIfInBounds_toArray, List.set_cons_zero, List.set_cons_succ]
    refine wpAnyH_take (i := 27) (oi := { dst := some 73, op := Op.move (Operand.tmp 1), type := 3, pos := "law.go:61", after := #[{ on := 25, ground := Ground.guard }], guard := some (25, false) }) (v := ?_) rfl (by as_aux_lemma => kernel_rfl) (by as_aux_lemma => kernel_rfl) (by as_aux_lemma => kernel_rfl) (fun _ _ _ h => h) (Or.inl ⟨by rfl, ?_⟩) (by assumption) ?_
    rotate_left
    · intro w' hSw
      try dsimp only at hSw
      go_simp
      try with_reducible rfl
    try simp only [Act.put, List.setIfInBounds_toArray, List.set_cons_zero, List.set_cons_succ]
    refine wpAnyH_take (i := 28) (oi := { dst := some 74, op := Op.indexAddr 22 (Operand.tmp 72) (Operand.tmp 73), type := 0, pos := "law.go:61", after := #[{ on := 26, ground := Ground.data }, { on := 27, ground := Ground.data }, { on := 25, ground := Ground.guard }], guard := some (25, false) }) (v := ?_) rfl (by as_aux_lemma => kernel_rfl) (by as_aux_lemma => kernel_rfl) (by as_aux_lemma => kernel_rfl) (fun _ _ _ h => h) (Or.inl ⟨by rfl, ?_⟩) (by assumption) ?_
    rotate_left
    · intro w' hSw
      try dsimp only at hSw
      go_simp
      try with_reducible rfl
    try simp only [Act.put, List.setIfInBounds_toArray, List.set_cons_zero, List.set_cons_succ]
    refine wpAnyH_take (i := 29) (oi := { dst := some 75, op := Op.load 9 (Operand.tmp 74), type := 9, pos := "law.go:61", after := #[{ on := 28, ground := Ground.data }, { on := 25, ground := Ground.guard }], guard := some (25, false) }) (v := ?_) rfl (by as_aux_lemma => kernel_rfl) (by as_aux_lemma => kernel_rfl) (by as_aux_lemma => kernel_rfl) (fun _ _ _ h => h) (Or.inl ⟨by rfl, ?_⟩) (by assumption) ?_
    rotate_left
    · intro w' hSw
      try dsimp only at hSw
      go_simp
      try with_reducible rfl
    try simp only [Act.put, List.setIfInBounds_toArray, List.set_cons_zero, List.set_cons_succ]
    refine wpAnyH_take (i := 30) (oi := { dst := some 76, op := Op.call { callee := Callee.builtin Builtin.len, args := #[Operand.tmp 75], argTypes := #[9] }, type := 3, pos := "law.go:61", after := #[{ on := 29, ground := Ground.data }, { on := 25, ground := Ground.guard }], guard := some (25, false) }) (v := ?_) rfl (by as_aux_lemma => kernel_rfl) (by as_aux_lemma => kernel_rfl) (by as_aux_lemma => kernel_rfl) (fun _ _ _ h => h) (Or.inl ⟨by rfl, ?_⟩) (by assumption) ?_
    rotate_left
    · intro w' hSw
      try dsimp only at hSw
      go_simp
      try with_reducible rfl
    try simp only [Act.put, List.setIfInBounds_toArray, List.set_cons_zero, List.set_cons_succ]
    refine wpAnyH_take (i := 31) (oi := { dst := some 77, op := Op.move (Operand.tmp 0), type := 22, pos := "law.go:61", after := #[{ on := 25, ground := Ground.guard }], guard := some (25, false) }) (v := ?_) rfl (by as_aux_lemma => kernel_rfl) (by as_aux_lemma => kernel_rfl) (by as_aux_lemma => kernel_rfl) (fun _ _ _ h => h) (Or.inl ⟨by rfl, ?_⟩) (by assumption) ?_
    rotate_left
    · intro w' hSw
      try dsimp only at hSw
      go_simp
      try with_reducible rfl
    try simp only [Act.put, List.setIfInBounds_toArray, List.set_cons_zero, List.set_cons_succ]
    refine wpAnyH_take (i := 32) (oi := { dst := some 78, op := Op.move (Operand.tmp 1), type := 3, pos := "law.go:61", after := #[{ on := 25, ground := Ground.guard }], guard := some (25, false) }) (v := ?_) rfl (by as_aux_lemma => kernel_rfl) (by as_aux_lemma => kernel_rfl) (by as_aux_lemma => kernel_rfl) (fun _ _ _ h => h) (Or.inl ⟨by rfl, ?_⟩) (by assumption) ?_
    rotate_left
    · intro w' hSw
      try dsimp only at hSw
      go_simp
      try with_reducible rfl
    try simp only [Act.put, List.setIfInBounds_toArray, List.set_cons_zero, List.set_cons_succ]
    refine wpAnyH_take (i := 33) (oi := { dst := some 79, op := Op.indexAddr 22 (Operand.tmp 77) (Operand.tmp 78), type := 0, pos := "law.go:61", after := #[{ on := 31, ground := Ground.data }, { on := 32, ground := Ground.data }, { on := 25, ground := Ground.guard }], guard := some (25, false) }) (v := ?_) rfl (by as_aux_lemma => kernel_rfl) (by as_aux_lemma => kernel_rfl) (by as_aux_lemma => kernel_rfl) (fun _ _ _ h => h) (Or.inl ⟨by rfl, ?_⟩) (by assumption) ?_
    rotate_left
    · intro w' hSw
      try dsimp only at hSw
      go_simp
      try with_reducible rfl
    try simp only [Act.put, List.setIfInBounds_toArray, List.set_cons_zero, List.set_cons_succ]
    refine wpAnyH_take (i := 34) (oi := { dst := some 80, op := Op.load 9 (Operand.tmp 79), type := 9, pos := "law.go:61", after := #[{ on := 33, ground := Ground.data }, { on := 25, ground := Ground.guard }], guard := some (25, false) }) (v := ?_) rfl (by as_aux_lemma => kernel_rfl) (by as_aux_lemma => kernel_rfl) (by as_aux_lemma => kernel_rfl) (fun _ _ _ h => h) (Or.inl ⟨by rfl, ?_⟩) (by assumption) ?_
    rotate_left
    · intro w' hSw
      try dsimp only at hSw
      go_simp
      try with_reducible rfl
    try simp only [Act.put, List.setIfInBounds_toArray, List.set_cons_zero, List.set_cons_succ]
    refine wpAnyH_take (i := 35) (oi := { dst := some 81, op := Op.call { callee := Callee.builtin Builtin.len, args := #[Operand.tmp 80], argTypes := #[9] }, type := 3, pos := "law.go:61", after := #[{ on := 34, ground := Ground.data }, { on := 25, ground := Ground.guard }], guard := some (25, false) }) (v := ?_) rfl (by as_aux_lemma => kernel_rfl) (by as_aux_lemma => kernel_rfl) (by as_aux_lemma => kernel_rfl) (fun _ _ _ h => h) (Or.inl ⟨by rfl, ?_⟩) (by assumption) ?_
    rotate_left
    · intro w' hSw
      try dsimp only at hSw
      go_simp
      try with_reducible rfl
    try simp only [Act.put, List.setIfInBounds_toArray, List.set_cons_zero, List.set_cons_succ]
    refine wpAnyH_take (i := 36) (oi := { dst := some 82, op := Op.binOp BinOp.neq 3 (Operand.tmp 76) (Operand.tmp 81) 3, type := 4, pos := "law.go:61", after := #[{ on := 30, ground := Ground.data }, { on := 35, ground := Ground.data }, { on := 25, ground := Ground.guard }], guard := some (25, false) }) (v := ?_) rfl (by as_aux_lemma => kernel_rfl) (by as_aux_lemma => kernel_rfl) (by as_aux_lemma => kernel_rfl) (fun _ _ _ h => h) (Or.inl ⟨by rfl, ?_⟩) (by assumption) ?_
    rotate_left
    · intro w' hSw
      try dsimp only at hSw
      go_simp
      try with_reducible rfl
    try simp only [Act.put, List.setIfInBounds_toArray, List.set_cons_zero, List.set_cons_succ]
    refine wpAnyH_take (i := 37) (oi := { dst := some 83, op := Op.pick (Operand.tmp 71) (Operand.const (Value.bool true)) (Operand.tmp 82), type := 4, pos := "law.go:61", after := #[{ on := 25, ground := Ground.data }, { on := 36, ground := Ground.data }], guard := none }) (v := ?_) rfl (by as_aux_lemma => kernel_rfl) (by as_aux_lemma => kernel_rfl) (by as_aux_lemma => kernel_rfl) (fun _ _ _ h => h) (Or.inl ⟨by rfl, ?_⟩) (by assumption) ?_
    rotate_left
    · intro w' hSw
      try dsimp only at hSw
      go_simp
      try with_reducible rfl
    try simp only [Act.put, List.setIfInBounds_toArray, List.set_cons_zero, List.set_cons_succ]
    refine wpAnyH_done (by kernel_rfl) ?_ _
    have KW := Lib.hid (K1.out)
    generalize z1 = wa at KW ⊢
    replace HB := Lib.hid (below2Z HB.out KW.out)
    replace H := Lib.hid (H.out.later KW.out)
    replace U := Lib.hid (U.out.later KW.out)
    replace HCL := Lib.hid (cells_later HCL.out KW.out)
    replace HCM := Lib.hid (cells_later HCM.out KW.out)
    clear KW C1 C2 D0 K0 V
    try clear hHeld
    go_wp2_with fail
    clear t1 t2 t3 t4 t5 t6
    go_loopw [11] (fun i wr => ∃ j : Nat, j ≤ ls.length ∧ i = .int .i64 j ∧ Hid (Below wa.heap.size wa wr)) (fun i _ => ls.length - (intOf i).toNat)
    case atStart => exact ⟨0, by omega, rfl, Lib.hid (Below.refl _ _)⟩
    case round =>
      obtain ⟨j, hj, rfl, HN⟩ := hrel
      by_cases hlt : j < ls.length
      case pos =>
        have c1 := cellLaterZ (HCL.out j hlt) HN.out
        have c2 := cellLaterZ (HCM.out j (by rw [HML.out]; exact hlt)) HN.out
        by_cases hjk : j = k
        case pos =>
          subst hjk
          have t1 : ((j : Int) != (j : Int)) = false := by simp
          go_wp2_with fail
          go_region
          go_wp2_with fail
          go_roundw
          case rel => exact ⟨j + 1, by omega, by go_num, Lib.hid HN.out.drew⟩
          case measure => simp [intOf]; omega
        case neg =>
          have t1 : ((j : Int) != (k : Int)) = true := by simp; omega
          have hsame : ms.getD j [] = ls.getD j [] := by rw [← HMS.out]; exact set_other hjk s
          rw [hsame] at c2
          unfold encS at c1 c2
          obtain ⟨z, hz⟩ : ∃ z, ls.getD j [] = z := ⟨_, rfl⟩
          rw [hz] at c1 c2
          clear hz hsame hjk
          go_wp2_with fail
          go_region
          go_wp2_with fail
          go_roundw
          case rel => exact ⟨j + 1, by omega, by go_num, Lib.hid HN.out.drew⟩
          case measure => simp [intOf]; omega
      obtain rfl : j = ls.length := by omega
      replace HB := Lib.hid (below2Z HB.out HN.out)
      have D1 : Hid (∀ X, Below wr.heap.size wr X → X.cell? ⟨b1, o1 + k, none⟩ = some (.string ⟨y.toArray⟩)) := Lib.hid (fun X hX => by have := cellLaterZ (cellLaterZ (HCL.out k hk) HN.out) hX; rw [HY.out] at this; exact this)
      have D2 : Hid (∀ X, Below wr.heap.size wr X → X.cell? ⟨b2, o2 + k, none⟩ = some (.string ⟨s.toArray⟩)) := Lib.hid (fun X hX => by have := cellLaterZ (cellLaterZ (HCM.out k (by rw [HML.out]; exact hk)) HN.out) hX; rw [HGK.out] at this; exact this)
      clear HN HCL HCM H U
      generalize wr = wb at HB D1 D2 ⊢
      go_wp2_with fail
      go_loopw [12, 13] (fun c i wr => ∃ j : Nat, j ≤ y.length ∧ i = .int .i64 j ∧ c = .int .i64 ((if q < j then 1 else 0 : Nat) : Int) ∧ Hid (Below wb.heap.size wb wr)) (fun _ i _ => y.length - (intOf i).toNat)
      case atStart => exact ⟨0, by omega, rfl, by simp, Lib.hid (Below.refl _ _)⟩
      case round =>
        obtain ⟨j, hj, rfl, rfl, HN⟩ := hrel
        have c1 := D1.out wr HN.out
        have c2 := D2.out wr HN.out
        by_cases hlt : j < y.length
        case pos =>
          have p1 : j < (⟨y.toArray⟩ : ByteArray).size := by rw [size_bytes]; exact hlt
          have p2 : j < (⟨s.toArray⟩ : ByteArray).size := by rw [size_bytes, HSL.out]; exact hlt
          obtain ⟨g, hg⟩ : ∃ g : UInt8, (⟨y.toArray⟩ : ByteArray)[j]'p1 = g := ⟨_, rfl⟩
          obtain ⟨d, hd⟩ : ∃ d : UInt8, (⟨s.toArray⟩ : ByteArray)[j]'p2 = d := ⟨_, rfl⟩
          have HG : Hid (y[j]? = some g) := Lib.hid (by rw [← hg]; exact bytes_at y j p1)
          have HD : Hid (s[j]? = some d) := Lib.hid (by rw [← hd]; exact bytes_at s j p2)
          have hs0 : s.length = y.length := HSL.out
          have hls : j < s.length := by omega
          have g256 := g.toNat_lt
          have d256 := d.toNat_lt
          have hdiff := spoil_byte hql hm0 hm1 HS.out HG.out HD.out
          by_cases hjq : j = q
          case pos =>
            have hne := hdiff.1 hjq
            have t1 : ((d.toNat : Int) != (g.toNat : Int)) = true := by simp; omega
            have hif : (if q < j then 1 else 0 : Nat) = 0 := by rw [if_neg (by omega)]
            have hif2 : (if q < j + 1 then 1 else 0 : Nat) = 1 := by rw [if_pos (by omega)]
            rw [hif]
            have HI := Lib.hid hif2
            clear hif hif2 hdiff hne hjq
            go_wp2_with fail
            go_region
            go_wp2_with fail
            go_roundw
            case rel => exact ⟨j + 1, by omega, by go_num, by rw [HI.out]; simp, Lib.hid HN.out.drew⟩
            case measure => simp [intOf]; omega
          case neg =>
            have hne := hdiff.2 hjq
            have t1 : ((d.toNat : Int) != (g.toNat : Int)) = false := by simp; omega
            have hif : (if q < j + 1 then 1 else 0 : Nat) = (if q < j then 1 else 0 : Nat) := by
              by_cases h : q < j
              · rw [if_pos h, if_pos (by omega)]
              · rw [if_neg h, if_neg (by omega)]
            obtain ⟨cn, hcn⟩ : ∃ cn : Nat, (if q < j then 1 else 0 : Nat) = cn := ⟨_, rfl⟩
            rw [hcn] at hif ⊢
            have HI := Lib.hid hif
            clear hif hcn hdiff hne hjq
            go_wp2_with fail
            go_region
            go_wp2_with fail
            go_roundw
            case rel => exact ⟨j + 1, by omega, by go_num, by rw [HI.out], Lib.hid HN.out.drew⟩
            case measure => simp [intOf]; omega
        obtain rfl : j = y.length := by omega
        rw [if_pos hql]
        replace HB := Lib.hid (below2Z HB.out HN.out)
        go_wp2_with fail
        refine (live22 _).mono ?_
        rintro e w901 ⟨rfl, b901⟩
        replace HB := Lib.hid (below2Z HB.out b901)
        clear b901
        go_wp2_with fail
        go_ret
        exact ⟨rfl, HB.out⟩

theorem walkNetBack {w : World} (a : Option Addr) (len cap : Nat) (zs : List ByteArray) (h : IsStrs w a len cap zs) (i : Int) (_ : (Lit.int .i64 i).wf = true) (ns : List Int) (hn : ns.length = 2 ∧ ∀ z ∈ ns, (Lit.int .i64 z).wf = true) :
    Calls Try.prog 5 #[.slice a len cap, .int .i64 i, .agg (ns.map (Value.int .i64)).toArray] w fun e w' => e = .returned (.bool true) ∧ Below w.heap.size w w' := by
  obtain ⟨ls, h1, _, _⟩ := texts_of_strs h
  match ns, hn with
  | [n0, n1], _ => exact nb h1 i n0 n1

end Go.Proofs.Ytlebgpgcklfhaaa
