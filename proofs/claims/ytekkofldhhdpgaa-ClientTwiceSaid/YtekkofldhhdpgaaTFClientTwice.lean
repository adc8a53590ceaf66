/-
  THE PROOF OF ClientTwice: for every input the law returns true, and each argument reads behind the call as it read before. No condition.
-/
import Derived.Test.YtekkofldhhdpgaaT22
import Derived.Test.YtekkofldhhdpgaaT23
import Derived.Deep.CutRange
import Derived.Test.YtekkofldhhdpgaaT09
import Derived.Test.YtekkofldhhdpgaaRows
import Derived.ProofKit
import Derived.OpenShut
import Derived.ShutString
import Derived.ChangeOld
import Derived.SliceStrings
import Derived.Lib.SmallJoins

section

/-
  THE WALK OF ClientTwice.
-/
namespace Go.Proofs.Ytekkofldhhdpgaa
open Go.RowKit

set_option maxHeartbeats 3200000 in
set_option maxRecDepth 100000 in
theorem ctw_1 {w : World} {v : Value} {l : List FrS} (hv : RdS frVals 10 FrS.zero w v l) (hf : ∀ p ∈ l, FrFit w p) (a : Int) (s : List UInt8) (HF : Hid ((decide (l.length ≤ 30) && frsFew l) = false)) :
    Calls Try.prog 3 #[v, .int .i64 a, .string ⟨s.toArray⟩] w fun e w' => e = .returned (.bool true) ∧ Below w.heap.size w w' := by
  obtain ⟨sa, cap, rfl, hsl⟩ := hv.open'
  have hs1z : (⟨s.toArray⟩ : ByteArray).size = s.length := size_bytes s
  have HV := Lib.hid hv
  have HFT := Lib.hid hf
  clear hv hf
  have HB := Lib.hid (Below.refl w.heap.size w)
  go_enter Try.func3, Try.ntmps3
  go_wp2_with fail
  refine (clfrs_eq HV.out HFT.out HF).mono ?_
  rintro e w1 ⟨rfl, b1⟩
  replace HB := Lib.hid (below2Z HB.out b1)
  clear b1
  go_wp2_with fail
  refine (live19 _).mono ?_
  rintro e w2 ⟨rfl, b2⟩
  replace HB := Lib.hid (below2Z HB.out b2)
  clear b2
  go_wp2_with fail
  go_ret
  exact ⟨rfl, HB.out⟩

set_option maxHeartbeats 3200000 in
set_option maxRecDepth 100000 in
theorem ctw_2 {w : World} {v : Value} {l : List FrS} (hv : RdS frVals 10 FrS.zero w v l) (hf : ∀ p ∈ l, FrFit w p) (a : Int) (s : List UInt8) (HF : Hid ((decide (l.length ≤ 30) && frsFew l) = true)) (hs : 1500 < s.length) :
    Calls Try.prog 3 #[v, .int .i64 a, .string ⟨s.toArray⟩] w fun e w' => e = .returned (.bool true) ∧ Below w.heap.size w w' := by
  have tl : decide (1500 < (s.length : Int)) = true := by rw [decide_eq_true_eq]; omega
  have tl2 : decide (1500 < s.length) = true := by rw [decide_eq_true_eq]; omega
  obtain ⟨sa, cap, rfl, hsl⟩ := hv.open'
  have hs1z : (⟨s.toArray⟩ : ByteArray).size = s.length := size_bytes s
  have HV := Lib.hid hv
  have HFT := Lib.hid hf
  clear hv hf
  have HB := Lib.hid (Below.refl w.heap.size w)
  go_enter Try.func3, Try.ntmps3
  go_wp2_with fail
  refine (clfrs_eq HV.out HFT.out HF).mono ?_
  rintro e w1 ⟨rfl, b1⟩
  replace HB := Lib.hid (below2Z HB.out b1)
  clear b1
  go_wp2_with fail
  refine (live19 _).mono ?_
  rintro e w2 ⟨rfl, b2⟩
  replace HB := Lib.hid (below2Z HB.out b2)
  clear b2
  go_wp2_with fail
  go_ret
  exact ⟨rfl, HB.out⟩

set_option maxHeartbeats 12800000 in
set_option maxRecDepth 100000 in
theorem ctw_3 {w : World} {v : Value} {l : List FrS} (hv : RdS frVals 10 FrS.zero w v l) (hf : ∀ p ∈ l, FrFit w p) (a : Int) (s : List UInt8) (HF : Hid ((decide (l.length ≤ 30) && frsFew l) = true)) (hs : s.length ≤ 1500) :
    Calls Try.prog 3 #[v, .int .i64 a, .string ⟨s.toArray⟩] w fun e w' => e = .returned (.bool true) ∧ Below w.heap.size w w' := by
  have tl : decide (1500 < (s.length : Int)) = false := by rw [decide_eq_false_iff_not]; omega
  have tl2 : decide (1500 < s.length) = false := by rw [decide_eq_false_iff_not]; omega
  have hfew : frsFew l = true ∧ l.length ≤ 30 := by have := HF.out; simp only [Bool.and_eq_true, decide_eq_true_eq] at this; exact ⟨this.2, this.1⟩
  have hs32 : s.length ≤ 4294967296 := by omega
  have hl30 := hfew.2
  have HFEW := Lib.hid hfew.1
  clear hfew hs
  obtain ⟨sa, cap, rfl, hsl⟩ := hv.open'
  have hs1z : (⟨s.toArray⟩ : ByteArray).size = s.length := size_bytes s
  have HV := Lib.hid hv
  have HFT := Lib.hid hf
  clear hv hf
  have HB := Lib.hid (Below.refl w.heap.size w)
  go_enter Try.func3, Try.ntmps3
  go_wp2_with fail
  refine (clfrs_eq HV.out HFT.out HF).mono ?_
  rintro e w1 ⟨rfl, b1⟩
  replace HB := Lib.hid (below2Z HB.out b1)
  clear b1
  go_wp2_with fail
  refine (clnew_any _).mono ?_
  rintro e w2 ⟨rfl, b2⟩
  replace HB := Lib.hid (below2Z HB.out b2)
  clear b2
  have b3 := bl_newZ w2 (.cells #[.slice none 0 0, .int .i64 0, .bool false] 27)
  have C := newQ w2 (.cells #[.slice none 0 0, .int .i64 0, .bool false] 27)
  have hC : w.heap.size ≤ w2.heap.size := HB.out.size
  replace HB := Lib.hid (below2Z HB.out b3)
  clear b3
  replace C := Lib.hid C
  go_upto_region 4 with fail
  generalize w2.alloc (.cells #[.slice none 0 0, .int .i64 0, .bool false] 27) = w4 at C HB ⊢
  generalize w2.heap.size = BC at C hC ⊢
  go_wp2_with fail
  go_loopw [8] (fun i wr => ∃ (k : Nat) (t : List Row) (n : Int) (o : Bool) (ca : Option Addr) (cc : Nat), k ≤ l.length ∧ i = .int .i64 k ∧ Hid (wr.heap[BC]? = some (.cells #[.slice ca t.length cc, .int .i64 n, .bool o] 27 (0, 0))) ∧ Hid (Tab wr (.slice ca t.length cc) t) ∧ Hid (clMay ⟨t, n, o⟩ = true) ∧ Hid (∀ j, j < k → clPast n (l.getD j FrS.zero).f) ∧ Hid (Below w.heap.size w wr)) (fun i _ => l.length - (intOf i).toNat)
  case atStart => exact ⟨0, [], 0, false, none, 0, by omega, rfl, C, Lib.hid (tab_nilC _), Lib.hid clMay_new, Lib.hid (fun j hj => by omega), HB⟩
  case round =>
    obtain ⟨k, t, n, o, ca, cc, hk, rfl, C, TCC, HMC, HPA, HB⟩ := hrel
    by_cases hlt : k < l.length
    case neg =>
      go_wp2_with fail
      refine (live19 _).mono ?_
      rintro e w801 ⟨rfl, b801⟩
      replace HB := Lib.hid (below2Z HB.out b801)
      clear b801
      go_wp2_with fail
      go_ret
      exact ⟨rfl, HB.out⟩
    case pos =>
      obtain ⟨rb, off, rfl, hc⟩ := HV.out.row HB.out k hlt
      obtain ⟨p, hp⟩ : ∃ p, l.getD k FrS.zero = p := ⟨_, rfl⟩
      obtain ⟨r1, r2, r3, r4, r5, r6, r7⟩ := fr_all HFT.out HFEW.out hlt hp
      rw [hp] at hc
      have HP := Lib.hid hp
      clear hp
      obtain ⟨⟨fk, fs, fon, fc, ⟨fsh, fpr, fsi, fst⟩, fsum, ft⟩, ta, tn, tc⟩ := p
      simp only [FrS.tv] at r1 r2 r3 r4 r5 r6 r7
      subst r7
      have hrow : Hid (∀ X, Below wr.heap.size wr X → CellsAt X rb (off + k * 10) (frVals ⟨⟨fk, fs, fon, fc, ⟨fsh, fpr, fsi, fst⟩, fsum, ft⟩, ta, ft.length, tc⟩)) := Lib.hid fun X hX => hc.later hX
      have HVT := Lib.hid (r1.later HB.out)
      have HSH := Lib.hid r2
      have HSC := Lib.hid (short_in (clMay_parts HMC.out).2.2)
      have hlC : t.length ≤ 1000 := by have := (diMay_iff.1 (clMay_parts HMC.out).2.2).1; simp only at this; omega
      obtain ⟨⟨t2, n2, o2⟩, hfd⟩ : ∃ zz, clFeed ⟨t, n, o⟩ ⟨fk, fs, fon, fc, ⟨fsh, fpr, fsi, fst⟩, fsum, ft⟩ = zz := ⟨_, rfl⟩
      have HFD := Lib.hid hfd
      have hm2 : clMay ⟨t2, n2, o2⟩ = true := by rw [← hfd]; exact clFeed_may _ HMC.out
      have HM2 := Lib.hid hm2
      have hnn : n ≤ n2 := by have := clFeed_n ⟨t, n, o⟩ ⟨fk, fs, fon, fc, ⟨fsh, fpr, fsi, fst⟩, fsum, ft⟩; rw [hfd] at this; exact this
      have hpast : clPast n2 ⟨fk, fs, fon, fc, ⟨fsh, fpr, fsi, fst⟩, fsum, ft⟩ := by have := clPast_self (c := ⟨t, n, o⟩) ⟨fk, fs, fon, fc, ⟨fsh, fpr, fsi, fst⟩, fsum, ft⟩ HMC.out; rw [hfd] at this; exact this
      have HPK := Lib.hid hpast
      have HF2 : Hid (clFeed ⟨t2, n2, o2⟩ ⟨fk, fs, fon, fc, ⟨fsh, fpr, fsi, fst⟩, fsum, ft⟩ = ⟨t2, n2, o2⟩) := Lib.hid (clPast_feed (c := ⟨t2, n2, o2⟩) hpast)
      have HS2 := Lib.hid (short_in (clMay_parts hm2).2.2)
      have hl2 : t2.length ≤ 1000 := by have := (diMay_iff.1 (clMay_parts hm2).2.2).1; simp only at this; omega
      have g1 : decide (n2 < n) = false := by rw [decide_eq_false_iff_not]; omega
      have hlt0 : decide (k < l.length) = true := decide_eq_true hlt
      clear hc r1 r2 hfd hm2 hpast
      go_upto_region 7 with fail
      go_cut [9] from 28 to 33 (fun p wx => ∃ B ua uc, p = .pointer (some ⟨B, 0, none⟩) ∧ wr.heap.size ≤ B ∧ Hid (wx.heap[B]? = some (.cells #[.slice ua t2.length uc, .int .i64 n2, .bool o2] 27 (0, 0))) ∧ Hid (Tab wx (.slice ua t2.length uc) t2) ∧ Hid (Below wr.heap.size wr wx))
      case first =>
        obtain ⟨⟨Cc0, Cc1, Cc2⟩, -⟩ := blk3 C.out
        have q0 : wr.cell? ⟨rb, off + k * 10, none⟩ = some (.int .i64 fk) := hrow.out _ (Below.refl _ _) 0 _ rfl
        have q1 : wr.cell? ⟨rb, off + k * 10 + 1, none⟩ = some (.int .i64 fs) := hrow.out _ (Below.refl _ _) 1 _ rfl
        have q2 : wr.cell? ⟨rb, off + k * 10 + 2, none⟩ = some (.bool fon) := hrow.out _ (Below.refl _ _) 2 _ rfl
        have q3 : wr.cell? ⟨rb, off + k * 10 + 3, none⟩ = some (.string ⟨fc.toArray⟩) := hrow.out _ (Below.refl _ _) 3 _ rfl
        have q4 : wr.cell? ⟨rb, off + k * 10 + 4, none⟩ = some (.int .i64 fsh) := hrow.out _ (Below.refl _ _) 4 _ rfl
        have q5 : wr.cell? ⟨rb, off + k * 10 + 5, none⟩ = some (.int .i64 fpr) := hrow.out _ (Below.refl _ _) 5 _ rfl
        have q6 : wr.cell? ⟨rb, off + k * 10 + 6, none⟩ = some (.int .i64 fsi) := hrow.out _ (Below.refl _ _) 6 _ rfl
        have q7 : wr.cell? ⟨rb, off + k * 10 + 7, none⟩ = some (.string ⟨fst.toArray⟩) := hrow.out _ (Below.refl _ _) 7 _ rfl
        have q8 : wr.cell? ⟨rb, off + k * 10 + 8, none⟩ = some (.int .u64 fsum) := hrow.out _ (Below.refl _ _) 8 _ rfl
        have q9 : wr.cell? ⟨rb, off + k * 10 + 9, none⟩ = some (.slice ta ft.length tc) := hrow.out _ (Below.refl _ _) 9 _ rfl
        obtain ⟨BS, hBS⟩ : ∃ BS : List (Nat × List Value), BS = [] := ⟨_, rfl⟩
        obtain ⟨CS, hCS⟩ : ∃ CS : List (Nat × Nat × Value), CS = [(BC, 0, .slice ca t.length cc), (BC, 1, .int .i64 n), (BC, 2, .bool o), (rb, off + k * 10, .int .i64 fk), (rb, off + k * 10 + 1, .int .i64 fs), (rb, off + k * 10 + 2, .bool fon), (rb, off + k * 10 + 3, .string ⟨fc.toArray⟩), (rb, off + k * 10 + 4, .int .i64 fsh), (rb, off + k * 10 + 5, .int .i64 fpr), (rb, off + k * 10 + 6, .int .i64 fsi), (rb, off + k * 10 + 7, .string ⟨fst.toArray⟩), (rb, off + k * 10 + 8, .int .u64 fsum), (rb, off + k * 10 + 9, .slice ta ft.length tc)] := ⟨_, rfl⟩
        have D0 := Lib.hid (show heldC wr CS from by rw [hCS]; exact heldC_cons (Cc0) (heldC_cons (Cc1) (heldC_cons (Cc2) (heldC_cons (q0) (heldC_cons (q1) (heldC_cons (q2) (heldC_cons (q3) (heldC_cons (q4) (heldC_cons (q5) (heldC_cons (q6) (heldC_cons (q7) (heldC_cons (q8) (heldC_cons (q9) (heldC_nil _))))))))))))))
        have hq0 : ∀ X, heldC X CS → X.cell? ⟨BC, 0, none⟩ = some (.slice ca t.length cc) := fun X hx => heldC_get hx (by rw [hCS]; simp)
        have hq1 : ∀ X, heldC X CS → X.cell? ⟨BC, 1, none⟩ = some (.int .i64 n) := fun X hx => heldC_get hx (by rw [hCS]; simp)
        have hq2 : ∀ X, heldC X CS → X.cell? ⟨BC, 2, none⟩ = some (.bool o) := fun X hx => heldC_get hx (by rw [hCS]; simp)
        have hq3 : ∀ X, heldC X CS → X.cell? ⟨rb, off + k * 10, none⟩ = some (.int .i64 fk) := fun X hx => heldC_get hx (by rw [hCS]; simp)
        have hq4 : ∀ X, heldC X CS → X.cell? ⟨rb, off + k * 10 + 1, none⟩ = some (.int .i64 fs) := fun X hx => heldC_get hx (by rw [hCS]; simp)
        have hq5 : ∀ X, heldC X CS → X.cell? ⟨rb, off + k * 10 + 2, none⟩ = some (.bool fon) := fun X hx => heldC_get hx (by rw [hCS]; simp)
        have hq6 : ∀ X, heldC X CS → X.cell? ⟨rb, off + k * 10 + 3, none⟩ = some (.string ⟨fc.toArray⟩) := fun X hx => heldC_get hx (by rw [hCS]; simp)
        have hq7 : ∀ X, heldC X CS → X.cell? ⟨rb, off + k * 10 + 4, none⟩ = some (.int .i64 fsh) := fun X hx => heldC_get hx (by rw [hCS]; simp)
        have hq8 : ∀ X, heldC X CS → X.cell? ⟨rb, off + k * 10 + 5, none⟩ = some (.int .i64 fpr) := fun X hx => heldC_get hx (by rw [hCS]; simp)
        have hq9 : ∀ X, heldC X CS → X.cell? ⟨rb, off + k * 10 + 6, none⟩ = some (.int .i64 fsi) := fun X hx => heldC_get hx (by rw [hCS]; simp)
        have hq10 : ∀ X, heldC X CS → X.cell? ⟨rb, off + k * 10 + 7, none⟩ = some (.string ⟨fst.toArray⟩) := fun X hx => heldC_get hx (by rw [hCS]; simp)
        have hq11 : ∀ X, heldC X CS → X.cell? ⟨rb, off + k * 10 + 8, none⟩ = some (.int .u64 fsum) := fun X hx => heldC_get hx (by rw [hCS]; simp)
        have hq12 : ∀ X, heldC X CS → X.cell? ⟨rb, off + k * 10 + 9, none⟩ = some (.slice ta ft.length tc) := fun X hx => heldC_get hx (by rw [hCS]; simp)
        clear hCS
        clear hBS
        have K0 : Hid (Below wr.heap.size wr wr.drew) := Lib.hid (Below.refl _ _).drew
        refine wp_region_held_drew (S := (fun X => heldC X CS)) (by kernel_rfl) ?_ (fun hHeld => ?_)
        · exact heldC_up K0.out D0.out
        generalize wr.drew = z0 at K0 hHeld ⊢
        refine wpAnyH_take (i := 0) (oi := { dst := some 28, op := Op.load 27 (Operand.tmp 7), type := 27, pos := "law.go:60", after := #[], guard := none }) (v := ?_) rfl (by as_aux_lemma => kernel_rfl) (by as_aux_lemma => kernel_rfl) (by as_aux_lemma => kernel_rfl) (fun _ _ _ h => h) (Or.inl ⟨by rfl, ?_⟩) (by assumption) ?_
        rotate_left
        · intro w' hSw
          try dsimp only at hSw
          go_simp
          try with_reducible rfl
        try simp only [Act.put, List.setIfInBounds_toArray, List.set_cons_zero, List.set_cons_succ]
        refine wpAnyH_take (i := 1) (oi := { dst := some 29, op := Op.move (Operand.tmp 0), type := 22, pos := "law.go:60", after := #[], guard := none }) (v := ?_) rfl (by as_aux_lemma => kernel_rfl) (by as_aux_lemma => kernel_rfl) (by as_aux_lemma => kernel_rfl) (fun _ _ _ h => h) (Or.inl ⟨by rfl, ?_⟩) (by assumption) ?_
        rotate_left
        · intro w' hSw
          try dsimp only at hSw
          go_simp
          try with_reducible rfl
        try simp only [Act.put, List.setIfInBounds_toArray, List.set_cons_zero, List.set_cons_succ]
        refine wpAnyH_take (i := 2) (oi := { dst := some 30, op := Op.move (Operand.tmp 8), type := 3, pos := "law.go:60", after := #[], guard := none }) (v := ?_) rfl (by as_aux_lemma => kernel_rfl) (by as_aux_lemma => kernel_rfl) (by as_aux_lemma => kernel_rfl) (fun _ _ _ h => h) (Or.inl ⟨by rfl, ?_⟩) (by assumption) ?_
        rotate_left
        · intro w' hSw
          try dsimp only at hSw
          go_simp
          try with_reducible rfl
        try simp only [Act.put, List.setIfInBounds_toArray, List.set_cons_zero, List.set_cons_succ]
        refine wpAnyH_take (i := 3) (oi := { dst := some 31, op := Op.indexAddr 22 (Operand.tmp 29) (Operand.tmp 30), type := 0, pos := "law.go:60", after := #[{ on := 1, ground := Ground.data }, { on := 2, ground := Ground.data }], guard := none }) (v := ?_) rfl (by as_aux_lemma => kernel_rfl) (by as_aux_lemma => kernel_rfl) (by as_aux_lemma => kernel_rfl) (fun _ _ _ h => h) (Or.inl ⟨by rfl, ?_⟩) (by assumption) ?_
        rotate_left
        · intro w' hSw
          try dsimp only at hSw
          go_simp
          try with_reducible rfl
        try simp only [Act.put, List.setIfInBounds_toArray, List.set_cons_zero, List.set_cons_succ]
        refine wpAnyH_take (i := 4) (oi := { dst := some 32, op := Op.load 34 (Operand.tmp 31), type := 34, pos := "law.go:60", after := #[{ on := 3, ground := Ground.data }], guard := none }) (v := ?_) rfl (by as_aux_lemma => kernel_rfl) (by as_aux_lemma => kernel_rfl) (by as_aux_lemma => kernel_rfl) (fun _ _ _ h => h) (Or.inl ⟨by rfl, ?_⟩) (by assumption) ?_
        rotate_left
        · intro w' hSw
          try dsimp only at hSw
          go_simp
          try with_reducible rfl
        try simp only [Act.put, List.setIfInBounds_toArray, List.set_cons_zero, List.set_cons_succ]
        refine wpAnyH_ready (rs := [5, 6]) (by as_aux_lemma => kernel_rfl) (by simp) ?_
        refine AllReadyH.cons (o := { dst := some 33, op := Op.call { callee := Callee.value (Operand.func 9), args := #[Operand.tmp 28, Operand.tmp 32], argTypes := #[27, 34] }, type := 27, pos := "law.go:60", after := #[{ on := 0, ground := Ground.data }, { on := 4, ground := Ground.data }], guard := none }) rfl (fun Kx hK => ?_) (AllReadyH.cons (o := { dst := some 9, op := Op.alloc 27, type := 0, pos := "law.go:60", after := #[], guard := none }) rfl (fun Kx hK => ?_) (AllReadyH.nil))
        · go_simp
          refine (clfeed_any (TCC.out.later (K0.out)) (HVT.out.later (K0.out)) n o HSC.out HSH.out r4 r5 r6 hlC r3 HFD).mono ?_
          rintro e z7001 ⟨uA, rfl, hA, bz7001⟩
          have K7001 := Lib.hid (below2Z K0.out bz7001)
          have D7001 := Lib.hid (heldC_up K7001.out D0.out)
          replace hA := CT.tab hA (TCC.out.later (K7001.out)) (HVT.out.later (K7001.out))
          obtain ⟨ua, uc, rfl, -⟩ := hA.open'
          have TA := Lib.hid hA
          clear hA
          clear bz7001
          go_wp2_with fail
          refine hK.out _ _ ?_ (fun hHeld2 => ?_)
          · exact D7001.out
          clear hK Kx hHeld
          have hHeld := hHeld2
          clear hHeld2
          try simp only [Act.put, List.setIfInBounds_toArray, List.set_cons_zero, List.set_cons_succ]
          refine wpAnyH_ready (rs := [6]) (by as_aux_lemma => kernel_rfl) (by simp) ?_
          refine AllReadyH.cons (o := { dst := some 9, op := Op.alloc 27, type := 0, pos := "law.go:60", after := #[], guard := none }) rfl (fun Kx hK => ?_) AllReadyH.nil
          go_simp
          refine hK.out _ _ ?_ (fun hHeld2 => ?_)
          · exact heldC_up (below2Z K7001.out (bl_newZ _ _)) D0.out
          clear hK Kx hHeld
          have hHeld := hHeld2
          clear hHeld2
          try simp only [Act.put, List.setIfInBounds_toArray, List.set_cons_zero, List.set_cons_succ]
          have bz7002 := bl_newZ z7001 (.cells #[.slice none 0 0, .int .i64 0, .bool false] 27)
          have K7002 := Lib.hid (below2Z K7001.out bz7002)
          have D7002 := Lib.hid (heldC_up K7002.out D0.out)
          have nz7002 := Lib.hid ((MapKept.heap_alloc z7001 (.cells #[.slice none 0 0, .int .i64 0, .bool false] 27)).1)
          have hB7002 : wr.heap.size ≤ z7001.heap.size := (K7001.out).size
          replace TA := Lib.hid (Tab.later (TA.out) bz7002)
          clear bz7002
          generalize z7001.alloc (.cells #[.slice none 0 0, .int .i64 0, .bool false] 27) = z7002 at K7002 D7002 nz7002 TA hHeld ⊢
          generalize z7001.heap.size = B7002 at nz7002 hB7002  ⊢
          obtain ⟨⟨r0, r1, r2⟩, ⟨g0, g1, g2⟩⟩ := blk3 nz7002.out
          refine wpAnyH_ready (rs := [7]) (by as_aux_lemma => kernel_rfl) (by simp) ?_
          refine AllReadyH.cons (o := { dst := none, op := Op.store 27 (Operand.tmp 9) (Operand.tmp 33), type := 0, pos := "law.go:60", after := #[{ on := 6, ground := Ground.data }, { on := 5, ground := Ground.data }, { on := 5, ground := Ground.chain }, { on := 0, ground := Ground.phase }, { on := 1, ground := Ground.phase }, { on := 2, ground := Ground.phase }, { on := 3, ground := Ground.phase }, { on := 4, ground := Ground.phase }, { on := 5, ground := Ground.phase }, { on := 6, ground := Ground.phase }], guard := none }) rfl (fun Kx hK => ?_) AllReadyH.nil
          go_simp
          clear r0 r1 r2 g0 g1 g2
          have YB := Lib.hid (stN3_heap nz7002.out (.slice ua t2.length uc) (.int .i64 n2) (.bool o2))
          have KE := Lib.hid (stN3_below (K7002.out) hB7002 (.slice ua t2.length uc) (.int .i64 n2) (.bool o2))
          have UZ := Lib.hid (tab_keepC TA.out nz7002.out (fun k hk => stN3_far z7002 B7002 (.slice ua t2.length uc) (.int .i64 n2) (.bool o2) hk) (by rw [stN3_size]; exact Nat.le_refl _))
          refine hK.out _ _ ?_ (fun hHeld2 => ?_)
          · exact heldC_up KE.out D0.out
          clear hK Kx hHeld
          have hHeld := hHeld2
          clear hHeld2
          refine wpAnyH_done (by kernel_rfl) ?_ _
          go_wp2_with fail
          go_meet
          exact ⟨B7002, ua, uc, rfl, hB7002, YB, UZ, KE⟩
        · go_simp
          refine hK.out _ _ ?_ (fun hHeld2 => ?_)
          · exact heldC_up (below2Z K0.out (bl_newZ _ _)) D0.out
          clear hK Kx hHeld
          have hHeld := hHeld2
          clear hHeld2
          try simp only [Act.put, List.setIfInBounds_toArray, List.set_cons_zero, List.set_cons_succ]
          have bz7004 := bl_newZ z0 (.cells #[.slice none 0 0, .int .i64 0, .bool false] 27)
          have K7004 := Lib.hid (below2Z K0.out bz7004)
          have D7004 := Lib.hid (heldC_up K7004.out D0.out)
          have nz7004 := Lib.hid ((MapKept.heap_alloc z0 (.cells #[.slice none 0 0, .int .i64 0, .bool false] 27)).1)
          have hB7004 : wr.heap.size ≤ z0.heap.size := (K0.out).size
          clear bz7004
          generalize z0.alloc (.cells #[.slice none 0 0, .int .i64 0, .bool false] 27) = z7004 at K7004 D7004 nz7004 hHeld ⊢
          generalize z0.heap.size = B7004 at nz7004 hB7004  ⊢
          refine wpAnyH_ready (rs := [5]) (by as_aux_lemma => kernel_rfl) (by simp) ?_
          refine AllReadyH.cons (o := { dst := some 33, op := Op.call { callee := Callee.value (Operand.func 9), args := #[Operand.tmp 28, Operand.tmp 32], argTypes := #[27, 34] }, type := 27, pos := "law.go:60", after := #[{ on := 0, ground := Ground.data }, { on := 4, ground := Ground.data }], guard := none }) rfl (fun Kx hK => ?_) AllReadyH.nil
          go_simp
          refine (clfeed_any (TCC.out.later (K7004.out)) (HVT.out.later (K7004.out)) n o HSC.out HSH.out r4 r5 r6 hlC r3 HFD).mono ?_
          rintro e z7005 ⟨uA, rfl, hA, bz7005⟩
          have K7005 := Lib.hid (below2Z K7004.out bz7005)
          have D7005 := Lib.hid (heldC_up K7005.out D0.out)
          replace nz7004 := Lib.hid (((bz7005).block _ (Array.getElem?_eq_some_iff.1 (nz7004.out)).1).trans (nz7004.out))
          replace hA := CT.tab hA (TCC.out.later (K7005.out)) (HVT.out.later (K7005.out))
          obtain ⟨ua, uc, rfl, -⟩ := hA.open'
          have TA := Lib.hid hA
          clear hA
          clear bz7005
          go_wp2_with fail
          refine hK.out _ _ ?_ (fun hHeld2 => ?_)
          · exact D7005.out
          clear hK Kx hHeld
          have hHeld := hHeld2
          clear hHeld2
          try simp only [Act.put, List.setIfInBounds_toArray, List.set_cons_zero, List.set_cons_succ]
          obtain ⟨⟨r0, r1, r2⟩, ⟨g0, g1, g2⟩⟩ := blk3 nz7004.out
          refine wpAnyH_ready (rs := [7]) (by as_aux_lemma => kernel_rfl) (by simp) ?_
          refine AllReadyH.cons (o := { dst := none, op := Op.store 27 (Operand.tmp 9) (Operand.tmp 33), type := 0, pos := "law.go:60", after := #[{ on := 6, ground := Ground.data }, { on := 5, ground := Ground.data }, { on := 5, ground := Ground.chain }, { on := 0, ground := Ground.phase }, { on := 1, ground := Ground.phase }, { on := 2, ground := Ground.phase }, { on := 3, ground := Ground.phase }, { on := 4, ground := Ground.phase }, { on := 5, ground := Ground.phase }, { on := 6, ground := Ground.phase }], guard := none }) rfl (fun Kx hK => ?_) AllReadyH.nil
          go_simp
          clear r0 r1 r2 g0 g1 g2
          have YB := Lib.hid (stN3_heap nz7004.out (.slice ua t2.length uc) (.int .i64 n2) (.bool o2))
          have KE := Lib.hid (stN3_below (K7005.out) hB7004 (.slice ua t2.length uc) (.int .i64 n2) (.bool o2))
          have UZ := Lib.hid (tab_keepC TA.out nz7004.out (fun k hk => stN3_far z7005 B7004 (.slice ua t2.length uc) (.int .i64 n2) (.bool o2) hk) (by rw [stN3_size]; exact Nat.le_refl _))
          refine hK.out _ _ ?_ (fun hHeld2 => ?_)
          · exact heldC_up KE.out D0.out
          clear hK Kx hHeld
          have hHeld := hHeld2
          clear hHeld2
          refine wpAnyH_done (by kernel_rfl) ?_ _
          go_wp2_with fail
          go_meet
          exact ⟨B7004, ua, uc, rfl, hB7004, YB, UZ, KE⟩
      case rest =>
        obtain ⟨BD, ua, uc, rfl, hBD, DD, TD, KB⟩ := hcut
        obtain ⟨w101, hw101⟩ : ∃ X, X = wc := ⟨_, rfl⟩
        subst hw101
        replace C := Lib.hid (upQ C.out KB.out)
        replace TCC := Lib.hid (Tab.later TCC.out KB.out)
        replace HVT := Lib.hid (Tab.later HVT.out KB.out)
        replace HB := Lib.hid (below2Z HB.out KB.out)
        replace hrow := Lib.hid (fun X (hX : Below w101.heap.size w101 X) => hrow.out X (below2Z KB.out hX))
        clear KB
        go_upto_region 8 with fail
        go_cut [54] from 34 to 53 (fun p wx => p = .bool false ∧ Hid (Below w101.heap.size w101 wx))
        case first =>
          obtain ⟨⟨Cc0, Cc1, Cc2⟩, -⟩ := blk3 C.out
          obtain ⟨⟨DDc0, DDc1, DDc2⟩, -⟩ := blk3 DD.out
          have q0 : w101.cell? ⟨rb, off + k * 10, none⟩ = some (.int .i64 fk) := hrow.out _ (Below.refl _ _) 0 _ rfl
          have q1 : w101.cell? ⟨rb, off + k * 10 + 1, none⟩ = some (.int .i64 fs) := hrow.out _ (Below.refl _ _) 1 _ rfl
          have q2 : w101.cell? ⟨rb, off + k * 10 + 2, none⟩ = some (.bool fon) := hrow.out _ (Below.refl _ _) 2 _ rfl
          have q3 : w101.cell? ⟨rb, off + k * 10 + 3, none⟩ = some (.string ⟨fc.toArray⟩) := hrow.out _ (Below.refl _ _) 3 _ rfl
          have q4 : w101.cell? ⟨rb, off + k * 10 + 4, none⟩ = some (.int .i64 fsh) := hrow.out _ (Below.refl _ _) 4 _ rfl
          have q5 : w101.cell? ⟨rb, off + k * 10 + 5, none⟩ = some (.int .i64 fpr) := hrow.out _ (Below.refl _ _) 5 _ rfl
          have q6 : w101.cell? ⟨rb, off + k * 10 + 6, none⟩ = some (.int .i64 fsi) := hrow.out _ (Below.refl _ _) 6 _ rfl
          have q7 : w101.cell? ⟨rb, off + k * 10 + 7, none⟩ = some (.string ⟨fst.toArray⟩) := hrow.out _ (Below.refl _ _) 7 _ rfl
          have q8 : w101.cell? ⟨rb, off + k * 10 + 8, none⟩ = some (.int .u64 fsum) := hrow.out _ (Below.refl _ _) 8 _ rfl
          have q9 : w101.cell? ⟨rb, off + k * 10 + 9, none⟩ = some (.slice ta ft.length tc) := hrow.out _ (Below.refl _ _) 9 _ rfl
          obtain ⟨BS, hBS⟩ : ∃ BS : List (Nat × List Value), BS = [] := ⟨_, rfl⟩
          obtain ⟨CS, hCS⟩ : ∃ CS : List (Nat × Nat × Value), CS = [(BC, 0, .slice ca t.length cc), (BC, 1, .int .i64 n), (BC, 2, .bool o), (BD, 0, .slice ua t2.length uc), (BD, 1, .int .i64 n2), (BD, 2, .bool o2), (rb, off + k * 10, .int .i64 fk), (rb, off + k * 10 + 1, .int .i64 fs), (rb, off + k * 10 + 2, .bool fon), (rb, off + k * 10 + 3, .string ⟨fc.toArray⟩), (rb, off + k * 10 + 4, .int .i64 fsh), (rb, off + k * 10 + 5, .int .i64 fpr), (rb, off + k * 10 + 6, .int .i64 fsi), (rb, off + k * 10 + 7, .string ⟨fst.toArray⟩), (rb, off + k * 10 + 8, .int .u64 fsum), (rb, off + k * 10 + 9, .slice ta ft.length tc)] := ⟨_, rfl⟩
          have D0 := Lib.hid (show heldC w101 CS from by rw [hCS]; exact heldC_cons (Cc0) (heldC_cons (Cc1) (heldC_cons (Cc2) (heldC_cons (DDc0) (heldC_cons (DDc1) (heldC_cons (DDc2) (heldC_cons (q0) (heldC_cons (q1) (heldC_cons (q2) (heldC_cons (q3) (heldC_cons (q4) (heldC_cons (q5) (heldC_cons (q6) (heldC_cons (q7) (heldC_cons (q8) (heldC_cons (q9) (heldC_nil _)))))))))))))))))
          have hq0 : ∀ X, heldC X CS → X.cell? ⟨BC, 0, none⟩ = some (.slice ca t.length cc) := fun X hx => heldC_get hx (by rw [hCS]; simp)
          have hq1 : ∀ X, heldC X CS → X.cell? ⟨BC, 1, none⟩ = some (.int .i64 n) := fun X hx => heldC_get hx (by rw [hCS]; simp)
          have hq2 : ∀ X, heldC X CS → X.cell? ⟨BC, 2, none⟩ = some (.bool o) := fun X hx => heldC_get hx (by rw [hCS]; simp)
          have hq3 : ∀ X, heldC X CS → X.cell? ⟨BD, 0, none⟩ = some (.slice ua t2.length uc) := fun X hx => heldC_get hx (by rw [hCS]; simp)
          have hq4 : ∀ X, heldC X CS → X.cell? ⟨BD, 1, none⟩ = some (.int .i64 n2) := fun X hx => heldC_get hx (by rw [hCS]; simp)
          have hq5 : ∀ X, heldC X CS → X.cell? ⟨BD, 2, none⟩ = some (.bool o2) := fun X hx => heldC_get hx (by rw [hCS]; simp)
          have hq6 : ∀ X, heldC X CS → X.cell? ⟨rb, off + k * 10, none⟩ = some (.int .i64 fk) := fun X hx => heldC_get hx (by rw [hCS]; simp)
          have hq7 : ∀ X, heldC X CS → X.cell? ⟨rb, off + k * 10 + 1, none⟩ = some (.int .i64 fs) := fun X hx => heldC_get hx (by rw [hCS]; simp)
          have hq8 : ∀ X, heldC X CS → X.cell? ⟨rb, off + k * 10 + 2, none⟩ = some (.bool fon) := fun X hx => heldC_get hx (by rw [hCS]; simp)
          have hq9 : ∀ X, heldC X CS → X.cell? ⟨rb, off + k * 10 + 3, none⟩ = some (.string ⟨fc.toArray⟩) := fun X hx => heldC_get hx (by rw [hCS]; simp)
          have hq10 : ∀ X, heldC X CS → X.cell? ⟨rb, off + k * 10 + 4, none⟩ = some (.int .i64 fsh) := fun X hx => heldC_get hx (by rw [hCS]; simp)
          have hq11 : ∀ X, heldC X CS → X.cell? ⟨rb, off + k * 10 + 5, none⟩ = some (.int .i64 fpr) := fun X hx => heldC_get hx (by rw [hCS]; simp)
          have hq12 : ∀ X, heldC X CS → X.cell? ⟨rb, off + k * 10 + 6, none⟩ = some (.int .i64 fsi) := fun X hx => heldC_get hx (by rw [hCS]; simp)
          have hq13 : ∀ X, heldC X CS → X.cell? ⟨rb, off + k * 10 + 7, none⟩ = some (.string ⟨fst.toArray⟩) := fun X hx => heldC_get hx (by rw [hCS]; simp)
          have hq14 : ∀ X, heldC X CS → X.cell? ⟨rb, off + k * 10 + 8, none⟩ = some (.int .u64 fsum) := fun X hx => heldC_get hx (by rw [hCS]; simp)
          have hq15 : ∀ X, heldC X CS → X.cell? ⟨rb, off + k * 10 + 9, none⟩ = some (.slice ta ft.length tc) := fun X hx => heldC_get hx (by rw [hCS]; simp)
          clear hCS
          clear hBS
          have K0 : Hid (Below w101.heap.size w101 w101.drew) := Lib.hid (Below.refl _ _).drew
          refine wp_region_held_drew (S := (fun X => heldC X CS)) (by kernel_rfl) ?_ (fun hHeld => ?_)
          · exact heldC_up K0.out D0.out
          generalize w101.drew = z0 at K0 hHeld ⊢
          refine wpAnyH_take (i := 0) (oi := { dst := some 34, op := Op.load 27 (Operand.tmp 9), type := 27, pos := "law.go:61", after := #[], guard := none }) (v := ?_) rfl (by as_aux_lemma => kernel_rfl) (by as_aux_lemma => kernel_rfl) (by as_aux_lemma => kernel_rfl) (fun _ _ _ h => h) (Or.inl ⟨by rfl, ?_⟩) (by assumption) ?_
          rotate_left
          · intro w' hSw
            try dsimp only at hSw
            go_simp
            try with_reducible rfl
          try simp only [Act.put, List.setIfInBounds_toArray, List.set_cons_zero, List.set_cons_succ]
          refine wpAnyH_ready (rs := [1]) (by as_aux_lemma => kernel_rfl) (by simp) ?_
          refine AllReadyH.cons (o := { dst := some 35, op := Op.call { callee := Callee.value (Operand.func 10), args := #[Operand.tmp 34], argTypes := #[27] }, type := 4, pos := "law.go:61", after := #[{ on := 0, ground := Ground.data }], guard := none }) rfl (fun Kx hK => ?_) AllReadyH.nil
          go_simp
          refine (clmay_eq (TD.out.later (K0.out)) HS2.out n2 o2 HM2).mono ?_
          rintro e z8001 ⟨rfl, bz8001⟩
          have K8001 := Lib.hid (below2Z K0.out bz8001)
          have D8001 := Lib.hid (heldC_up K8001.out D0.out)
          clear bz8001
          go_wp2_with fail
          refine hK.out _ _ ?_ (fun hHeld2 => ?_)
          · exact D8001.out
          clear hK Kx hHeld
          have hHeld := hHeld2
          clear hHeld2
          try simp only [Act.put, List.setIfInBounds_toArray, List.set_cons_zero, List.set_cons_succ]
          refine wpAnyH_take (i := 2) (oi := { dst := some 36, op := Op.unOp UnOp.not 4 (Operand.tmp 35), type := 4, pos := "law.go:61", after := #[{ on := 1, ground := Ground.data }], guard := none }) (v := ?_) rfl (by as_aux_lemma => kernel_rfl) (by as_aux_lemma => kernel_rfl) (by as_aux_lemma => kernel_rfl) (fun _ _ _ h => h) (Or.inl ⟨by rfl, ?_⟩) (by assumption) ?_
          rotate_left
          · intro w' hSw
            try dsimp only at hSw
            go_simp
            try with_reducible rfl
          try simp only [Act.put, List.setIfInBounds_toArray, List.set_cons_zero, List.set_cons_succ]
          refine wpAnyH_take (i := 3) (oi := { dst := some 37, op := Op.move (Operand.tmp 36), type := 4, pos := "law.go:61", after := #[{ on := 2, ground := Ground.data }, { on := 1, ground := Ground.chain }], guard := none }) (v := ?_) rfl (by as_aux_lemma => kernel_rfl) (by as_aux_lemma => kernel_rfl) (by as_aux_lemma => kernel_rfl) (fun _ _ _ h => h) (Or.inl ⟨by rfl, ?_⟩) (by assumption) ?_
          rotate_left
          · intro w' hSw
            try dsimp only at hSw
            go_simp
            try with_reducible rfl
          try simp only [Act.put, List.setIfInBounds_toArray, List.set_cons_zero, List.set_cons_succ]
          refine wpAnyH_take (i := 4) (oi := { dst := some 38, op := Op.fieldAddr 27 (Operand.tmp 9) 1, type := 0, pos := "law.go:61", after := #[{ on := 3, ground := Ground.guard }], guard := some (3, false) }) (v := ?_) rfl (by as_aux_lemma => kernel_rfl) (by as_aux_lemma => kernel_rfl) (by as_aux_lemma => kernel_rfl) (fun _ _ _ h => h) (Or.inl ⟨by rfl, ?_⟩) (by assumption) ?_
          rotate_left
          · intro w' hSw
            try dsimp only at hSw
            go_simp
            try with_reducible rfl
          try simp only [Act.put, List.setIfInBounds_toArray, List.set_cons_zero, List.set_cons_succ]
          refine wpAnyH_take (i := 5) (oi := { dst := some 39, op := Op.load 3 (Operand.tmp 38), type := 3, pos := "law.go:61", after := #[{ on := 4, ground := Ground.data }, { on := 3, ground := Ground.guard }], guard := some (3, false) }) (v := ?_) rfl (by as_aux_lemma => kernel_rfl) (by as_aux_lemma => kernel_rfl) (by as_aux_lemma => kernel_rfl) (fun _ _ _ h => h) (Or.inl ⟨by rfl, ?_⟩) (by assumption) ?_
          rotate_left
          · intro w' hSw
            try dsimp only at hSw
            go_simp
            try with_reducible rfl
          try simp only [Act.put, List.setIfInBounds_toArray, List.set_cons_zero, List.set_cons_succ]
          refine wpAnyH_take (i := 6) (oi := { dst := some 40, op := Op.fieldAddr 27 (Operand.tmp 7) 1, type := 0, pos := "law.go:61", after := #[{ on := 3, ground := Ground.guard }], guard := some (3, false) }) (v := ?_) rfl (by as_aux_lemma => kernel_rfl) (by as_aux_lemma => kernel_rfl) (by as_aux_lemma => kernel_rfl) (fun _ _ _ h => h) (Or.inl ⟨by rfl, ?_⟩) (by assumption) ?_
          rotate_left
          · intro w' hSw
            try dsimp only at hSw
            go_simp
            try with_reducible rfl
          try simp only [Act.put, List.setIfInBounds_toArray, List.set_cons_zero, List.set_cons_succ]
          refine wpAnyH_take (i := 7) (oi := { dst := some 41, op := Op.load 3 (Operand.tmp 40), type := 3, pos := "law.go:61", after := #[{ on := 6, ground := Ground.data }, { on := 3, ground := Ground.guard }], guard := some (3, false) }) (v := ?_) rfl (by as_aux_lemma => kernel_rfl) (by as_aux_lemma => kernel_rfl) (by as_aux_lemma => kernel_rfl) (fun _ _ _ h => h) (Or.inl ⟨by rfl, ?_⟩) (by assumption) ?_
          rotate_left
          · intro w' hSw
            try dsimp only at hSw
            go_simp
            try with_reducible rfl
          try simp only [Act.put, List.setIfInBounds_toArray, List.set_cons_zero, List.set_cons_succ]
          refine wpAnyH_take (i := 8) (oi := { dst := some 42, op := Op.binOp BinOp.lss 3 (Operand.tmp 39) (Operand.tmp 41) 3, type := 4, pos := "law.go:61", after := #[{ on := 5, ground := Ground.data }, { on := 7, ground := Ground.data }, { on := 3, ground := Ground.guard }], guard := some (3, false) }) (v := ?_) rfl (by as_aux_lemma => kernel_rfl) (by as_aux_lemma => kernel_rfl) (by as_aux_lemma => kernel_rfl) (fun _ _ _ h => h) (Or.inl ⟨by rfl, ?_⟩) (by assumption) ?_
          rotate_left
          · intro w' hSw
            try dsimp only at hSw
            go_simp
            try with_reducible rfl
          try simp only [Act.put, List.setIfInBounds_toArray, List.set_cons_zero, List.set_cons_succ]
          refine wpAnyH_take (i := 9) (oi := { dst := some 43, op := Op.pick (Operand.tmp 37) (Operand.const (Value.bool true)) (Operand.tmp 42), type := 4, pos := "law.go:61", after := #[{ on := 3, ground := Ground.data }, { on := 8, ground := Ground.data }], guard := none }) (v := ?_) rfl (by as_aux_lemma => kernel_rfl) (by as_aux_lemma => kernel_rfl) (by as_aux_lemma => kernel_rfl) (fun _ _ _ h => h) (Or.inl ⟨by rfl, ?_⟩) (by assumption) ?_
          rotate_left
          · intro w' hSw
            try dsimp only at hSw
            go_simp
            try with_reducible rfl
          try simp only [Act.put, List.setIfInBounds_toArray, List.set_cons_zero, List.set_cons_succ]
          refine wpAnyH_take (i := 10) (oi := { dst := some 44, op := Op.move (Operand.tmp 43), type := 4, pos := "law.go:61", after := #[{ on := 9, ground := Ground.data }, { on := 3, ground := Ground.chain }], guard := none }) (v := ?_) rfl (by as_aux_lemma => kernel_rfl) (by as_aux_lemma => kernel_rfl) (by as_aux_lemma => kernel_rfl) (fun _ _ _ h => h) (Or.inl ⟨by rfl, ?_⟩) (by assumption) ?_
          rotate_left
          · intro w' hSw
            try dsimp only at hSw
            go_simp
            try with_reducible rfl
          try simp only [Act.put, List.setIfInBounds_toArray, List.set_cons_zero, List.set_cons_succ]
          refine wpAnyH_take (i := 11) (oi := { dst := some 45, op := Op.load 27 (Operand.tmp 9), type := 27, pos := "law.go:61", after := #[{ on := 10, ground := Ground.guard }], guard := some (10, false) }) (v := ?_) rfl (by as_aux_lemma => kernel_rfl) (by as_aux_lemma => kernel_rfl) (by as_aux_lemma => kernel_rfl) (fun _ _ _ h => h) (Or.inl ⟨by rfl, ?_⟩) (by assumption) ?_
          rotate_left
          · intro w' hSw
            try dsimp only at hSw
            go_simp
            try with_reducible rfl
          try simp only [Act.put, List.setIfInBounds_toArray, List.set_cons_zero, List.set_cons_succ]
          refine wpAnyH_take (i := 12) (oi := { dst := some 46, op := Op.move (Operand.tmp 0), type := 22, pos := "law.go:61", after := #[{ on := 10, ground := Ground.guard }], guard := some (10, false) }) (v := ?_) rfl (by as_aux_lemma => kernel_rfl) (by as_aux_lemma => kernel_rfl) (by as_aux_lemma => kernel_rfl) (fun _ _ _ h => h) (Or.inl ⟨by rfl, ?_⟩) (by assumption) ?_
          rotate_left
          · intro w' hSw
            try dsimp only at hSw
            go_simp
            try with_reducible rfl
          try simp only [Act.put, List.setIfInBounds_toArray, List.set_cons_zero, List.set_cons_succ]
          refine wpAnyH_take (i := 13) (oi := { dst := some 47, op := Op.move (Operand.tmp 8), type := 3, pos := "law.go:61", after := #[{ on := 10, ground := Ground.guard }], guard := some (10, false) }) (v := ?_) rfl (by as_aux_lemma => kernel_rfl) (by as_aux_lemma => kernel_rfl) (by as_aux_lemma => kernel_rfl) (fun _ _ _ h => h) (Or.inl ⟨by rfl, ?_⟩) (by assumption) ?_
          rotate_left
          · intro w' hSw
            try dsimp only at hSw
            go_simp
            try with_reducible rfl
          try simp only [Act.put, List.setIfInBounds_toArray, List.set_cons_zero, List.set_cons_succ]
          refine wpAnyH_take (i := 14) (oi := { dst := some 48, op := Op.indexAddr 22 (Operand.tmp 46) (Operand.tmp 47), type := 0, pos := "law.go:61", after := #[{ on := 12, ground := Ground.data }, { on := 13, ground := Ground.data }, { on := 10, ground := Ground.guard }], guard := some (10, false) }) (v := ?_) rfl (by as_aux_lemma => kernel_rfl) (by as_aux_lemma => kernel_rfl) (by as_aux_lemma => kernel_rfl) (fun _ _ _ h => h) (Or.inl ⟨by rfl, ?_⟩) (by assumption) ?_
          rotate_left
          · intro w' hSw
            try dsimp only at hSw
            go_simp
            try with_reducible rfl
          try simp only [Act.put, List.setIfInBounds_toArray, List.set_cons_zero, List.set_cons_succ]
          refine wpAnyH_take (i := 15) (oi := { dst := some 49, op := Op.load 34 (Operand.tmp 48), type := 34, pos := "law.go:61", after := #[{ on := 14, ground := Ground.data }, { on := 10, ground := Ground.guard }], guard := some (10, false) }) (v := ?_) rfl (by as_aux_lemma => kernel_rfl) (by as_aux_lemma => kernel_rfl) (by as_aux_lemma => kernel_rfl) (fun _ _ _ h => h) (Or.inl ⟨by rfl, ?_⟩) (by assumption) ?_
          rotate_left
          · intro w' hSw
            try dsimp only at hSw
            go_simp
            try with_reducible rfl
          try simp only [Act.put, List.setIfInBounds_toArray, List.set_cons_zero, List.set_cons_succ]
          refine wpAnyH_take (i := 17) (oi := { dst := some 51, op := Op.load 27 (Operand.tmp 9), type := 27, pos := "law.go:61", after := #[{ on := 10, ground := Ground.guard }], guard := some (10, false) }) (v := ?_) rfl (by as_aux_lemma => kernel_rfl) (by as_aux_lemma => kernel_rfl) (by as_aux_lemma => kernel_rfl) (fun _ _ _ h => h) (Or.inl ⟨by rfl, ?_⟩) (by assumption) ?_
          rotate_left
          · intro w' hSw
            try dsimp only at hSw
            go_simp
            try with_reducible rfl
          try simp only [Act.put, List.setIfInBounds_toArray, List.set_cons_zero, List.set_cons_succ]
          refine wpAnyH_ready (rs := [16]) (by as_aux_lemma => kernel_rfl) (by simp) ?_
          refine AllReadyH.cons (o := { dst := some 50, op := Op.call { callee := Callee.value (Operand.func 9), args := #[Operand.tmp 45, Operand.tmp 49], argTypes := #[27, 34] }, type := 27, pos := "law.go:61", after := #[{ on := 11, ground := Ground.data }, { on := 15, ground := Ground.data }, { on := 10, ground := Ground.chain }, { on := 10, ground := Ground.guard }], guard := some (10, false) }) rfl (fun Kx hK => ?_) AllReadyH.nil
          go_simp
          refine (clfeed_any (TD.out.later (K8001.out)) (HVT.out.later (K8001.out)) n2 o2 HS2.out HSH.out r4 r5 r6 hl2 r3 HF2).mono ?_
          rintro e z8002 ⟨uE, rfl, hE, bz8002⟩
          have K8002 := Lib.hid (below2Z K8001.out bz8002)
          have D8002 := Lib.hid (heldC_up K8002.out D0.out)
          replace hE := CT.tab hE (TD.out.later (K8002.out)) (HVT.out.later (K8002.out))
          obtain ⟨ea, ec, rfl, -⟩ := hE.open'
          have TE := Lib.hid hE
          clear hE
          clear bz8002
          go_wp2_with fail
          refine hK.out _ _ ?_ (fun hHeld2 => ?_)
          · exact D8002.out
          clear hK Kx hHeld
          have hHeld := hHeld2
          clear hHeld2
          try simp only [Act.put, List.setIfInBounds_toArray, List.set_cons_zero, List.set_cons_succ]
          refine wpAnyH_ready (rs := [18]) (by as_aux_lemma => kernel_rfl) (by simp) ?_
          refine AllReadyH.cons (o := { dst := some 52, op := Op.call { callee := Callee.value (Operand.func 11), args := #[Operand.tmp 50, Operand.tmp 51], argTypes := #[27, 27] }, type := 4, pos := "law.go:61", after := #[{ on := 16, ground := Ground.data }, { on := 17, ground := Ground.data }, { on := 16, ground := Ground.chain }, { on := 10, ground := Ground.guard }], guard := some (10, false) }) rfl (fun Kx hK => ?_) AllReadyH.nil
          go_simp
          refine (clsame_eq TE.out (TD.out.later (K8002.out)) n2 n2 o2 o2 (Lib.hid (clSame_self _))).mono ?_
          rintro e z8003 ⟨rfl, bz8003⟩
          have K8003 := Lib.hid (below2Z K8002.out bz8003)
          have D8003 := Lib.hid (heldC_up K8003.out D0.out)
          replace TE := Lib.hid (Tab.later (TE.out) bz8003)
          clear bz8003
          go_wp2_with fail
          refine hK.out _ _ ?_ (fun hHeld2 => ?_)
          · exact D8003.out
          clear hK Kx hHeld
          have hHeld := hHeld2
          clear hHeld2
          try simp only [Act.put, List.setIfInBounds_toArray, List.set_cons_zero, List.set_cons_succ]
          refine wpAnyH_take (i := 19) (oi := { dst := some 53, op := Op.unOp UnOp.not 4 (Operand.tmp 52), type := 4, pos := "law.go:61", after := #[{ on := 18, ground := Ground.data }, { on := 10, ground := Ground.guard }], guard := some (10, false) }) (v := ?_) rfl (by as_aux_lemma => kernel_rfl) (by as_aux_lemma => kernel_rfl) (by as_aux_lemma => kernel_rfl) (fun _ _ _ h => h) (Or.inl ⟨by rfl, ?_⟩) (by assumption) ?_
          rotate_left
          · intro w' hSw
            try dsimp only at hSw
            go_simp
            try with_reducible rfl
          try simp only [Act.put, List.setIfInBounds_toArray, List.set_cons_zero, List.set_cons_succ]
          refine wpAnyH_take (i := 20) (oi := { dst := some 54, op := Op.pick (Operand.tmp 44) (Operand.const (Value.bool true)) (Operand.tmp 53), type := 4, pos := "law.go:61", after := #[{ on := 10, ground := Ground.data }, { on := 19, ground := Ground.data }], guard := none }) (v := ?_) rfl (by as_aux_lemma => kernel_rfl) (by as_aux_lemma => kernel_rfl) (by as_aux_lemma => kernel_rfl) (fun _ _ _ h => h) (Or.inl ⟨by rfl, ?_⟩) (by assumption) ?_
          rotate_left
          · intro w' hSw
            try dsimp only at hSw
            go_simp
            try with_reducible rfl
          try simp only [Act.put, List.setIfInBounds_toArray, List.set_cons_zero, List.set_cons_succ]
          refine wpAnyH_done (by kernel_rfl) ?_ _
          go_wp2_with fail
          go_meet
          exact ⟨rfl, K8003⟩
        case rest =>
          obtain ⟨rfl, KB⟩ := hcut
          obtain ⟨w102, hw102⟩ : ∃ X, X = wc := ⟨_, rfl⟩
          subst hw102
          replace C := Lib.hid (upQ C.out KB.out)
          replace DD := Lib.hid (upQ DD.out KB.out)
          replace TCC := Lib.hid (Tab.later TCC.out KB.out)
          replace HVT := Lib.hid (Tab.later HVT.out KB.out)
          replace TD := Lib.hid (Tab.later TD.out KB.out)
          replace HB := Lib.hid (below2Z HB.out KB.out)
          replace hrow := Lib.hid (fun X (hX : Below w102.heap.size w102 X) => hrow.out X (below2Z KB.out hX))
          clear KB
          go_upto_region 10 with fail
          go_cut [72] from 55 to 71 (fun p wx => p = .bool false ∧ Hid (Below w102.heap.size w102 wx))
          case first =>
            by_cases ha0 : a < 0
            case pos =>
              have g2 : decide (0 ≤ a) = false := by rw [decide_eq_false_iff_not]; omega
              go_region
              go_wp2_with fail
              go_meet
              exact ⟨rfl, Lib.hid (Below.refl _ _).drew⟩
            case neg =>
            obtain ⟨m, rfl⟩ := Int.eq_ofNat_of_zero_le (show 0 ≤ a by omega)
            have g2 : decide (0 ≤ (m : Int)) = true := by rw [decide_eq_true_eq]; omega
            by_cases hmk : k < m
            case pos =>
              have g3 : decide ((m : Int) ≤ (k : Int)) = false := by rw [decide_eq_false_iff_not]; omega
              have g3b : decide (m ≤ k) = false := by rw [decide_eq_false_iff_not]; omega
              go_region
              go_wp2_with fail
              go_meet
              exact ⟨rfl, Lib.hid (Below.refl _ _).drew⟩
            case neg =>
              have g3 : decide ((m : Int) ≤ (k : Int)) = true := by rw [decide_eq_true_eq]; omega
              have g3b : decide (m ≤ k) = true := by rw [decide_eq_true_eq]; omega
              have hml : m < l.length := by omega
              obtain ⟨mb, mo, heq, hc⟩ := HV.out.row HB.out m hml
              simp only [Option.some.injEq, Addr.mk.injEq] at heq
              obtain ⟨rfl, rfl, -⟩ := heq
              obtain ⟨p, hp⟩ : ∃ p, l.getD m FrS.zero = p := ⟨_, rfl⟩
              obtain ⟨r1, r2, z3, z4, z5, z6, r7⟩ := fr_all HFT.out HFEW.out hml hp
              have hpm : clPast n2 p.f := by
                rw [← hp]
                by_cases hmk2 : m = k
                · rw [hmk2, HP.out]; exact HPK.out
                · exact clPast_mono (HPA.out m (by omega)) hnn
              rw [hp] at hc
              clear hp
              obtain ⟨⟨mfk, mfs, mfon, mfc, ⟨mfsh, mfpr, mfsi, mfst⟩, mfsum, mft⟩, mta, mtn, mtc⟩ := p
              simp only [FrS.tv] at r1 r2 z3 z4 z5 z6 r7
              subst r7
              simp only at hpm
              have HF3 : Hid (clFeed ⟨t2, n2, o2⟩ ⟨mfk, mfs, mfon, mfc, ⟨mfsh, mfpr, mfsi, mfst⟩, mfsum, mft⟩ = ⟨t2, n2, o2⟩) := Lib.hid (clPast_feed (c := ⟨t2, n2, o2⟩) hpm)
              have HVM := Lib.hid (r1.later HB.out)
              have HSM := Lib.hid r2
              clear r1 r2 hpm
              obtain ⟨⟨DDc0, DDc1, DDc2⟩, -⟩ := blk3 DD.out
              have q0 : w102.cell? ⟨rb, off + m * 10, none⟩ = some (.int .i64 mfk) := hc 0 _ rfl
              have q1 : w102.cell? ⟨rb, off + m * 10 + 1, none⟩ = some (.int .i64 mfs) := hc 1 _ rfl
              have q2 : w102.cell? ⟨rb, off + m * 10 + 2, none⟩ = some (.bool mfon) := hc 2 _ rfl
              have q3 : w102.cell? ⟨rb, off + m * 10 + 3, none⟩ = some (.string ⟨mfc.toArray⟩) := hc 3 _ rfl
              have q4 : w102.cell? ⟨rb, off + m * 10 + 4, none⟩ = some (.int .i64 mfsh) := hc 4 _ rfl
              have q5 : w102.cell? ⟨rb, off + m * 10 + 5, none⟩ = some (.int .i64 mfpr) := hc 5 _ rfl
              have q6 : w102.cell? ⟨rb, off + m * 10 + 6, none⟩ = some (.int .i64 mfsi) := hc 6 _ rfl
              have q7 : w102.cell? ⟨rb, off + m * 10 + 7, none⟩ = some (.string ⟨mfst.toArray⟩) := hc 7 _ rfl
              have q8 : w102.cell? ⟨rb, off + m * 10 + 8, none⟩ = some (.int .u64 mfsum) := hc 8 _ rfl
              have q9 : w102.cell? ⟨rb, off + m * 10 + 9, none⟩ = some (.slice mta mft.length mtc) := hc 9 _ rfl
              obtain ⟨BS, hBS⟩ : ∃ BS : List (Nat × List Value), BS = [] := ⟨_, rfl⟩
              obtain ⟨CS, hCS⟩ : ∃ CS : List (Nat × Nat × Value), CS = [(BD, 0, .slice ua t2.length uc), (BD, 1, .int .i64 n2), (BD, 2, .bool o2), (rb, off + m * 10, .int .i64 mfk), (rb, off + m * 10 + 1, .int .i64 mfs), (rb, off + m * 10 + 2, .bool mfon), (rb, off + m * 10 + 3, .string ⟨mfc.toArray⟩), (rb, off + m * 10 + 4, .int .i64 mfsh), (rb, off + m * 10 + 5, .int .i64 mfpr), (rb, off + m * 10 + 6, .int .i64 mfsi), (rb, off + m * 10 + 7, .string ⟨mfst.toArray⟩), (rb, off + m * 10 + 8, .int .u64 mfsum), (rb, off + m * 10 + 9, .slice mta mft.length mtc)] := ⟨_, rfl⟩
              have D0 := Lib.hid (show heldC w102 CS from by rw [hCS]; exact heldC_cons (DDc0) (heldC_cons (DDc1) (heldC_cons (DDc2) (heldC_cons (q0) (heldC_cons (q1) (heldC_cons (q2) (heldC_cons (q3) (heldC_cons (q4) (heldC_cons (q5) (heldC_cons (q6) (heldC_cons (q7) (heldC_cons (q8) (heldC_cons (q9) (heldC_nil _))))))))))))))
              have hq0 : ∀ X, heldC X CS → X.cell? ⟨BD, 0, none⟩ = some (.slice ua t2.length uc) := fun X hx => heldC_get hx (by rw [hCS]; simp)
              have hq1 : ∀ X, heldC X CS → X.cell? ⟨BD, 1, none⟩ = some (.int .i64 n2) := fun X hx => heldC_get hx (by rw [hCS]; simp)
              have hq2 : ∀ X, heldC X CS → X.cell? ⟨BD, 2, none⟩ = some (.bool o2) := fun X hx => heldC_get hx (by rw [hCS]; simp)
              have hq3 : ∀ X, heldC X CS → X.cell? ⟨rb, off + m * 10, none⟩ = some (.int .i64 mfk) := fun X hx => heldC_get hx (by rw [hCS]; simp)
              have hq4 : ∀ X, heldC X CS → X.cell? ⟨rb, off + m * 10 + 1, none⟩ = some (.int .i64 mfs) := fun X hx => heldC_get hx (by rw [hCS]; simp)
              have hq5 : ∀ X, heldC X CS → X.cell? ⟨rb, off + m * 10 + 2, none⟩ = some (.bool mfon) := fun X hx => heldC_get hx (by rw [hCS]; simp)
              have hq6 : ∀ X, heldC X CS → X.cell? ⟨rb, off + m * 10 + 3, none⟩ = some (.string ⟨mfc.toArray⟩) := fun X hx => heldC_get hx (by rw [hCS]; simp)
              have hq7 : ∀ X, heldC X CS → X.cell? ⟨rb, off + m * 10 + 4, none⟩ = some (.int .i64 mfsh) := fun X hx => heldC_get hx (by rw [hCS]; simp)
              have hq8 : ∀ X, heldC X CS → X.cell? ⟨rb, off + m * 10 + 5, none⟩ = some (.int .i64 mfpr) := fun X hx => heldC_get hx (by rw [hCS]; simp)
              have hq9 : ∀ X, heldC X CS → X.cell? ⟨rb, off + m * 10 + 6, none⟩ = some (.int .i64 mfsi) := fun X hx => heldC_get hx (by rw [hCS]; simp)
              have hq10 : ∀ X, heldC X CS → X.cell? ⟨rb, off + m * 10 + 7, none⟩ = some (.string ⟨mfst.toArray⟩) := fun X hx => heldC_get hx (by rw [hCS]; simp)
              have hq11 : ∀ X, heldC X CS → X.cell? ⟨rb, off + m * 10 + 8, none⟩ = some (.int .u64 mfsum) := fun X hx => heldC_get hx (by rw [hCS]; simp)
              have hq12 : ∀ X, heldC X CS → X.cell? ⟨rb, off + m * 10 + 9, none⟩ = some (.slice mta mft.length mtc) := fun X hx => heldC_get hx (by rw [hCS]; simp)
              clear hCS
              clear hBS
              have K0 : Hid (Below w102.heap.size w102 w102.drew) := Lib.hid (Below.refl _ _).drew
              refine wp_region_held_drew (S := (fun X => heldC X CS)) (by kernel_rfl) ?_ (fun hHeld => ?_)
              · exact heldC_up K0.out D0.out
              generalize w102.drew = z0 at K0 hHeld ⊢
              refine wpAnyH_take (i := 0) (oi := { dst := some 55, op := Op.move (Operand.tmp 1), type := 3, pos := "law.go:64", after := #[], guard := none }) (v := ?_) rfl (by as_aux_lemma => kernel_rfl) (by as_aux_lemma => kernel_rfl) (by as_aux_lemma => kernel_rfl) (fun _ _ _ h => h) (Or.inl ⟨by rfl, ?_⟩) (by assumption) ?_
              rotate_left
              · intro w' hSw
                try dsimp only at hSw
                go_simp
                try with_reducible rfl
              try simp only [Act.put, List.setIfInBounds_toArray, List.set_cons_zero, List.set_cons_succ]
              refine wpAnyH_take (i := 1) (oi := { dst := some 56, op := Op.binOp BinOp.geq 3 (Operand.tmp 55) (Operand.const (Value.int IntKind.i64 0)) 3, type := 4, pos := "law.go:64", after := #[{ on := 0, ground := Ground.data }], guard := none }) (v := ?_) rfl (by as_aux_lemma => kernel_rfl) (by as_aux_lemma => kernel_rfl) (by as_aux_lemma => kernel_rfl) (fun _ _ _ h => h) (Or.inl ⟨by rfl, ?_⟩) (by assumption) ?_
              rotate_left
              · intro w' hSw
                try dsimp only at hSw
                go_simp
                try with_reducible rfl
              try simp only [Act.put, List.setIfInBounds_toArray, List.set_cons_zero, List.set_cons_succ]
              refine wpAnyH_take (i := 2) (oi := { dst := some 57, op := Op.move (Operand.tmp 56), type := 4, pos := "law.go:64", after := #[{ on := 1, ground := Ground.data }], guard := none }) (v := ?_) rfl (by as_aux_lemma => kernel_rfl) (by as_aux_lemma => kernel_rfl) (by as_aux_lemma => kernel_rfl) (fun _ _ _ h => h) (Or.inl ⟨by rfl, ?_⟩) (by assumption) ?_
              rotate_left
              · intro w' hSw
                try dsimp only at hSw
                go_simp
                try with_reducible rfl
              try simp only [Act.put, List.setIfInBounds_toArray, List.set_cons_zero, List.set_cons_succ]
              refine wpAnyH_take (i := 3) (oi := { dst := some 58, op := Op.move (Operand.tmp 1), type := 3, pos := "law.go:64", after := #[{ on := 2, ground := Ground.guard }], guard := some (2, true) }) (v := ?_) rfl (by as_aux_lemma => kernel_rfl) (by as_aux_lemma => kernel_rfl) (by as_aux_lemma => kernel_rfl) (fun _ _ _ h => h) (Or.inl ⟨by rfl, ?_⟩) (by assumption) ?_
              rotate_left
              · intro w' hSw
                try dsimp only at hSw
                go_simp
                try with_reducible rfl
              try simp only [Act.put, List.setIfInBounds_toArray, List.set_cons_zero, List.set_cons_succ]
              refine wpAnyH_take (i := 4) (oi := { dst := some 59, op := Op.move (Operand.tmp 8), type := 3, pos := "law.go:64", after := #[{ on := 2, ground := Ground.guard }], guard := some (2, true) }) (v := ?_) rfl (by as_aux_lemma => kernel_rfl) (by as_aux_lemma => kernel_rfl) (by as_aux_lemma => kernel_rfl) (fun _ _ _ h => h) (Or.inl ⟨by rfl, ?_⟩) (by assumption) ?_
              rotate_left
              · intro w' hSw
                try dsimp only at hSw
                go_simp
                try with_reducible rfl
              try simp only [Act.put, List.setIfInBounds_toArray, List.set_cons_zero, List.set_cons_succ]
              refine wpAnyH_take (i := 5) (oi := { dst := some 60, op := Op.binOp BinOp.leq 3 (Operand.tmp 58) (Operand.tmp 59) 3, type := 4, pos := "law.go:64", after := #[{ on := 3, ground := Ground.data }, { on := 4, ground := Ground.data }, { on := 2, ground := Ground.guard }], guard := some (2, true) }) (v := ?_) rfl (by as_aux_lemma => kernel_rfl) (by as_aux_lemma => kernel_rfl) (by as_aux_lemma => kernel_rfl) (fun _ _ _ h => h) (Or.inl ⟨by rfl, ?_⟩) (by assumption) ?_
              rotate_left
              · intro w' hSw
                try dsimp only at hSw
                go_simp
                try with_reducible rfl
              try simp only [Act.put, List.setIfInBounds_toArray, List.set_cons_zero, List.set_cons_succ]
              refine wpAnyH_take (i := 6) (oi := { dst := some 61, op := Op.pick (Operand.tmp 57) (Operand.tmp 60) (Operand.const (Value.bool false)), type := 4, pos := "law.go:64", after := #[{ on := 2, ground := Ground.data }, { on := 5, ground := Ground.data }], guard := none }) (v := ?_) rfl (by as_aux_lemma => kernel_rfl) (by as_aux_lemma => kernel_rfl) (by as_aux_lemma => kernel_rfl) (fun _ _ _ h => h) (Or.inl ⟨by rfl, ?_⟩) (by assumption) ?_
              rotate_left
              · intro w' hSw
                try dsimp only at hSw
                go_simp
                try with_reducible rfl
              try simp only [Act.put, List.setIfInBounds_toArray, List.set_cons_zero, List.set_cons_succ]
              refine wpAnyH_take (i := 7) (oi := { dst := some 62, op := Op.move (Operand.tmp 61), type := 4, pos := "law.go:64", after := #[{ on := 6, ground := Ground.data }, { on := 2, ground := Ground.chain }], guard := none }) (v := ?_) rfl (by as_aux_lemma => kernel_rfl) (by as_aux_lemma => kernel_rfl) (by as_aux_lemma => kernel_rfl) (fun _ _ _ h => h) (Or.inl ⟨by rfl, ?_⟩) (by assumption) ?_
              rotate_left
              · intro w' hSw
                try dsimp only at hSw
                go_simp
                try with_reducible rfl
              try simp only [Act.put, List.setIfInBounds_toArray, List.set_cons_zero, List.set_cons_succ]
              refine wpAnyH_take (i := 8) (oi := { dst := some 63, op := Op.load 27 (Operand.tmp 9), type := 27, pos := "law.go:64", after := #[{ on := 7, ground := Ground.guard }], guard := some (7, true) }) (v := ?_) rfl (by as_aux_lemma => kernel_rfl) (by as_aux_lemma => kernel_rfl) (by as_aux_lemma => kernel_rfl) (fun _ _ _ h => h) (Or.inl ⟨by rfl, ?_⟩) (by assumption) ?_
              rotate_left
              · intro w' hSw
                try dsimp only at hSw
                go_simp
                try with_reducible rfl
              try simp only [Act.put, List.setIfInBounds_toArray, List.set_cons_zero, List.set_cons_succ]
              refine wpAnyH_take (i := 9) (oi := { dst := some 64, op := Op.move (Operand.tmp 0), type := 22, pos := "law.go:64", after := #[{ on := 7, ground := Ground.guard }], guard := some (7, true) }) (v := ?_) rfl (by as_aux_lemma => kernel_rfl) (by as_aux_lemma => kernel_rfl) (by as_aux_lemma => kernel_rfl) (fun _ _ _ h => h) (Or.inl ⟨by rfl, ?_⟩) (by assumption) ?_
              rotate_left
              · intro w' hSw
                try dsimp only at hSw
                go_simp
                try with_reducible rfl
              try simp only [Act.put, List.setIfInBounds_toArray, List.set_cons_zero, List.set_cons_succ]
              refine wpAnyH_take (i := 10) (oi := { dst := some 65, op := Op.move (Operand.tmp 1), type := 3, pos := "law.go:64", after := #[{ on := 7, ground := Ground.guard }], guard := some (7, true) }) (v := ?_) rfl (by as_aux_lemma => kernel_rfl) (by as_aux_lemma => kernel_rfl) (by as_aux_lemma => kernel_rfl) (fun _ _ _ h => h) (Or.inl ⟨by rfl, ?_⟩) (by assumption) ?_
              rotate_left
              · intro w' hSw
                try dsimp only at hSw
                go_simp
                try with_reducible rfl
              try simp only [Act.put, List.setIfInBounds_toArray, List.set_cons_zero, List.set_cons_succ]
              refine wpAnyH_take (i := 11) (oi := { dst := some 66, op := Op.indexAddr 22 (Operand.tmp 64) (Operand.tmp 65), type := 0, pos := "law.go:64", after := #[{ on := 9, ground := Ground.data }, { on := 10, ground := Ground.data }, { on := 7, ground := Ground.guard }], guard := some (7, true) }) (v := ?_) rfl (by as_aux_lemma => kernel_rfl) (by as_aux_lemma => kernel_rfl) (by as_aux_lemma => kernel_rfl) (fun _ _ _ h => h) (Or.inl ⟨by rfl, ?_⟩) (by assumption) ?_
              rotate_left
              · intro w' hSw
                try dsimp only at hSw
                go_simp
                try with_reducible rfl
              try simp only [Act.put, List.setIfInBounds_toArray, List.set_cons_zero, List.set_cons_succ]
              refine wpAnyH_take (i := 12) (oi := { dst := some 67, op := Op.load 34 (Operand.tmp 66), type := 34, pos := "law.go:64", after := #[{ on := 11, ground := Ground.data }, { on := 7, ground := Ground.guard }], guard := some (7, true) }) (v := ?_) rfl (by as_aux_lemma => kernel_rfl) (by as_aux_lemma => kernel_rfl) (by as_aux_lemma => kernel_rfl) (fun _ _ _ h => h) (Or.inl ⟨by rfl, ?_⟩) (by assumption) ?_
              rotate_left
              · intro w' hSw
                try dsimp only at hSw
                go_simp
                try with_reducible rfl
              try simp only [Act.put, List.setIfInBounds_toArray, List.set_cons_zero, List.set_cons_succ]
              refine wpAnyH_take (i := 14) (oi := { dst := some 69, op := Op.load 27 (Operand.tmp 9), type := 27, pos := "law.go:64", after := #[{ on := 7, ground := Ground.guard }], guard := some (7, true) }) (v := ?_) rfl (by as_aux_lemma => kernel_rfl) (by as_aux_lemma => kernel_rfl) (by as_aux_lemma => kernel_rfl) (fun _ _ _ h => h) (Or.inl ⟨by rfl, ?_⟩) (by assumption) ?_
              rotate_left
              · intro w' hSw
                try dsimp only at hSw
                go_simp
                try with_reducible rfl
              try simp only [Act.put, List.setIfInBounds_toArray, List.set_cons_zero, List.set_cons_succ]
              refine wpAnyH_ready (rs := [13]) (by as_aux_lemma => kernel_rfl) (by simp) ?_
              refine AllReadyH.cons (o := { dst := some 68, op := Op.call { callee := Callee.value (Operand.func 9), args := #[Operand.tmp 63, Operand.tmp 67], argTypes := #[27, 34] }, type := 27, pos := "law.go:64", after := #[{ on := 8, ground := Ground.data }, { on := 12, ground := Ground.data }, { on := 7, ground := Ground.chain }, { on := 7, ground := Ground.guard }], guard := some (7, true) }) rfl (fun Kx hK => ?_) AllReadyH.nil
              go_simp
              refine (clfeed_any (TD.out.later (K0.out)) (HVM.out.later (K0.out)) n2 o2 HS2.out HSM.out z4 z5 z6 hl2 z3 HF3).mono ?_
              rintro e z10001 ⟨uE, rfl, hE, bz10001⟩
              have K10001 := Lib.hid (below2Z K0.out bz10001)
              have D10001 := Lib.hid (heldC_up K10001.out D0.out)
              replace hE := CT.tab hE (TD.out.later (K10001.out)) (HVM.out.later (K10001.out))
              obtain ⟨ea, ec, rfl, -⟩ := hE.open'
              have TE := Lib.hid hE
              clear hE
              clear bz10001
              go_wp2_with fail
              refine hK.out _ _ ?_ (fun hHeld2 => ?_)
              · exact D10001.out
              clear hK Kx hHeld
              have hHeld := hHeld2
              clear hHeld2
              try simp only [Act.put, List.setIfInBounds_toArray, List.set_cons_zero, List.set_cons_succ]
              refine wpAnyH_ready (rs := [15]) (by as_aux_lemma => kernel_rfl) (by simp) ?_
              refine AllReadyH.cons (o := { dst := some 70, op := Op.call { callee := Callee.value (Operand.func 11), args := #[Operand.tmp 68, Operand.tmp 69], argTypes := #[27, 27] }, type := 4, pos := "law.go:64", after := #[{ on := 13, ground := Ground.data }, { on := 14, ground := Ground.data }, { on := 13, ground := Ground.chain }, { on := 7, ground := Ground.guard }], guard := some (7, true) }) rfl (fun Kx hK => ?_) AllReadyH.nil
              go_simp
              refine (clsame_eq TE.out (TD.out.later (K10001.out)) n2 n2 o2 o2 (Lib.hid (clSame_self _))).mono ?_
              rintro e z10002 ⟨rfl, bz10002⟩
              have K10002 := Lib.hid (below2Z K10001.out bz10002)
              have D10002 := Lib.hid (heldC_up K10002.out D0.out)
              replace TE := Lib.hid (Tab.later (TE.out) bz10002)
              clear bz10002
              go_wp2_with fail
              refine hK.out _ _ ?_ (fun hHeld2 => ?_)
              · exact D10002.out
              clear hK Kx hHeld
              have hHeld := hHeld2
              clear hHeld2
              try simp only [Act.put, List.setIfInBounds_toArray, List.set_cons_zero, List.set_cons_succ]
              refine wpAnyH_take (i := 16) (oi := { dst := some 71, op := Op.unOp UnOp.not 4 (Operand.tmp 70), type := 4, pos := "law.go:64", after := #[{ on := 15, ground := Ground.data }, { on := 7, ground := Ground.guard }], guard := some (7, true) }) (v := ?_) rfl (by as_aux_lemma => kernel_rfl) (by as_aux_lemma => kernel_rfl) (by as_aux_lemma => kernel_rfl) (fun _ _ _ h => h) (Or.inl ⟨by rfl, ?_⟩) (by assumption) ?_
              rotate_left
              · intro w' hSw
                try dsimp only at hSw
                go_simp
                try with_reducible rfl
              try simp only [Act.put, List.setIfInBounds_toArray, List.set_cons_zero, List.set_cons_succ]
              refine wpAnyH_take (i := 17) (oi := { dst := some 72, op := Op.pick (Operand.tmp 62) (Operand.tmp 71) (Operand.const (Value.bool false)), type := 4, pos := "law.go:64", after := #[{ on := 7, ground := Ground.data }, { on := 16, ground := Ground.data }], guard := none }) (v := ?_) rfl (by as_aux_lemma => kernel_rfl) (by as_aux_lemma => kernel_rfl) (by as_aux_lemma => kernel_rfl) (fun _ _ _ h => h) (Or.inl ⟨by rfl, ?_⟩) (by assumption) ?_
              rotate_left
              · intro w' hSw
                try dsimp only at hSw
                go_simp
                try with_reducible rfl
              try simp only [Act.put, List.setIfInBounds_toArray, List.set_cons_zero, List.set_cons_succ]
              refine wpAnyH_done (by kernel_rfl) ?_ _
              go_wp2_with fail
              go_meet
              exact ⟨rfl, K10002⟩
          case rest =>
            obtain ⟨rfl, KB⟩ := hcut
            obtain ⟨w103, hw103⟩ : ∃ X, X = wc := ⟨_, rfl⟩
            subst hw103
            replace C := Lib.hid (upQ C.out KB.out)
            replace DD := Lib.hid (upQ DD.out KB.out)
            replace TCC := Lib.hid (Tab.later TCC.out KB.out)
            replace HVT := Lib.hid (Tab.later HVT.out KB.out)
            replace TD := Lib.hid (Tab.later TD.out KB.out)
            replace HB := Lib.hid (below2Z HB.out KB.out)
            replace hrow := Lib.hid (fun X (hX : Below w103.heap.size w103 X) => hrow.out X (below2Z KB.out hX))
            clear KB
            obtain ⟨⟨t3, n3, o3⟩, er, hrd⟩ : ∃ c e, clRead ⟨t2, n2, o2⟩ s = (c, e) := ⟨_, _, rfl⟩
            have HRD := Lib.hid hrd
            obtain ⟨⟨DDc0, DDc1, DDc2⟩, ⟨DDf0, DDf1, DDf2⟩⟩ := blk3 DD.out
            go_wp2_with fail
            clear DDc0 DDc1 DDc2 DDf0 DDf1 DDf2
            refine (clread_any TD.out HS2.out hl2 n2 o2 s hs32 HRD).mono ?_
            rintro e w104 ⟨uR, rfl, hR, b104⟩
            replace C := Lib.hid (upQ C.out b104)
            replace DD := Lib.hid (upQ DD.out b104)
            replace TCC := Lib.hid (Tab.later TCC.out b104)
            replace HVT := Lib.hid (Tab.later HVT.out b104)
            replace TD := Lib.hid (Tab.later TD.out b104)
            replace HB := Lib.hid (below2Z HB.out b104)
            replace hR := RT.tab hR TD.out
            obtain ⟨xa, xc, rfl, -⟩ := hR.open'
            have TR := Lib.hid hR
            clear hR
            clear b104
            go_upto_region 13 with fail
            have hDl := (Array.getElem?_eq_some_iff.1 DD.out).1
            have b105 := bl_newZ w104 (.cells #[.slice xa t3.length xc, .int .i64 n3, .bool o3] 27)
            have E := newQ w104 (.cells #[.slice xa t3.length xc, .int .i64 n3, .bool o3] 27)
            have hE : w.heap.size ≤ w104.heap.size := HB.out.size
            replace C := Lib.hid (upQ C.out b105)
            replace DD := Lib.hid (upQ DD.out b105)
            replace TCC := Lib.hid (Tab.later TCC.out b105)
            replace HVT := Lib.hid (Tab.later HVT.out b105)
            replace TD := Lib.hid (Tab.later TD.out b105)
            replace TR := Lib.hid (Tab.later TR.out b105)
            replace HB := Lib.hid (below2Z HB.out b105)
            clear b105
            replace E := Lib.hid E
            generalize w104.alloc (.cells #[.slice xa t3.length xc, .int .i64 n3, .bool o3] 27) = w106 at C DD E TCC HVT TD TR HB ⊢
            generalize w104.heap.size = BE at E hE hDl ⊢
            by_cases her : er = 0
            case pos =>
              subst her
              obtain ⟨⟨DDc0, DDc1, DDc2⟩, ⟨DDf0, DDf1, DDf2⟩⟩ := blk3 DD.out
              obtain ⟨⟨Cc0, Cc1, Cc2⟩, ⟨Cf0, Cf1, Cf2⟩⟩ := blk3 C.out
              go_wp2_with fail
              clear DDc0 DDc1 DDc2 DDf0 DDf1 DDf2 Cc0 Cc1 Cc2 Cf0 Cf1 Cf2
              have HC2 := Lib.hid (stN3_heap C.out (.slice ua t2.length uc) (.int .i64 n2) (.bool o2))
              have HT2 := Lib.hid (tab_keepC TD.out C.out (fun k hk => stN3_far w106 BC (.slice ua t2.length uc) (.int .i64 n2) (.bool o2) hk) (by rw [stN3_size]; exact Nat.le_refl _))
              have HN2 := Lib.hid (stN3_below HB.out (show w.heap.size ≤ BC from hC) (.slice ua t2.length uc) (.int .i64 n2) (.bool o2))
              unfold stN3 at HC2 HT2 HN2
              go_roundw
              case rel => exact ⟨k + 1, t2, n2, o2, ua, uc, by omega, by go_num, HC2, HT2, HM2, Lib.hid (fun j hj => by
                by_cases hjk : j = k
                · rw [hjk, HP.out]; exact HPK.out
                · exact clPast_mono (HPA.out j (by omega)) hnn), HN2⟩
              case measure => simp [intOf]; omega
            case neg =>
              have t4 : ((er : Int) != 0) = true := by simp; omega
              have hsame : t3 = t2 ∧ n3 = n2 ∧ o3 = o2 := by
                obtain ⟨f, e, hd⟩ : ∃ f e, frDec s = (f, e) := ⟨_, _, rfl⟩
                by_cases he : e = 0
                · subst he; rw [clRead_ok hd] at hrd; simp only [Prod.mk.injEq] at hrd; exact absurd hrd.2.symm her
                · rw [clRead_err hd he] at hrd; simp only [Prod.mk.injEq, Cli.mk.injEq] at hrd; exact ⟨hrd.1.1.symm, hrd.1.2.1.symm, hrd.1.2.2.symm⟩
              obtain ⟨e1, e2, e3⟩ := hsame
              clear her hrd
              rw [e1, e2, e3] at E
              rw [e1] at TR
              clear e1 e2 e3
              obtain ⟨⟨Ec0, Ec1, Ec2⟩, ⟨Ef0, Ef1, Ef2⟩⟩ := blk3 E.out
              obtain ⟨⟨DDc0, DDc1, DDc2⟩, ⟨DDf0, DDf1, DDf2⟩⟩ := blk3 DD.out
              go_wp2_with fail
              clear Ec0 Ec1 Ec2 Ef0 Ef1 Ef2 DDc0 DDc1 DDc2 DDf0 DDf1 DDf2
              refine (clsame_eq TR.out TD.out n2 n2 o2 o2 (Lib.hid (clSame_self _))).mono ?_
              rintro e w401 ⟨rfl, b401⟩
              replace C := Lib.hid (upQ C.out b401)
              replace DD := Lib.hid (upQ DD.out b401)
              replace E := Lib.hid (upQ E.out b401)
              replace TCC := Lib.hid (Tab.later TCC.out b401)
              replace HVT := Lib.hid (Tab.later HVT.out b401)
              replace TD := Lib.hid (Tab.later TD.out b401)
              replace TR := Lib.hid (Tab.later TR.out b401)
              replace HB := Lib.hid (below2Z HB.out b401)
              clear b401
              obtain ⟨⟨DDc0, DDc1, DDc2⟩, ⟨DDf0, DDf1, DDf2⟩⟩ := blk3 DD.out
              obtain ⟨⟨Cc0, Cc1, Cc2⟩, ⟨Cf0, Cf1, Cf2⟩⟩ := blk3 C.out
              go_wp2_with fail
              clear DDc0 DDc1 DDc2 DDf0 DDf1 DDf2 Cc0 Cc1 Cc2 Cf0 Cf1 Cf2
              have HC2 := Lib.hid (stN3_heap C.out (.slice ua t2.length uc) (.int .i64 n2) (.bool o2))
              have HT2 := Lib.hid (tab_keepC TD.out C.out (fun k hk => stN3_far w401 BC (.slice ua t2.length uc) (.int .i64 n2) (.bool o2) hk) (by rw [stN3_size]; exact Nat.le_refl _))
              have HN2 := Lib.hid (stN3_below HB.out (show w.heap.size ≤ BC from hC) (.slice ua t2.length uc) (.int .i64 n2) (.bool o2))
              unfold stN3 at HC2 HT2 HN2
              go_roundw
              case rel => exact ⟨k + 1, t2, n2, o2, ua, uc, by omega, by go_num, HC2, HT2, HM2, Lib.hid (fun j hj => by
                by_cases hjk : j = k
                · rw [hjk, HP.out]; exact HPK.out
                · exact clPast_mono (HPA.out j (by omega)) hnn), HN2⟩
              case measure => simp [intOf]; omega

theorem walkClientTwice {w : World} {v : Value} {l : List FrS} (hv : RdS frVals 10 FrS.zero w v l) (hf : ∀ p ∈ l, FrFit w p) (a : Int) (_ : (Lit.int .i64 a).wf = true) (s : List UInt8) (_ : s.length ≤ maxLen) :
    Calls Try.prog 3 #[v, .int .i64 a, .string ⟨s.toArray⟩] w fun e w' => e = .returned (.bool true) ∧ Below w.heap.size w w' := by
  cases h : (decide (l.length ≤ 30) && frsFew l) with
  | false => exact ctw_1 hv hf a s (Lib.hid h)
  | true =>
    by_cases hs : 1500 < s.length
    · exact ctw_2 hv hf a s (Lib.hid h) hs
    · exact ctw_3 hv hf a s (Lib.hid h) (by omega)

end Go.Proofs.Ytekkofldhhdpgaa

end

section

/-
  THE FRAME OF THE PROOF OF ClientTwice: for every input the law returns true, and each argument reads behind the call as it read before. No condition.
-/
namespace Go.Proofs.Ytekkofldhhdpgaa.clientTwice
open Go.ChangeShapes Go.WideShapes Go.ChangeAt Go.RowKit
open Go.ChangeMaps (open_string shut_string)
set_option linter.unusedVariables false

theorem own : ownKnob Try.prog.godebug = none := by kernel_rfl
theorem laidOut : laidOutB Try.prog = true := by kernel_rfl

set_option maxRecDepth 100000 in
theorem lifted (os : Os) (started : os.Started) (H : Type) (enc : TypeId × Value → H) :
    ReturnsInHanded {} Try.checked os 3 .any (Rows.clientTwiceSpec.pre6 enc Try.prog Try.f3 Rows.clientTwiceRow.domain false) (Rows.clientTwiceSpec.post enc Try.prog Try.f3 false true false false) := by
  refine returnsInHanded_of_change (C := Try.checked) own started (by kernel_rfl) Try.func3
    (ChangeSpec.witness6 (enc := enc) (C := Try.checked) false ⟨#[], #[.slice none 0 0, .int .i64 0, .string ByteArray.empty], []⟩ 8 (by kernel_rfl) (by kernel_rfl) (by kernel_rfl) (by kernel_rfl)) ?_
  intro W base args ds gs before hval0 hW hcnd _
  have hval : ∀ (j : Nat) t v, Try.f3.params[j]? = some t → args[j]? = some v → Value.okWide Try.prog W .any base t v := hval0
  have hW' := hW
  obtain ⟨p, q, hA0, hV, rfl, hfz, hnd⟩ := hW
  have hA : DataW.TrodAll enc Try.prog W 0 (fun _ => true) true Try.f3.params.toList args.toList ds p := hA0
  rw [Try.params3] at hA hval
  obtain ⟨v0, vs0, d0, ds0, p0, q0, hargs, rfl, rfl, h0, r0⟩ := trodAll_cons hA
  obtain ⟨v1, vs1, d1, ds1, p1, q1, rfl, rfl, rfl, h1, r1⟩ := trodAll_cons r0
  obtain ⟨v2, vs2, d2, ds2, p2, q2, rfl, rfl, rfl, h2, r2⟩ := trodAll_cons r1
  obtain ⟨rfl, rfl, rfl⟩ := trodAll_nil r2
  obtain rfl : args = #[v0, v1, v2] := by cases args; simp_all
  obtain ⟨rfl, rfl⟩ := trodVars_none hV
  have k0 := h0
  have lt0 : ∀ x ∈ p0, x.block < W.heap.size := by obtain ⟨m, hm⟩ := k0; exact DataW.trod_lt m _ _ _ hm
  obtain ⟨l0, w0, f0⟩ := open_frms (hval 0 22 v0 rfl rfl) h0
  have k1 := h1
  have lt1 : ∀ x ∈ p1, x.block < W.heap.size := by obtain ⟨m, hm⟩ := k1; exact DataW.trod_lt m _ _ _ hm
  obtain ⟨a1, rfl, hd1, hp1, w1⟩ := open_int Try.underlying3 (hval 1 3 v1 rfl rfl) h1
  have k2 := h2
  have lt2 : ∀ x ∈ p2, x.block < W.heap.size := by obtain ⟨m, hm⟩ := k2; exact DataW.trod_lt m _ _ _ hm
  obtain ⟨s2, rfl, hd2, hp2, w2⟩ := open_string Try.underlying9 (hval 2 9 v2 rfl rfl) h2
  obtain ⟨a2, e2⟩ : ∃ l : List UInt8, s2 = ⟨l.toArray⟩ := ⟨s2.data.toList, by cases s2; simp⟩
  subst e2
  have w2 : a2.length ≤ maxLen := by rw [← size_bytes]; exact w2
  clear hA0 hval0
  refine (walkClientTwice (w := W) w0 f0 a1 w1 a2 w2).mono fun e W' ⟨he, bel⟩ => ?_
  subst he
  exact ⟨_, rfl, _, _, _, [], _, [], hW', trodAll_mk1 (shut_bool Try.underlying4 _), (trodAll_cons_mk (Below.trod laidOut (by kernel_rfl) (of_decide_eq_true (by kernel_rfl)) k0 bel lt0) (trodAll_cons_mk (Below.trod laidOut (by kernel_rfl) (of_decide_eq_true (by kernel_rfl)) k1 bel lt1) (trodAll_cons_mk (Below.trod laidOut (by kernel_rfl) (of_decide_eq_true (by kernel_rfl)) k2 bel lt2) trodAll_mk0))), rfl, bel.frame _, fun h => by cases h⟩

theorem over : Rows.clientTwiceRow.holds Try.pinned (OpenSpec.ofChange Rows.clientTwiceSpec) :=
  OpenClaim.holds_of_wide 3 Try.f3 rfl rfl rfl rfl rfl rfl rfl ⟨rfl, rfl, rfl, rfl, rfl⟩ rfl rfl rfl rfl rfl (by kernel_rfl) Try.func3 (by kernel_rfl)
    (of_decide_eq_true (by kernel_rfl)) (by unfold Func.isWrapper; first | (rw [if_pos (by decide +kernel)]; kernel_rfl) | (rw [if_neg (by decide +kernel)]; exact ⟨rfl, rfl⟩))
    (fun os started H enc _ => lifted os started H enc)

/-- THE STATEMENT. -/
theorem proved : Rows.ClientTwiceSaid := over
#print axioms proved
end Go.Proofs.Ytekkofldhhdpgaa.clientTwice

end
