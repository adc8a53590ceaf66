/-
  LAYER 23, THE DOCUMENT: May, Encode.
-/
import Derived.Test.YthfkfonfiejbmaaScrPut
import Derived.Test.YthfkfonfiejbmaaEvEq
namespace Go.Proofs.Ythfkfonfiejbmaa
open Go.RowKit

attribute [local go_sem] ByteArray.mk_append_mk

set_option maxHeartbeats 1600000 in
set_option maxRecDepth 100000 in
theorem rscmay_any (k : Int) (u o st : List UInt8) (id a b c : Int) (hs : evShort ⟨k, u, o, id, ⟨a, b, c, st⟩⟩) {r : Bool} (hr : Hid (scMay ⟨k, u, o, id, ⟨a, b, c, st⟩⟩ = r)) (w : World) :
    Calls Try.prog 22 #[.agg #[.int .i64 k, .string ⟨u.toArray⟩, .string ⟨o.toArray⟩, .int .i64 id, .int .i64 a, .int .i64 b, .int .i64 c, .string ⟨st.toArray⟩]] w fun e w' => e = .returned (.bool r) ∧ Below w.heap.size w w' := by
  obtain ⟨s1, s2, s3⟩ := hs
  simp only at s1 s2 s3
  have hr := hr.out
  have HB0 := Lib.hid (bl_newZ w (.cells #[.int .i64 k, .string ⟨u.toArray⟩, .string ⟨o.toArray⟩, .int .i64 id, .int .i64 a, .int .i64 b, .int .i64 c, .string ⟨st.toArray⟩] 26))
  have HC0 := Lib.hid (cellsAt_made (w := w) (cs := #[.int .i64 k, .string ⟨u.toArray⟩, .string ⟨o.toArray⟩, .int .i64 id, .int .i64 a, .int .i64 b, .int .i64 c, .string ⟨st.toArray⟩]) (vs := evVals ⟨k, u, o, id, ⟨a, b, c, st⟩⟩) rfl 26 rfl)
  have hgd : Try.prog.eqGuardType Try.prog.depth 24 = false := by kernel_rfl
  by_cases h1 : k < 1
  · obtain rfl : false = r := by rw [← hr]; unfold scMay; rw [decide_eq_false (by simp only; omega)]; rfl
    clear hr
    go_enter Try.func22, Try.ntmps22
    go_wp2_with fail
    go_ret
    exact ⟨rfl, HB0.out⟩
  by_cases h8 : 8 < k
  · obtain rfl : false = r := by rw [← hr]; unfold scMay; rw [decide_eq_false (by simp only; omega)]; rfl
    clear hr
    go_enter Try.func22, Try.ntmps22
    go_wp2_with fail
    go_ret
    exact ⟨rfl, HB0.out⟩
  obtain ⟨qu, hqu⟩ : ∃ q, idIs u = q := ⟨_, rfl⟩
  have HU := Lib.hid hqu
  have hr1 : (qu && (oOk k o && (iOk k id && vOk k ⟨a, b, c, st⟩))) = r := by rw [← hr, ← hqu]; unfold scMay; rw [decide_eq_true (by simp only; omega)]; rfl
  clear hr hqu
  have k1 : 1 ≤ k := by omega
  have k8 : k ≤ 8 := by omega
  clear h1 h8
  cases qu with
  | false =>
    obtain rfl : false = r := by rw [← hr1]; rfl
    clear hr1
    go_enter Try.func22, Try.ntmps22
    go_wp2_with fail
    refine (ris_eq u s1 HU _).mono ?_
    rintro e w1 ⟨rfl, rfl⟩
    go_wp2_with fail
    go_ret
    exact ⟨rfl, HB0.out⟩
  | true =>
  rw [Bool.true_and] at hr1
  by_cases h6 : k ≤ 6
  · unfold oOk iOk vOk at hr1
    rw [if_pos ⟨k1, h6⟩, if_neg (by omega), if_neg (by omega)] at hr1
    obtain ⟨qo, hqo⟩ : ∃ q, idIs o = q := ⟨_, rfl⟩
    rw [hqo] at hr1
    have HO := Lib.hid hqo
    clear hqo
    cases qo with
    | false =>
      obtain rfl : false = r := by rw [← hr1]; rfl
      clear hr1
      go_enter Try.func22, Try.ntmps22
      go_wp2_with fail
      refine (ris_eq u s1 HU _).mono ?_
      rintro e w1 ⟨rfl, rfl⟩
      go_wp2_with fail
      refine (ris_eq o s2 HO _).mono ?_
      rintro e w1 ⟨rfl, rfl⟩
      go_wp2_with fail
      go_ret
      exact ⟨rfl, HB0.out⟩
    | true =>
      rw [Bool.true_and] at hr1
      by_cases hi : id = 0
      · subst hi
        have HR : Hid (vaEq ⟨a, b, c, st⟩ Val.zero = r) := Lib.hid (by rw [← hr1]; simp)
        have heq : ∀ w, (binOp .eql 24 (.agg #[.int .i64 a, .int .i64 b, .int .i64 c, .string ⟨st.toArray⟩]) (.agg #[.int .i64 0, .int .i64 0, .int .i64 0, .string ⟨#[]⟩])).run Try.prog w = .ok (.bool r) w := fun w => by rw [← HR.out]; exact val_eql a b c 0 0 0 st [] w
        clear hr1
        go_enter Try.func22, Try.ntmps22
        go_wp2_with fail
        refine (ris_eq u s1 HU _).mono ?_
        rintro e w1 ⟨rfl, rfl⟩
        go_wp2_with fail
        refine (ris_eq o s2 HO _).mono ?_
        rintro e w1 ⟨rfl, rfl⟩
        go_wp2_with fail
        go_ret
        exact ⟨rfl, HB0.out⟩
      · have ti : (id == 0) = false := by simp [hi]
        obtain rfl : false = r := by rw [← hr1, decide_eq_false hi]; rfl
        clear hr1 hi
        go_enter Try.func22, Try.ntmps22
        go_wp2_with fail
        refine (ris_eq u s1 HU _).mono ?_
        rintro e w1 ⟨rfl, rfl⟩
        go_wp2_with fail
        refine (ris_eq o s2 HO _).mono ?_
        rintro e w1 ⟨rfl, rfl⟩
        go_wp2_with fail
        go_ret
        exact ⟨rfl, HB0.out⟩
  · have k6 : 6 < k := by omega
    unfold oOk iOk vOk at hr1
    rw [if_neg (by omega), if_pos (by omega)] at hr1
    clear h6
    by_cases ho : o = []
    · subst ho
      simp only [decide_true, Bool.true_and] at hr1
      by_cases hi : 0 ≤ id ∧ id < 4
      · rw [decide_eq_true hi, Bool.true_and] at hr1
        obtain ⟨i0, i4⟩ := hi
        by_cases h7 : k = 7
        · subst h7
          rw [if_pos rfl] at hr1
          have HR := Lib.hid hr1
          clear hr1 k1 k8 k6
          go_enter Try.func22, Try.ntmps22
          go_wp2_with fail
          refine (ris_eq u s1 HU _).mono ?_
          rintro e w1 ⟨rfl, rfl⟩
          go_wp2_with fail
          refine (rmay_eq a b c st s3 HR _).mono ?_
          rintro e w1 ⟨rfl, b1⟩
          go_wp2_with fail
          go_ret
          exact ⟨rfl, below2Z HB0.out b1⟩
        · rw [if_neg h7] at hr1
          obtain rfl : k = 8 := by omega
          have HR : Hid (vaEq ⟨a, b, c, st⟩ Val.zero = r) := Lib.hid hr1
          have heq : ∀ w, (binOp .eql 24 (.agg #[.int .i64 a, .int .i64 b, .int .i64 c, .string ⟨st.toArray⟩]) (.agg #[.int .i64 0, .int .i64 0, .int .i64 0, .string ⟨#[]⟩])).run Try.prog w = .ok (.bool r) w := fun w => by rw [← HR.out]; exact val_eql a b c 0 0 0 st [] w
          clear hr1 k1 k8 k6 h7
          go_enter Try.func22, Try.ntmps22
          go_wp2_with fail
          refine (ris_eq u s1 HU _).mono ?_
          rintro e w1 ⟨rfl, rfl⟩
          go_wp2_with fail
          go_ret
          exact ⟨rfl, HB0.out⟩
      · obtain rfl : false = r := by rw [← hr1, decide_eq_false hi]; rfl
        clear hr1
        by_cases i0 : id < 0
        · clear hi
          go_enter Try.func22, Try.ntmps22
          go_wp2_with fail
          refine (ris_eq u s1 HU _).mono ?_
          rintro e w1 ⟨rfl, rfl⟩
          go_wp2_with fail
          go_ret
          exact ⟨rfl, HB0.out⟩
        · have i4 : 4 ≤ id := by omega
          have i0' : 0 ≤ id := by omega
          clear hi i0
          go_enter Try.func22, Try.ntmps22
          go_wp2_with fail
          refine (ris_eq u s1 HU _).mono ?_
          rintro e w1 ⟨rfl, rfl⟩
          go_wp2_with fail
          go_ret
          exact ⟨rfl, HB0.out⟩
    · obtain rfl : false = r := by rw [← hr1, decide_eq_false ho]; rfl
      obtain ⟨x, l, rfl⟩ : ∃ x l, o = x :: l := by
        cases o with
        | nil => exact absurd rfl ho
        | cons x l => exact ⟨x, l, rfl⟩
      clear ho hr1
      go_enter Try.func22, Try.ntmps22
      go_wp2_with fail
      refine (ris_eq u s1 HU _).mono ?_
      rintro e w1 ⟨rfl, rfl⟩
      go_wp2_with fail
      go_ret
      exact ⟨rfl, HB0.out⟩

theorem run_convert_at (n : Nat) (h : n < 256) (N : Int) (hN : N = n) (X : World) (B : Nat) (hB : X.heap[B]? = some (.cells #[.int .u8 N] 5 (0, 0))) :
    (convert 45 9 (.slice (some ⟨B, 0, none⟩) 1 1)).run Try.prog X = .ok (.string ⟨[u8of n].toArray⟩) X := by
  subst hN
  refine run_convert_bytes_back (P := Try.prog) X 45 9 5 ⟨B, 0, none⟩ 1 [u8of n] Try.underlying45 Try.underlying5 Try.underlying9 (fun j hj => ?_)
  simp only [List.length_cons, List.length_nil] at hj
  obtain rfl : j = 0 := by omega
  have := cell_of_row X B 0 _ _ (0, 0) hB
  simpa [u8of_toNat h, Addr.add] using this

set_option maxHeartbeats 1600000 in
set_option maxRecDepth 100000 in
theorem rscenc_low (k : Int) (u o st : List UInt8) (id a b c : Int) (hs : evShort ⟨k, u, o, id, ⟨a, b, c, st⟩⟩) (hm : scMay ⟨k, u, o, id, ⟨a, b, c, st⟩⟩ = true) (h1 : 1 ≤ k) (h6 : k ≤ 6) (hu : idIs u = true) (ho : idIs o = true) (w : World) :
    Calls Try.prog 27 #[.agg #[.int .i64 k, .string ⟨u.toArray⟩, .string ⟨o.toArray⟩, .int .i64 id, .int .i64 a, .int .i64 b, .int .i64 c, .string ⟨st.toArray⟩]] w fun e w' => e = .returned (.tuple #[.string ⟨(cseal (scBytes ⟨k, u, o, id, ⟨a, b, c, st⟩⟩)).toArray⟩, .int .i64 0]) ∧ Below w.heap.size w w' := by
  have HB0 := Lib.hid (bl_newZ w (.cells #[.int .i64 k, .string ⟨u.toArray⟩, .string ⟨o.toArray⟩, .int .i64 id, .int .i64 a, .int .i64 b, .int .i64 c, .string ⟨st.toArray⟩] 26))
  have HC0 := Lib.hid (cellsAt_made (w := w) (cs := #[.int .i64 k, .string ⟨u.toArray⟩, .string ⟨o.toArray⟩, .int .i64 id, .int .i64 a, .int .i64 b, .int .i64 c, .string ⟨st.toArray⟩]) (vs := evVals ⟨k, u, o, id, ⟨a, b, c, st⟩⟩) rfl 26 rfl)
  have hul := (idIs_parts hu).2.1
  have hul2 := vput_len_le u.length
  have hul3 : u.length ≤ 4294967296 := by omega
  have hlen := scBytes_short hm
  rw [seal_len] at hlen
  have hlen2 : (scBytes ⟨k, u, o, id, ⟨a, b, c, st⟩⟩).length ≤ 4294967296 := by omega
  have HS := Lib.hid (rseal_any (scBytes ⟨k, u, o, id, ⟨a, b, c, st⟩⟩) hlen2)
  have HM := Lib.hid hm
  have HTU := Lib.hid (rtext_any u hul3)
  have hsh := Lib.hid hs
  clear hm hs
  have HR : scBytes ⟨k, u, o, id, ⟨a, b, c, st⟩⟩ = [u8of k.toNat] ++ (vput u.length ++ u) ++ (vput o.length ++ o) := scBytes_low h6
  have hol := (idIs_parts ho).2.1
  have hol2 := vput_len_le o.length
  have hol3 : o.length ≤ 4294967296 := by omega
  have HTO := Lib.hid (rtext_any o hol3)
  have t7 : (k == 7) = false := by simp; omega
  have hcv := fun X => run_convert_one k.toNat (by omega) k (by omega) X
  have hcv2 := fun X B h => run_convert_at k.toNat (by omega) k (by omega) X B h
  have e1 : IntKind.u8.wrap k = k := by rw [IntKind.wrap_u8]; omega
  obtain ⟨hd, hhd⟩ : ∃ hd, hd = [u8of k.toNat] := ⟨_, rfl⟩
  rw [← hhd] at hcv hcv2 HR
  have hdl : hd.length ≤ 2 := by rw [hhd]; simp
  obtain ⟨pu, hpu⟩ : ∃ pu, pu = vput u.length ++ u := ⟨_, rfl⟩
  rw [← hpu] at HTU HR
  have hpul : pu.length ≤ 30 := by rw [hpu, List.length_append]; omega
  obtain ⟨po, hpo⟩ : ∃ po, po = vput o.length ++ o := ⟨_, rfl⟩
  rw [← hpo] at HTO HR
  have hpol : po.length ≤ 30 := by rw [hpo, List.length_append]; omega
  clear hpo hol2
  simp only [List.append_assoc] at HR
  rw [HR] at HS
  rw [HR]
  clear hhd hpu hul2 HR hlen hlen2
  go_enter Try.func27, Try.ntmps27
  go_wp2_with fail
  refine (rscmay_any k u o st id a b c hsh.out HM _).mono ?_
  rintro e w1 ⟨rfl, b1⟩
  have hz1 : w.heap.size < w1.heap.size := by have := b1.size; simp at this; omega
  have HB1 := Lib.hid (below2Z HB0.out b1)
  have HC1 := Lib.hid (HC0.out.later b1)
  clear b1
  obtain ⟨m0, m1, m2, m3, m4, m5, m6, m7⟩ := eightAt HC1.out
  go_wp2_with fail
  clear m0 m1 m2 m3 m4 m5 m6 m7
  have hbig : ¬ 9223372036854775807 < hd.length + pu.length := by omega
  obtain ⟨BS, hBS⟩ : ∃ BS : List (Nat × List Value), BS = [(w.heap.size, [.int .i64 k, .string ⟨u.toArray⟩, .string ⟨o.toArray⟩, .int .i64 id, .int .i64 a, .int .i64 b, .int .i64 c, .string ⟨st.toArray⟩])] := ⟨_, rfl⟩
  have D0 := Lib.hid (show heldB w1 BS from by rw [hBS]; exact heldB_cons (fun j u hj => by have := HC1.out j u hj; exact this) (heldB_nil _))
  have hq0 : ∀ X, heldB X BS → X.cell? ⟨w.heap.size, 0, none⟩ = some (.int .i64 k) := fun X hx => heldB_get (vs := [.int .i64 k, .string ⟨u.toArray⟩, .string ⟨o.toArray⟩, .int .i64 id, .int .i64 a, .int .i64 b, .int .i64 c, .string ⟨st.toArray⟩]) hx (by rw [hBS]; simp) rfl
  have hq1 : ∀ X, heldB X BS → X.cell? ⟨w.heap.size, 1, none⟩ = some (.string ⟨u.toArray⟩) := fun X hx => heldB_get (vs := [.int .i64 k, .string ⟨u.toArray⟩, .string ⟨o.toArray⟩, .int .i64 id, .int .i64 a, .int .i64 b, .int .i64 c, .string ⟨st.toArray⟩]) hx (by rw [hBS]; simp) rfl
  have hq2 : ∀ X, heldB X BS → X.cell? ⟨w.heap.size, 2, none⟩ = some (.string ⟨o.toArray⟩) := fun X hx => heldB_get (vs := [.int .i64 k, .string ⟨u.toArray⟩, .string ⟨o.toArray⟩, .int .i64 id, .int .i64 a, .int .i64 b, .int .i64 c, .string ⟨st.toArray⟩]) hx (by rw [hBS]; simp) rfl
  have hq3 : ∀ X, heldB X BS → X.cell? ⟨w.heap.size, 3, none⟩ = some (.int .i64 id) := fun X hx => heldB_get (vs := [.int .i64 k, .string ⟨u.toArray⟩, .string ⟨o.toArray⟩, .int .i64 id, .int .i64 a, .int .i64 b, .int .i64 c, .string ⟨st.toArray⟩]) hx (by rw [hBS]; simp) rfl
  have hq4 : ∀ X, heldB X BS → X.cell? ⟨w.heap.size, 4, none⟩ = some (.int .i64 a) := fun X hx => heldB_get (vs := [.int .i64 k, .string ⟨u.toArray⟩, .string ⟨o.toArray⟩, .int .i64 id, .int .i64 a, .int .i64 b, .int .i64 c, .string ⟨st.toArray⟩]) hx (by rw [hBS]; simp) rfl
  have hq5 : ∀ X, heldB X BS → X.cell? ⟨w.heap.size, 5, none⟩ = some (.int .i64 b) := fun X hx => heldB_get (vs := [.int .i64 k, .string ⟨u.toArray⟩, .string ⟨o.toArray⟩, .int .i64 id, .int .i64 a, .int .i64 b, .int .i64 c, .string ⟨st.toArray⟩]) hx (by rw [hBS]; simp) rfl
  have hq6 : ∀ X, heldB X BS → X.cell? ⟨w.heap.size, 6, none⟩ = some (.int .i64 c) := fun X hx => heldB_get (vs := [.int .i64 k, .string ⟨u.toArray⟩, .string ⟨o.toArray⟩, .int .i64 id, .int .i64 a, .int .i64 b, .int .i64 c, .string ⟨st.toArray⟩]) hx (by rw [hBS]; simp) rfl
  have hq7 : ∀ X, heldB X BS → X.cell? ⟨w.heap.size, 7, none⟩ = some (.string ⟨st.toArray⟩) := fun X hx => heldB_get (vs := [.int .i64 k, .string ⟨u.toArray⟩, .string ⟨o.toArray⟩, .int .i64 id, .int .i64 a, .int .i64 b, .int .i64 c, .string ⟨st.toArray⟩]) hx (by rw [hBS]; simp) rfl
  clear hBS
  have K0 : Hid (Below w1.heap.size w1 w1.drew) := Lib.hid (Below.refl _ _).drew
  refine wp_region_held_drew (S := (fun X => heldB X BS)) (by kernel_rfl) ?_ (fun hHeld => ?_)
  · exact heldB_up K0.out D0.out
  generalize w1.drew = z0 at K0 hHeld ⊢
  refine wpAnyH_take (i := 0) (oi := { dst := some 10, op := Op.fieldAddr 26 (Operand.tmp 1) 0, type := 0, pos := "ref.go:45", after := #[], guard := none }) (v := ?_) rfl (by as_aux_lemma => kernel_rfl) (by as_aux_lemma => kernel_rfl) (by as_aux_lemma => kernel_rfl) (fun _ _ _ h => h) (Or.inl ⟨by rfl, ?_⟩) (by assumption) ?_
  rotate_left
  · intro w' hSw
    try dsimp only at hSw
    go_simp
    try with_reducible rfl
  try simp only [Act.put, List.setIfInBounds_toArray, List.set_cons_zero, List.set_cons_succ]
  refine wpAnyH_take (i := 1) (oi := { dst := some 11, op := Op.load 3 (Operand.tmp 10), type := 3, pos := "ref.go:45", after := #[{ on := 0, ground := Ground.data }], guard := none }) (v := ?_) rfl (by as_aux_lemma => kernel_rfl) (by as_aux_lemma => kernel_rfl) (by as_aux_lemma => kernel_rfl) (fun _ _ _ h => h) (Or.inl ⟨by rfl, ?_⟩) (by assumption) ?_
  rotate_left
  · intro w' hSw
    try dsimp only at hSw
    go_simp
    try with_reducible rfl
  try simp only [Act.put, List.setIfInBounds_toArray, List.set_cons_zero, List.set_cons_succ]
  refine wpAnyH_take (i := 2) (oi := { dst := some 12, op := Op.convert 3 5 (Operand.tmp 11), type := 5, pos := "ref.go:45", after := #[{ on := 1, ground := Ground.data }], guard := none }) (v := ?_) rfl (by as_aux_lemma => kernel_rfl) (by as_aux_lemma => kernel_rfl) (by as_aux_lemma => kernel_rfl) (fun _ _ _ h => h) (Or.inl ⟨by rfl, ?_⟩) (by assumption) ?_
  rotate_left
  · intro w' hSw
    try dsimp only at hSw
    go_simp
    try with_reducible rfl
  try simp only [Act.put, List.setIfInBounds_toArray, List.set_cons_zero, List.set_cons_succ]
  refine wpAnyH_take (i := 5) (oi := { dst := some 15, op := Op.fieldAddr 26 (Operand.tmp 1) 1, type := 0, pos := "ref.go:45", after := #[], guard := none }) (v := ?_) rfl (by as_aux_lemma => kernel_rfl) (by as_aux_lemma => kernel_rfl) (by as_aux_lemma => kernel_rfl) (fun _ _ _ h => h) (Or.inl ⟨by rfl, ?_⟩) (by assumption) ?_
  rotate_left
  · intro w' hSw
    try dsimp only at hSw
    go_simp
    try with_reducible rfl
  try simp only [Act.put, List.setIfInBounds_toArray, List.set_cons_zero, List.set_cons_succ]
  refine wpAnyH_take (i := 6) (oi := { dst := some 16, op := Op.load 9 (Operand.tmp 15), type := 9, pos := "ref.go:45", after := #[{ on := 5, ground := Ground.data }], guard := none }) (v := ?_) rfl (by as_aux_lemma => kernel_rfl) (by as_aux_lemma => kernel_rfl) (by as_aux_lemma => kernel_rfl) (fun _ _ _ h => h) (Or.inl ⟨by rfl, ?_⟩) (by assumption) ?_
  rotate_left
  · intro w' hSw
    try dsimp only at hSw
    go_simp
    try with_reducible rfl
  try simp only [Act.put, List.setIfInBounds_toArray, List.set_cons_zero, List.set_cons_succ]
  refine wpAnyH_ready (rs := [3, 7]) (by as_aux_lemma => kernel_rfl) (by simp) ?_
  refine AllReadyH.cons (o := { dst := some 13, op := Op.buildSlice 45 1 #[(0, Operand.tmp 12)], type := 45, pos := "ref.go:45", after := #[{ on := 2, ground := Ground.data }], guard := none }) rfl (fun Kx hK => ?_) (AllReadyH.cons (o := { dst := some 17, op := Op.call { callee := Callee.value (Operand.func 34), args := #[Operand.tmp 16], argTypes := #[9] }, type := 9, pos := "ref.go:45", after := #[{ on := 6, ground := Ground.data }], guard := none }) rfl (fun Kx hK => ?_) (AllReadyH.nil))
  · go_simp
    refine hK.out _ _ ?_ (fun hHeld2 => ?_)
    · exact heldB_up (below2Z K0.out (bl_newZ _ _)) D0.out
    clear hK Kx hHeld
    have hHeld := hHeld2
    clear hHeld2
    try simp only [Act.put, List.setIfInBounds_toArray, List.set_cons_zero, List.set_cons_succ]
    have bz1 := bl_newZ z0 (.cells #[.int .u8 k] 5)
    have K1 := Lib.hid (below2Z K0.out bz1)
    have D1 := Lib.hid (heldB_up K1.out D0.out)
    have nz1 := Lib.hid ((MapKept.heap_alloc z0 (.cells #[.int .u8 k] 5)).1)
    have hB1 : w1.heap.size ≤ z0.heap.size := (K0.out).size
    clear bz1
    generalize z0.alloc (.cells #[.int .u8 k] 5) = z1 at K1 D1 nz1 hHeld ⊢
    generalize z0.heap.size = B1 at nz1 hB1  ⊢
    have hcx := hcv2 _ _ nz1.out
    refine wpAnyH_ready (rs := [4, 7]) (by as_aux_lemma => kernel_rfl) (by simp) ?_
    refine AllReadyH.cons (o := { dst := some 14, op := Op.convert 45 9 (Operand.tmp 13), type := 9, pos := "ref.go:45", after := #[{ on := 3, ground := Ground.data }], guard := none }) rfl (fun Kx hK => ?_) (AllReadyH.cons (o := { dst := some 17, op := Op.call { callee := Callee.value (Operand.func 34), args := #[Operand.tmp 16], argTypes := #[9] }, type := 9, pos := "ref.go:45", after := #[{ on := 6, ground := Ground.data }], guard := none }) rfl (fun Kx hK => ?_) (AllReadyH.nil))
    · go_simp
      refine hK.out _ _ ?_ (fun hHeld2 => ?_)
      · exact heldB_up K1.out D0.out
      clear hK Kx hHeld hcx
      have hHeld := hHeld2
      clear hHeld2
      try simp only [Act.put, List.setIfInBounds_toArray, List.set_cons_zero, List.set_cons_succ]
      refine wpAnyH_ready (rs := [7]) (by as_aux_lemma => kernel_rfl) (by simp) ?_
      refine AllReadyH.cons (o := { dst := some 17, op := Op.call { callee := Callee.value (Operand.func 34), args := #[Operand.tmp 16], argTypes := #[9] }, type := 9, pos := "ref.go:45", after := #[{ on := 6, ground := Ground.data }], guard := none }) rfl (fun Kx hK => ?_) AllReadyH.nil
      go_simp
      refine (HTU.out _).mono ?_
      rintro e z3 ⟨rfl, bz3⟩
      have K3 := Lib.hid (below2Z K1.out bz3)
      have D3 := Lib.hid (heldB_up K3.out D0.out)
      replace nz1 := Lib.hid (((bz3).block _ (Array.getElem?_eq_some_iff.1 (nz1.out)).1).trans (nz1.out))
      clear bz3
      go_wp2_with fail
      refine hK.out _ _ ?_ (fun hHeld2 => ?_)
      · exact D3.out
      clear hK Kx hHeld
      have hHeld := hHeld2
      clear hHeld2
      try simp only [Act.put, List.setIfInBounds_toArray, List.set_cons_zero, List.set_cons_succ]
      refine wpAnyH_take (i := 8) (oi := { dst := some 18, op := Op.binOp BinOp.add 9 (Operand.tmp 14) (Operand.tmp 17) 9, type := 9, pos := "ref.go:45", after := #[{ on := 4, ground := Ground.data }, { on := 7, ground := Ground.data }], guard := none }) (v := ?_) rfl (by as_aux_lemma => kernel_rfl) (by as_aux_lemma => kernel_rfl) (by as_aux_lemma => kernel_rfl) (fun _ _ _ h => h) (Or.inl ⟨by rfl, ?_⟩) (by assumption) ?_
      rotate_left
      · intro w' hSw
        try dsimp only at hSw
        go_simp
        try with_reducible rfl
      try simp only [Act.put, List.setIfInBounds_toArray, List.set_cons_zero, List.set_cons_succ]
      refine wpAnyH_take (i := 9) (oi := { dst := some 4, op := Op.assign (Operand.tmp 18), type := 9, pos := "ref.go:45", after := #[{ on := 8, ground := Ground.data }, { on := 7, ground := Ground.chain }, { on := 0, ground := Ground.phase }, { on := 1, ground := Ground.phase }, { on := 2, ground := Ground.phase }, { on := 3, ground := Ground.phase }, { on := 4, ground := Ground.phase }, { on := 5, ground := Ground.phase }, { on := 6, ground := Ground.phase }, { on := 7, ground := Ground.phase }, { on := 8, ground := Ground.phase }], guard := none }) (v := ?_) rfl (by as_aux_lemma => kernel_rfl) (by as_aux_lemma => kernel_rfl) (by as_aux_lemma => kernel_rfl) (fun _ _ _ h => h) (Or.inl ⟨by rfl, ?_⟩) (by assumption) ?_
      rotate_left
      · intro w' hSw
        try dsimp only at hSw
        go_simp
        try with_reducible rfl
      try simp only [Act.put, List.setIfInBounds_toArray, List.set_cons_zero, List.set_cons_succ]
      refine wpAnyH_done (by kernel_rfl) ?_ _
      clear D0
      have HB2 := Lib.hid (below2Z HB1.out (K3.out))
      have HC2 := Lib.hid (HC1.out.later (K3.out))
      have hz2 : w.heap.size < z3.heap.size := by have := (K3.out).size; omega
      obtain ⟨m0, m1, m2, m3, m4, m5, m6, m7⟩ := eightAt HC2.out
      go_wp2_with fail
      refine (HTO.out _).mono ?_
      rintro e wt ⟨rfl, bt⟩
      have HB3 := Lib.hid (below2Z HB2.out bt)
      have HC3 := Lib.hid (HC2.out.later bt)
      clear bt m0 m1 m2 m3 m4 m5 m6 m7
      obtain ⟨m0, m1, m2, m3, m4, m5, m6, m7⟩ := eightAt HC3.out
      go_wp2_with fail
      (with_reducible refine (HS.out _).mono ?_)
      rintro e wu ⟨rfl, bu⟩
      have HB4 := Lib.hid (below2Z HB3.out bu)
      clear bu m0 m1 m2 m3 m4 m5 m6 m7
      go_wp2_with fail
      go_ret2
      exact ⟨rfl, HB4.out⟩
    · go_simp
      refine (HTU.out _).mono ?_
      rintro e z4 ⟨rfl, bz4⟩
      have K4 := Lib.hid (below2Z K1.out bz4)
      have D4 := Lib.hid (heldB_up K4.out D0.out)
      replace nz1 := Lib.hid (((bz4).block _ (Array.getElem?_eq_some_iff.1 (nz1.out)).1).trans (nz1.out))
      clear bz4
      go_wp2_with fail
      refine hK.out _ _ ?_ (fun hHeld2 => ?_)
      · exact D4.out
      clear hK Kx hHeld
      have hHeld := hHeld2
      clear hHeld2
      try simp only [Act.put, List.setIfInBounds_toArray, List.set_cons_zero, List.set_cons_succ]
      have hcx := hcv2 _ _ nz1.out
      refine wpAnyH_ready (rs := [4]) (by as_aux_lemma => kernel_rfl) (by simp) ?_
      refine AllReadyH.cons (o := { dst := some 14, op := Op.convert 45 9 (Operand.tmp 13), type := 9, pos := "ref.go:45", after := #[{ on := 3, ground := Ground.data }], guard := none }) rfl (fun Kx hK => ?_) AllReadyH.nil
      go_simp
      refine hK.out _ _ ?_ (fun hHeld2 => ?_)
      · exact heldB_up K4.out D0.out
      clear hK Kx hHeld hcx
      have hHeld := hHeld2
      clear hHeld2
      try simp only [Act.put, List.setIfInBounds_toArray, List.set_cons_zero, List.set_cons_succ]
      refine wpAnyH_take (i := 8) (oi := { dst := some 18, op := Op.binOp BinOp.add 9 (Operand.tmp 14) (Operand.tmp 17) 9, type := 9, pos := "ref.go:45", after := #[{ on := 4, ground := Ground.data }, { on := 7, ground := Ground.data }], guard := none }) (v := ?_) rfl (by as_aux_lemma => kernel_rfl) (by as_aux_lemma => kernel_rfl) (by as_aux_lemma => kernel_rfl) (fun _ _ _ h => h) (Or.inl ⟨by rfl, ?_⟩) (by assumption) ?_
      rotate_left
      · intro w' hSw
        try dsimp only at hSw
        go_simp
        try with_reducible rfl
      try simp only [Act.put, List.setIfInBounds_toArray, List.set_cons_zero, List.set_cons_succ]
      refine wpAnyH_take (i := 9) (oi := { dst := some 4, op := Op.assign (Operand.tmp 18), type := 9, pos := "ref.go:45", after := #[{ on := 8, ground := Ground.data }, { on := 7, ground := Ground.chain }, { on := 0, ground := Ground.phase }, { on := 1, ground := Ground.phase }, { on := 2, ground := Ground.phase }, { on := 3, ground := Ground.phase }, { on := 4, ground := Ground.phase }, { on := 5, ground := Ground.phase }, { on := 6, ground := Ground.phase }, { on := 7, ground := Ground.phase }, { on := 8, ground := Ground.phase }], guard := none }) (v := ?_) rfl (by as_aux_lemma => kernel_rfl) (by as_aux_lemma => kernel_rfl) (by as_aux_lemma => kernel_rfl) (fun _ _ _ h => h) (Or.inl ⟨by rfl, ?_⟩) (by assumption) ?_
      rotate_left
      · intro w' hSw
        try dsimp only at hSw
        go_simp
        try with_reducible rfl
      try simp only [Act.put, List.setIfInBounds_toArray, List.set_cons_zero, List.set_cons_succ]
      refine wpAnyH_done (by kernel_rfl) ?_ _
      clear D0
      have HB2 := Lib.hid (below2Z HB1.out (K4.out))
      have HC2 := Lib.hid (HC1.out.later (K4.out))
      have hz2 : w.heap.size < z4.heap.size := by have := (K4.out).size; omega
      obtain ⟨m0, m1, m2, m3, m4, m5, m6, m7⟩ := eightAt HC2.out
      go_wp2_with fail
      refine (HTO.out _).mono ?_
      rintro e wt ⟨rfl, bt⟩
      have HB3 := Lib.hid (below2Z HB2.out bt)
      have HC3 := Lib.hid (HC2.out.later bt)
      clear bt m0 m1 m2 m3 m4 m5 m6 m7
      obtain ⟨m0, m1, m2, m3, m4, m5, m6, m7⟩ := eightAt HC3.out
      go_wp2_with fail
      (with_reducible refine (HS.out _).mono ?_)
      rintro e wu ⟨rfl, bu⟩
      have HB4 := Lib.hid (below2Z HB3.out bu)
      clear bu m0 m1 m2 m3 m4 m5 m6 m7
      go_wp2_with fail
      go_ret2
      exact ⟨rfl, HB4.out⟩
  · go_simp
    refine (HTU.out _).mono ?_
    rintro e z6 ⟨rfl, bz6⟩
    have K6 := Lib.hid (below2Z K0.out bz6)
    have D6 := Lib.hid (heldB_up K6.out D0.out)
    clear bz6
    go_wp2_with fail
    refine hK.out _ _ ?_ (fun hHeld2 => ?_)
    · exact D6.out
    clear hK Kx hHeld
    have hHeld := hHeld2
    clear hHeld2
    try simp only [Act.put, List.setIfInBounds_toArray, List.set_cons_zero, List.set_cons_succ]
    refine wpAnyH_ready (rs := [3]) (by as_aux_lemma => kernel_rfl) (by simp) ?_
    refine AllReadyH.cons (o := { dst := some 13, op := Op.buildSlice 45 1 #[(0, Operand.tmp 12)], type := 45, pos := "ref.go:45", after := #[{ on := 2, ground := Ground.data }], guard := none }) rfl (fun Kx hK => ?_) AllReadyH.nil
    go_simp
    refine hK.out _ _ ?_ (fun hHeld2 => ?_)
    · exact heldB_up (below2Z K6.out (bl_newZ _ _)) D0.out
    clear hK Kx hHeld
    have hHeld := hHeld2
    clear hHeld2
    try simp only [Act.put, List.setIfInBounds_toArray, List.set_cons_zero, List.set_cons_succ]
    have bz7 := bl_newZ z6 (.cells #[.int .u8 k] 5)
    have K7 := Lib.hid (below2Z K6.out bz7)
    have D7 := Lib.hid (heldB_up K7.out D0.out)
    have nz7 := Lib.hid ((MapKept.heap_alloc z6 (.cells #[.int .u8 k] 5)).1)
    have hB7 : w1.heap.size ≤ z6.heap.size := (K6.out).size
    clear bz7
    generalize z6.alloc (.cells #[.int .u8 k] 5) = z7 at K7 D7 nz7 hHeld ⊢
    generalize z6.heap.size = B7 at nz7 hB7  ⊢
    have hcx := hcv2 _ _ nz7.out
    refine wpAnyH_ready (rs := [4]) (by as_aux_lemma => kernel_rfl) (by simp) ?_
    refine AllReadyH.cons (o := { dst := some 14, op := Op.convert 45 9 (Operand.tmp 13), type := 9, pos := "ref.go:45", after := #[{ on := 3, ground := Ground.data }], guard := none }) rfl (fun Kx hK => ?_) AllReadyH.nil
    go_simp
    refine hK.out _ _ ?_ (fun hHeld2 => ?_)
    · exact heldB_up K7.out D0.out
    clear hK Kx hHeld hcx
    have hHeld := hHeld2
    clear hHeld2
    try simp only [Act.put, List.setIfInBounds_toArray, List.set_cons_zero, List.set_cons_succ]
    refine wpAnyH_take (i := 8) (oi := { dst := some 18, op := Op.binOp BinOp.add 9 (Operand.tmp 14) (Operand.tmp 17) 9, type := 9, pos := "ref.go:45", after := #[{ on := 4, ground := Ground.data }, { on := 7, ground := Ground.data }], guard := none }) (v := ?_) rfl (by as_aux_lemma => kernel_rfl) (by as_aux_lemma => kernel_rfl) (by as_aux_lemma => kernel_rfl) (fun _ _ _ h => h) (Or.inl ⟨by rfl, ?_⟩) (by assumption) ?_
    rotate_left
    · intro w' hSw
      try dsimp only at hSw
      go_simp
      try with_reducible rfl
    try simp only [Act.put, List.setIfInBounds_toArray, List.set_cons_zero, List.set_cons_succ]
    refine wpAnyH_take (i := 9) (oi := { dst := some 4, op := Op.assign (Operand.tmp 18), type := 9, pos := "ref.go:45", after := #[{ on := 8, ground := Ground.data }, { on := 7, ground := Ground.chain }, { on := 0, ground := Ground.phase }, { on := 1, ground := Ground.phase }, { on := 2, ground := Ground.phase }, { on := 3, ground := Ground.phase }, { on := 4, ground := Ground.phase }, { on := 5, ground := Ground.phase }, { on := 6, ground := Ground.phase }, { on := 7, ground := Ground.phase }, { on := 8, ground := Ground.phase }], guard := none }) (v := ?_) rfl (by as_aux_lemma => kernel_rfl) (by as_aux_lemma => kernel_rfl) (by as_aux_lemma => kernel_rfl) (fun _ _ _ h => h) (Or.inl ⟨by rfl, ?_⟩) (by assumption) ?_
    rotate_left
    · intro w' hSw
      try dsimp only at hSw
      go_simp
      try with_reducible rfl
    try simp only [Act.put, List.setIfInBounds_toArray, List.set_cons_zero, List.set_cons_succ]
    refine wpAnyH_done (by kernel_rfl) ?_ _
    clear D0
    have HB2 := Lib.hid (below2Z HB1.out (K7.out))
    have HC2 := Lib.hid (HC1.out.later (K7.out))
    have hz2 : w.heap.size < z7.heap.size := by have := (K7.out).size; omega
    obtain ⟨m0, m1, m2, m3, m4, m5, m6, m7⟩ := eightAt HC2.out
    go_wp2_with fail
    refine (HTO.out _).mono ?_
    rintro e wt ⟨rfl, bt⟩
    have HB3 := Lib.hid (below2Z HB2.out bt)
    have HC3 := Lib.hid (HC2.out.later bt)
    clear bt m0 m1 m2 m3 m4 m5 m6 m7
    obtain ⟨m0, m1, m2, m3, m4, m5, m6, m7⟩ := eightAt HC3.out
    go_wp2_with fail
    (with_reducible refine (HS.out _).mono ?_)
    rintro e wu ⟨rfl, bu⟩
    have HB4 := Lib.hid (below2Z HB3.out bu)
    clear bu m0 m1 m2 m3 m4 m5 m6 m7
    go_wp2_with fail
    go_ret2
    exact ⟨rfl, HB4.out⟩

set_option maxHeartbeats 1600000 in
set_option maxRecDepth 100000 in
theorem rscenc_show (u o st : List UInt8) (id a b c : Int) (hs : evShort ⟨7, u, o, id, ⟨a, b, c, st⟩⟩) (hm : scMay ⟨7, u, o, id, ⟨a, b, c, st⟩⟩ = true) (hu : idIs u = true) (i0 : 0 ≤ id) (i4 : id < 4) (hv : vaMay ⟨a, b, c, st⟩ = true) (w : World) :
    Calls Try.prog 27 #[.agg #[.int .i64 7, .string ⟨u.toArray⟩, .string ⟨o.toArray⟩, .int .i64 id, .int .i64 a, .int .i64 b, .int .i64 c, .string ⟨st.toArray⟩]] w fun e w' => e = .returned (.tuple #[.string ⟨(cseal (scBytes ⟨7, u, o, id, ⟨a, b, c, st⟩⟩)).toArray⟩, .int .i64 0]) ∧ Below w.heap.size w w' := by
  have HB0 := Lib.hid (bl_newZ w (.cells #[.int .i64 7, .string ⟨u.toArray⟩, .string ⟨o.toArray⟩, .int .i64 id, .int .i64 a, .int .i64 b, .int .i64 c, .string ⟨st.toArray⟩] 26))
  have HC0 := Lib.hid (cellsAt_made (w := w) (cs := #[.int .i64 7, .string ⟨u.toArray⟩, .string ⟨o.toArray⟩, .int .i64 id, .int .i64 a, .int .i64 b, .int .i64 c, .string ⟨st.toArray⟩]) (vs := evVals ⟨7, u, o, id, ⟨a, b, c, st⟩⟩) rfl 26 rfl)
  have hul := (idIs_parts hu).2.1
  have hul2 := vput_len_le u.length
  have hul3 : u.length ≤ 4294967296 := by omega
  have hlen := scBytes_short hm
  rw [seal_len] at hlen
  have hlen2 : (scBytes ⟨7, u, o, id, ⟨a, b, c, st⟩⟩).length ≤ 4294967296 := by omega
  have HS := Lib.hid (rseal_any (scBytes ⟨7, u, o, id, ⟨a, b, c, st⟩⟩) hlen2)
  have HM := Lib.hid hm
  have HTU := Lib.hid (rtext_any u hul3)
  have hsh := Lib.hid hs
  clear hm hs
  have HR := scBytes_show (u := u) (o := o) (st := st) (id := id) (a := a) (b := b) (c := c)
  have hcv := fun X => run_convert_one 7 (by omega) 7 rfl X
  have hcv2 := fun X B h => run_convert_at 7 (by omega) 7 rfl X B h
  have e1 : IntKind.u8.wrap 7 = 7 := by decide
  have hci := fun X => run_convert_one id.toNat (by omega) id (by omega) X
  obtain ⟨hd, hhd⟩ : ∃ hd, hd = [u8of 7] := ⟨_, rfl⟩
  obtain ⟨hi, hhi⟩ : ∃ hi, hi = [u8of id.toNat] := ⟨_, rfl⟩
  rw [← hhd, ← hhi] at HR
  rw [← hhd] at hcv hcv2
  rw [← hhi] at hci
  have hdl : hd.length ≤ 2 := by rw [hhd]; simp
  have hil : hi.length ≤ 2 := by rw [hhi]; simp
  clear hhi
  have hvl := vaBytes_len hv
  have hvl2 := vput_len_le (⟨a, b, c, st⟩ : Val).si.toNat
  have hvl3 := (vaMay_parts hv).2.2.2.2.2.2
  simp only at hvl hvl2 hvl3
  have hst : st.length ≤ 4294967296 := by omega
  have HVM := Lib.hid hv
  have HVP : Hid (vaPut ⟨a, b, c, st⟩ = vaBytes ⟨a, b, c, st⟩) := Lib.hid (by unfold vaPut; rw [if_pos hv])
  have hvlen : (vaBytes ⟨a, b, c, st⟩).length ≤ 100 := by omega
  obtain ⟨vb, hvb⟩ : ∃ vb, vb = vaBytes ⟨a, b, c, st⟩ := ⟨_, rfl⟩
  rw [← hvb] at HVP HR hvlen
  clear hvl hvl2 hvl3 hvb hv
  obtain ⟨pu, hpu⟩ : ∃ pu, pu = vput u.length ++ u := ⟨_, rfl⟩
  rw [← hpu] at HTU HR
  have hpul : pu.length ≤ 30 := by rw [hpu, List.length_append]; omega
  simp only [List.append_assoc] at HR
  rw [HR] at HS
  rw [HR]
  clear hhd hpu hul2 HR hlen hlen2
  go_enter Try.func27, Try.ntmps27
  go_wp2_with fail
  refine (rscmay_any 7 u o st id a b c hsh.out HM _).mono ?_
  rintro e w1 ⟨rfl, b1⟩
  have hz1 : w.heap.size < w1.heap.size := by have := b1.size; simp at this; omega
  have HB1 := Lib.hid (below2Z HB0.out b1)
  have HC1 := Lib.hid (HC0.out.later b1)
  clear b1
  obtain ⟨m0, m1, m2, m3, m4, m5, m6, m7⟩ := eightAt HC1.out
  go_wp2_with fail
  clear m0 m1 m2 m3 m4 m5 m6 m7
  have hbig : ¬ 9223372036854775807 < hd.length + pu.length := by omega
  obtain ⟨BS, hBS⟩ : ∃ BS : List (Nat × List Value), BS = [(w.heap.size, [.int .i64 7, .string ⟨u.toArray⟩, .string ⟨o.toArray⟩, .int .i64 id, .int .i64 a, .int .i64 b, .int .i64 c, .string ⟨st.toArray⟩])] := ⟨_, rfl⟩
  have D0 := Lib.hid (show heldB w1 BS from by rw [hBS]; exact heldB_cons (fun j u hj => by have := HC1.out j u hj; exact this) (heldB_nil _))
  have hq0 : ∀ X, heldB X BS → X.cell? ⟨w.heap.size, 0, none⟩ = some (.int .i64 7) := fun X hx => heldB_get (vs := [.int .i64 7, .string ⟨u.toArray⟩, .string ⟨o.toArray⟩, .int .i64 id, .int .i64 a, .int .i64 b, .int .i64 c, .string ⟨st.toArray⟩]) hx (by rw [hBS]; simp) rfl
  have hq1 : ∀ X, heldB X BS → X.cell? ⟨w.heap.size, 1, none⟩ = some (.string ⟨u.toArray⟩) := fun X hx => heldB_get (vs := [.int .i64 7, .string ⟨u.toArray⟩, .string ⟨o.toArray⟩, .int .i64 id, .int .i64 a, .int .i64 b, .int .i64 c, .string ⟨st.toArray⟩]) hx (by rw [hBS]; simp) rfl
  have hq2 : ∀ X, heldB X BS → X.cell? ⟨w.heap.size, 2, none⟩ = some (.string ⟨o.toArray⟩) := fun X hx => heldB_get (vs := [.int .i64 7, .string ⟨u.toArray⟩, .string ⟨o.toArray⟩, .int .i64 id, .int .i64 a, .int .i64 b, .int .i64 c, .string ⟨st.toArray⟩]) hx (by rw [hBS]; simp) rfl
  have hq3 : ∀ X, heldB X BS → X.cell? ⟨w.heap.size, 3, none⟩ = some (.int .i64 id) := fun X hx => heldB_get (vs := [.int .i64 7, .string ⟨u.toArray⟩, .string ⟨o.toArray⟩, .int .i64 id, .int .i64 a, .int .i64 b, .int .i64 c, .string ⟨st.toArray⟩]) hx (by rw [hBS]; simp) rfl
  have hq4 : ∀ X, heldB X BS → X.cell? ⟨w.heap.size, 4, none⟩ = some (.int .i64 a) := fun X hx => heldB_get (vs := [.int .i64 7, .string ⟨u.toArray⟩, .string ⟨o.toArray⟩, .int .i64 id, .int .i64 a, .int .i64 b, .int .i64 c, .string ⟨st.toArray⟩]) hx (by rw [hBS]; simp) rfl
  have hq5 : ∀ X, heldB X BS → X.cell? ⟨w.heap.size, 5, none⟩ = some (.int .i64 b) := fun X hx => heldB_get (vs := [.int .i64 7, .string ⟨u.toArray⟩, .string ⟨o.toArray⟩, .int .i64 id, .int .i64 a, .int .i64 b, .int .i64 c, .string ⟨st.toArray⟩]) hx (by rw [hBS]; simp) rfl
  have hq6 : ∀ X, heldB X BS → X.cell? ⟨w.heap.size, 6, none⟩ = some (.int .i64 c) := fun X hx => heldB_get (vs := [.int .i64 7, .string ⟨u.toArray⟩, .string ⟨o.toArray⟩, .int .i64 id, .int .i64 a, .int .i64 b, .int .i64 c, .string ⟨st.toArray⟩]) hx (by rw [hBS]; simp) rfl
  have hq7 : ∀ X, heldB X BS → X.cell? ⟨w.heap.size, 7, none⟩ = some (.string ⟨st.toArray⟩) := fun X hx => heldB_get (vs := [.int .i64 7, .string ⟨u.toArray⟩, .string ⟨o.toArray⟩, .int .i64 id, .int .i64 a, .int .i64 b, .int .i64 c, .string ⟨st.toArray⟩]) hx (by rw [hBS]; simp) rfl
  clear hBS
  have K0 : Hid (Below w1.heap.size w1 w1.drew) := Lib.hid (Below.refl _ _).drew
  refine wp_region_held_drew (S := (fun X => heldB X BS)) (by kernel_rfl) ?_ (fun hHeld => ?_)
  · exact heldB_up K0.out D0.out
  generalize w1.drew = z0 at K0 hHeld ⊢
  refine wpAnyH_take (i := 0) (oi := { dst := some 10, op := Op.fieldAddr 26 (Operand.tmp 1) 0, type := 0, pos := "ref.go:45", after := #[], guard := none }) (v := ?_) rfl (by as_aux_lemma => kernel_rfl) (by as_aux_lemma => kernel_rfl) (by as_aux_lemma => kernel_rfl) (fun _ _ _ h => h) (Or.inl ⟨by rfl, ?_⟩) (by assumption) ?_
  rotate_left
  · intro w' hSw
    try dsimp only at hSw
    go_simp
    try with_reducible rfl
  try simp only [Act.put, List.setIfInBounds_toArray, List.set_cons_zero, List.set_cons_succ]
  refine wpAnyH_take (i := 1) (oi := { dst := some 11, op := Op.load 3 (Operand.tmp 10), type := 3, pos := "ref.go:45", after := #[{ on := 0, ground := Ground.data }], guard := none }) (v := ?_) rfl (by as_aux_lemma => kernel_rfl) (by as_aux_lemma => kernel_rfl) (by as_aux_lemma => kernel_rfl) (fun _ _ _ h => h) (Or.inl ⟨by rfl, ?_⟩) (by assumption) ?_
  rotate_left
  · intro w' hSw
    try dsimp only at hSw
    go_simp
    try with_reducible rfl
  try simp only [Act.put, List.setIfInBounds_toArray, List.set_cons_zero, List.set_cons_succ]
  refine wpAnyH_take (i := 2) (oi := { dst := some 12, op := Op.convert 3 5 (Operand.tmp 11), type := 5, pos := "ref.go:45", after := #[{ on := 1, ground := Ground.data }], guard := none }) (v := ?_) rfl (by as_aux_lemma => kernel_rfl) (by as_aux_lemma => kernel_rfl) (by as_aux_lemma => kernel_rfl) (fun _ _ _ h => h) (Or.inl ⟨by rfl, ?_⟩) (by assumption) ?_
  rotate_left
  · intro w' hSw
    try dsimp only at hSw
    go_simp
    try with_reducible rfl
  try simp only [Act.put, List.setIfInBounds_toArray, List.set_cons_zero, List.set_cons_succ]
  refine wpAnyH_take (i := 5) (oi := { dst := some 15, op := Op.fieldAddr 26 (Operand.tmp 1) 1, type := 0, pos := "ref.go:45", after := #[], guard := none }) (v := ?_) rfl (by as_aux_lemma => kernel_rfl) (by as_aux_lemma => kernel_rfl) (by as_aux_lemma => kernel_rfl) (fun _ _ _ h => h) (Or.inl ⟨by rfl, ?_⟩) (by assumption) ?_
  rotate_left
  · intro w' hSw
    try dsimp only at hSw
    go_simp
    try with_reducible rfl
  try simp only [Act.put, List.setIfInBounds_toArray, List.set_cons_zero, List.set_cons_succ]
  refine wpAnyH_take (i := 6) (oi := { dst := some 16, op := Op.load 9 (Operand.tmp 15), type := 9, pos := "ref.go:45", after := #[{ on := 5, ground := Ground.data }], guard := none }) (v := ?_) rfl (by as_aux_lemma => kernel_rfl) (by as_aux_lemma => kernel_rfl) (by as_aux_lemma => kernel_rfl) (fun _ _ _ h => h) (Or.inl ⟨by rfl, ?_⟩) (by assumption) ?_
  rotate_left
  · intro w' hSw
    try dsimp only at hSw
    go_simp
    try with_reducible rfl
  try simp only [Act.put, List.setIfInBounds_toArray, List.set_cons_zero, List.set_cons_succ]
  refine wpAnyH_ready (rs := [3, 7]) (by as_aux_lemma => kernel_rfl) (by simp) ?_
  refine AllReadyH.cons (o := { dst := some 13, op := Op.buildSlice 45 1 #[(0, Operand.tmp 12)], type := 45, pos := "ref.go:45", after := #[{ on := 2, ground := Ground.data }], guard := none }) rfl (fun Kx hK => ?_) (AllReadyH.cons (o := { dst := some 17, op := Op.call { callee := Callee.value (Operand.func 34), args := #[Operand.tmp 16], argTypes := #[9] }, type := 9, pos := "ref.go:45", after := #[{ on := 6, ground := Ground.data }], guard := none }) rfl (fun Kx hK => ?_) (AllReadyH.nil))
  · go_simp
    refine hK.out _ _ ?_ (fun hHeld2 => ?_)
    · exact heldB_up (below2Z K0.out (bl_newZ _ _)) D0.out
    clear hK Kx hHeld
    have hHeld := hHeld2
    clear hHeld2
    try simp only [Act.put, List.setIfInBounds_toArray, List.set_cons_zero, List.set_cons_succ]
    have bz1 := bl_newZ z0 (.cells #[.int .u8 7] 5)
    have K1 := Lib.hid (below2Z K0.out bz1)
    have D1 := Lib.hid (heldB_up K1.out D0.out)
    have nz1 := Lib.hid ((MapKept.heap_alloc z0 (.cells #[.int .u8 7] 5)).1)
    have hB1 : w1.heap.size ≤ z0.heap.size := (K0.out).size
    clear bz1
    generalize z0.alloc (.cells #[.int .u8 7] 5) = z1 at K1 D1 nz1 hHeld ⊢
    generalize z0.heap.size = B1 at nz1 hB1  ⊢
    have hcx := hcv2 _ _ nz1.out
    refine wpAnyH_ready (rs := [4, 7]) (by as_aux_lemma => kernel_rfl) (by simp) ?_
    refine AllReadyH.cons (o := { dst := some 14, op := Op.convert 45 9 (Operand.tmp 13), type := 9, pos := "ref.go:45", after := #[{ on := 3, ground := Ground.data }], guard := none }) rfl (fun Kx hK => ?_) (AllReadyH.cons (o := { dst := some 17, op := Op.call { callee := Callee.value (Operand.func 34), args := #[Operand.tmp 16], argTypes := #[9] }, type := 9, pos := "ref.go:45", after := #[{ on := 6, ground := Ground.data }], guard := none }) rfl (fun Kx hK => ?_) (AllReadyH.nil))
    · go_simp
      refine hK.out _ _ ?_ (fun hHeld2 => ?_)
      · exact heldB_up K1.out D0.out
      clear hK Kx hHeld hcx
      have hHeld := hHeld2
      clear hHeld2
      try simp only [Act.put, List.setIfInBounds_toArray, List.set_cons_zero, List.set_cons_succ]
      refine wpAnyH_ready (rs := [7]) (by as_aux_lemma => kernel_rfl) (by simp) ?_
      refine AllReadyH.cons (o := { dst := some 17, op := Op.call { callee := Callee.value (Operand.func 34), args := #[Operand.tmp 16], argTypes := #[9] }, type := 9, pos := "ref.go:45", after := #[{ on := 6, ground := Ground.data }], guard := none }) rfl (fun Kx hK => ?_) AllReadyH.nil
      go_simp
      refine (HTU.out _).mono ?_
      rintro e z3 ⟨rfl, bz3⟩
      have K3 := Lib.hid (below2Z K1.out bz3)
      have D3 := Lib.hid (heldB_up K3.out D0.out)
      replace nz1 := Lib.hid (((bz3).block _ (Array.getElem?_eq_some_iff.1 (nz1.out)).1).trans (nz1.out))
      clear bz3
      go_wp2_with fail
      refine hK.out _ _ ?_ (fun hHeld2 => ?_)
      · exact D3.out
      clear hK Kx hHeld
      have hHeld := hHeld2
      clear hHeld2
      try simp only [Act.put, List.setIfInBounds_toArray, List.set_cons_zero, List.set_cons_succ]
      refine wpAnyH_take (i := 8) (oi := { dst := some 18, op := Op.binOp BinOp.add 9 (Operand.tmp 14) (Operand.tmp 17) 9, type := 9, pos := "ref.go:45", after := #[{ on := 4, ground := Ground.data }, { on := 7, ground := Ground.data }], guard := none }) (v := ?_) rfl (by as_aux_lemma => kernel_rfl) (by as_aux_lemma => kernel_rfl) (by as_aux_lemma => kernel_rfl) (fun _ _ _ h => h) (Or.inl ⟨by rfl, ?_⟩) (by assumption) ?_
      rotate_left
      · intro w' hSw
        try dsimp only at hSw
        go_simp
        try with_reducible rfl
      try simp only [Act.put, List.setIfInBounds_toArray, List.set_cons_zero, List.set_cons_succ]
      refine wpAnyH_take (i := 9) (oi := { dst := some 4, op := Op.assign (Operand.tmp 18), type := 9, pos := "ref.go:45", after := #[{ on := 8, ground := Ground.data }, { on := 7, ground := Ground.chain }, { on := 0, ground := Ground.phase }, { on := 1, ground := Ground.phase }, { on := 2, ground := Ground.phase }, { on := 3, ground := Ground.phase }, { on := 4, ground := Ground.phase }, { on := 5, ground := Ground.phase }, { on := 6, ground := Ground.phase }, { on := 7, ground := Ground.phase }, { on := 8, ground := Ground.phase }], guard := none }) (v := ?_) rfl (by as_aux_lemma => kernel_rfl) (by as_aux_lemma => kernel_rfl) (by as_aux_lemma => kernel_rfl) (fun _ _ _ h => h) (Or.inl ⟨by rfl, ?_⟩) (by assumption) ?_
      rotate_left
      · intro w' hSw
        try dsimp only at hSw
        go_simp
        try with_reducible rfl
      try simp only [Act.put, List.setIfInBounds_toArray, List.set_cons_zero, List.set_cons_succ]
      refine wpAnyH_done (by kernel_rfl) ?_ _
      clear D0
      have HB2 := Lib.hid (below2Z HB1.out (K3.out))
      have HC2 := Lib.hid (HC1.out.later (K3.out))
      have hz2 : w.heap.size < z3.heap.size := by have := (K3.out).size; omega
      obtain ⟨m0, m1, m2, m3, m4, m5, m6, m7⟩ := eightAt HC2.out
      go_wp2_with fail
      refine (rvaput_any a b c st hst HVP HVM _).mono ?_
      rintro e wt ⟨rfl, bt⟩
      have HB3 := Lib.hid (below2Z (below2Z HB2.out (bl_newZ _ _)) bt)
      clear bt
      go_wp2_with fail
      (with_reducible refine (HS.out _).mono ?_)
      rintro e wu ⟨rfl, bu⟩
      have HB4 := Lib.hid (below2Z HB3.out bu)
      clear bu m0 m1 m2 m3 m4 m5 m6 m7
      go_wp2_with fail
      go_ret2
      exact ⟨rfl, HB4.out⟩
    · go_simp
      refine (HTU.out _).mono ?_
      rintro e z4 ⟨rfl, bz4⟩
      have K4 := Lib.hid (below2Z K1.out bz4)
      have D4 := Lib.hid (heldB_up K4.out D0.out)
      replace nz1 := Lib.hid (((bz4).block _ (Array.getElem?_eq_some_iff.1 (nz1.out)).1).trans (nz1.out))
      clear bz4
      go_wp2_with fail
      refine hK.out _ _ ?_ (fun hHeld2 => ?_)
      · exact D4.out
      clear hK Kx hHeld
      have hHeld := hHeld2
      clear hHeld2
      try simp only [Act.put, List.setIfInBounds_toArray, List.set_cons_zero, List.set_cons_succ]
      have hcx := hcv2 _ _ nz1.out
      refine wpAnyH_ready (rs := [4]) (by as_aux_lemma => kernel_rfl) (by simp) ?_
      refine AllReadyH.cons (o := { dst := some 14, op := Op.convert 45 9 (Operand.tmp 13), type := 9, pos := "ref.go:45", after := #[{ on := 3, ground := Ground.data }], guard := none }) rfl (fun Kx hK => ?_) AllReadyH.nil
      go_simp
      refine hK.out _ _ ?_ (fun hHeld2 => ?_)
      · exact heldB_up K4.out D0.out
      clear hK Kx hHeld hcx
      have hHeld := hHeld2
      clear hHeld2
      try simp only [Act.put, List.setIfInBounds_toArray, List.set_cons_zero, List.set_cons_succ]
      refine wpAnyH_take (i := 8) (oi := { dst := some 18, op := Op.binOp BinOp.add 9 (Operand.tmp 14) (Operand.tmp 17) 9, type := 9, pos := "ref.go:45", after := #[{ on := 4, ground := Ground.data }, { on := 7, ground := Ground.data }], guard := none }) (v := ?_) rfl (by as_aux_lemma => kernel_rfl) (by as_aux_lemma => kernel_rfl) (by as_aux_lemma => kernel_rfl) (fun _ _ _ h => h) (Or.inl ⟨by rfl, ?_⟩) (by assumption) ?_
      rotate_left
      · intro w' hSw
        try dsimp only at hSw
        go_simp
        try with_reducible rfl
      try simp only [Act.put, List.setIfInBounds_toArray, List.set_cons_zero, List.set_cons_succ]
      refine wpAnyH_take (i := 9) (oi := { dst := some 4, op := Op.assign (Operand.tmp 18), type := 9, pos := "ref.go:45", after := #[{ on := 8, ground := Ground.data }, { on := 7, ground := Ground.chain }, { on := 0, ground := Ground.phase }, { on := 1, ground := Ground.phase }, { on := 2, ground := Ground.phase }, { on := 3, ground := Ground.phase }, { on := 4, ground := Ground.phase }, { on := 5, ground := Ground.phase }, { on := 6, ground := Ground.phase }, { on := 7, ground := Ground.phase }, { on := 8, ground := Ground.phase }], guard := none }) (v := ?_) rfl (by as_aux_lemma => kernel_rfl) (by as_aux_lemma => kernel_rfl) (by as_aux_lemma => kernel_rfl) (fun _ _ _ h => h) (Or.inl ⟨by rfl, ?_⟩) (by assumption) ?_
      rotate_left
      · intro w' hSw
        try dsimp only at hSw
        go_simp
        try with_reducible rfl
      try simp only [Act.put, List.setIfInBounds_toArray, List.set_cons_zero, List.set_cons_succ]
      refine wpAnyH_done (by kernel_rfl) ?_ _
      clear D0
      have HB2 := Lib.hid (below2Z HB1.out (K4.out))
      have HC2 := Lib.hid (HC1.out.later (K4.out))
      have hz2 : w.heap.size < z4.heap.size := by have := (K4.out).size; omega
      obtain ⟨m0, m1, m2, m3, m4, m5, m6, m7⟩ := eightAt HC2.out
      go_wp2_with fail
      refine (rvaput_any a b c st hst HVP HVM _).mono ?_
      rintro e wt ⟨rfl, bt⟩
      have HB3 := Lib.hid (below2Z (below2Z HB2.out (bl_newZ _ _)) bt)
      clear bt
      go_wp2_with fail
      (with_reducible refine (HS.out _).mono ?_)
      rintro e wu ⟨rfl, bu⟩
      have HB4 := Lib.hid (below2Z HB3.out bu)
      clear bu m0 m1 m2 m3 m4 m5 m6 m7
      go_wp2_with fail
      go_ret2
      exact ⟨rfl, HB4.out⟩
  · go_simp
    refine (HTU.out _).mono ?_
    rintro e z6 ⟨rfl, bz6⟩
    have K6 := Lib.hid (below2Z K0.out bz6)
    have D6 := Lib.hid (heldB_up K6.out D0.out)
    clear bz6
    go_wp2_with fail
    refine hK.out _ _ ?_ (fun hHeld2 => ?_)
    · exact D6.out
    clear hK Kx hHeld
    have hHeld := hHeld2
    clear hHeld2
    try simp only [Act.put, List.setIfInBounds_toArray, List.set_cons_zero, List.set_cons_succ]
    refine wpAnyH_ready (rs := [3]) (by as_aux_lemma => kernel_rfl) (by simp) ?_
    refine AllReadyH.cons (o := { dst := some 13, op := Op.buildSlice 45 1 #[(0, Operand.tmp 12)], type := 45, pos := "ref.go:45", after := #[{ on := 2, ground := Ground.data }], guard := none }) rfl (fun Kx hK => ?_) AllReadyH.nil
    go_simp
    refine hK.out _ _ ?_ (fun hHeld2 => ?_)
    · exact heldB_up (below2Z K6.out (bl_newZ _ _)) D0.out
    clear hK Kx hHeld
    have hHeld := hHeld2
    clear hHeld2
    try simp only [Act.put, List.setIfInBounds_toArray, List.set_cons_zero, List.set_cons_succ]
    have bz7 := bl_newZ z6 (.cells #[.int .u8 7] 5)
    have K7 := Lib.hid (below2Z K6.out bz7)
    have D7 := Lib.hid (heldB_up K7.out D0.out)
    have nz7 := Lib.hid ((MapKept.heap_alloc z6 (.cells #[.int .u8 7] 5)).1)
    have hB7 : w1.heap.size ≤ z6.heap.size := (K6.out).size
    clear bz7
    generalize z6.alloc (.cells #[.int .u8 7] 5) = z7 at K7 D7 nz7 hHeld ⊢
    generalize z6.heap.size = B7 at nz7 hB7  ⊢
    have hcx := hcv2 _ _ nz7.out
    refine wpAnyH_ready (rs := [4]) (by as_aux_lemma => kernel_rfl) (by simp) ?_
    refine AllReadyH.cons (o := { dst := some 14, op := Op.convert 45 9 (Operand.tmp 13), type := 9, pos := "ref.go:45", after := #[{ on := 3, ground := Ground.data }], guard := none }) rfl (fun Kx hK => ?_) AllReadyH.nil
    go_simp
    refine hK.out _ _ ?_ (fun hHeld2 => ?_)
    · exact heldB_up K7.out D0.out
    clear hK Kx hHeld hcx
    have hHeld := hHeld2
    clear hHeld2
    try simp only [Act.put, List.setIfInBounds_toArray, List.set_cons_zero, List.set_cons_succ]
    refine wpAnyH_take (i := 8) (oi := { dst := some 18, op := Op.binOp BinOp.add 9 (Operand.tmp 14) (Operand.tmp 17) 9, type := 9, pos := "ref.go:45", after := #[{ on := 4, ground := Ground.data }, { on := 7, ground := Ground.data }], guard := none }) (v := ?_) rfl (by as_aux_lemma => kernel_rfl) (by as_aux_lemma => kernel_rfl) (by as_aux_lemma => kernel_rfl) (fun _ _ _ h => h) (Or.inl ⟨by rfl, ?_⟩) (by assumption) ?_
    rotate_left
    · intro w' hSw
      try dsimp only at hSw
      go_simp
      try with_reducible rfl
    try simp only [Act.put, List.setIfInBounds_toArray, List.set_cons_zero, List.set_cons_succ]
    refine wpAnyH_take (i := 9) (oi := { dst := some 4, op := Op.assign (Operand.tmp 18), type := 9, pos := "ref.go:45", after := #[{ on := 8, ground := Ground.data }, { on := 7, ground := Ground.chain }, { on := 0, ground := Ground.phase }, { on := 1, ground := Ground.phase }, { on := 2, ground := Ground.phase }, { on := 3, ground := Ground.phase }, { on := 4, ground := Ground.phase }, { on := 5, ground := Ground.phase }, { on := 6, ground := Ground.phase }, { on := 7, ground := Ground.phase }, { on := 8, ground := Ground.phase }], guard := none }) (v := ?_) rfl (by as_aux_lemma => kernel_rfl) (by as_aux_lemma => kernel_rfl) (by as_aux_lemma => kernel_rfl) (fun _ _ _ h => h) (Or.inl ⟨by rfl, ?_⟩) (by assumption) ?_
    rotate_left
    · intro w' hSw
      try dsimp only at hSw
      go_simp
      try with_reducible rfl
    try simp only [Act.put, List.setIfInBounds_toArray, List.set_cons_zero, List.set_cons_succ]
    refine wpAnyH_done (by kernel_rfl) ?_ _
    clear D0
    have HB2 := Lib.hid (below2Z HB1.out (K7.out))
    have HC2 := Lib.hid (HC1.out.later (K7.out))
    have hz2 : w.heap.size < z7.heap.size := by have := (K7.out).size; omega
    obtain ⟨m0, m1, m2, m3, m4, m5, m6, m7⟩ := eightAt HC2.out
    go_wp2_with fail
    refine (rvaput_any a b c st hst HVP HVM _).mono ?_
    rintro e wt ⟨rfl, bt⟩
    have HB3 := Lib.hid (below2Z (below2Z HB2.out (bl_newZ _ _)) bt)
    clear bt
    go_wp2_with fail
    (with_reducible refine (HS.out _).mono ?_)
    rintro e wu ⟨rfl, bu⟩
    have HB4 := Lib.hid (below2Z HB3.out bu)
    clear bu m0 m1 m2 m3 m4 m5 m6 m7
    go_wp2_with fail
    go_ret2
    exact ⟨rfl, HB4.out⟩

set_option maxHeartbeats 1600000 in
set_option maxRecDepth 100000 in
theorem rscenc_leave (u o st : List UInt8) (id a b c : Int) (hs : evShort ⟨8, u, o, id, ⟨a, b, c, st⟩⟩) (hm : scMay ⟨8, u, o, id, ⟨a, b, c, st⟩⟩ = true) (hu : idIs u = true) (i0 : 0 ≤ id) (i4 : id < 4) (w : World) :
    Calls Try.prog 27 #[.agg #[.int .i64 8, .string ⟨u.toArray⟩, .string ⟨o.toArray⟩, .int .i64 id, .int .i64 a, .int .i64 b, .int .i64 c, .string ⟨st.toArray⟩]] w fun e w' => e = .returned (.tuple #[.string ⟨(cseal (scBytes ⟨8, u, o, id, ⟨a, b, c, st⟩⟩)).toArray⟩, .int .i64 0]) ∧ Below w.heap.size w w' := by
  have HB0 := Lib.hid (bl_newZ w (.cells #[.int .i64 8, .string ⟨u.toArray⟩, .string ⟨o.toArray⟩, .int .i64 id, .int .i64 a, .int .i64 b, .int .i64 c, .string ⟨st.toArray⟩] 26))
  have HC0 := Lib.hid (cellsAt_made (w := w) (cs := #[.int .i64 8, .string ⟨u.toArray⟩, .string ⟨o.toArray⟩, .int .i64 id, .int .i64 a, .int .i64 b, .int .i64 c, .string ⟨st.toArray⟩]) (vs := evVals ⟨8, u, o, id, ⟨a, b, c, st⟩⟩) rfl 26 rfl)
  have hul := (idIs_parts hu).2.1
  have hul2 := vput_len_le u.length
  have hul3 : u.length ≤ 4294967296 := by omega
  have hlen := scBytes_short hm
  rw [seal_len] at hlen
  have hlen2 : (scBytes ⟨8, u, o, id, ⟨a, b, c, st⟩⟩).length ≤ 4294967296 := by omega
  have HS := Lib.hid (rseal_any (scBytes ⟨8, u, o, id, ⟨a, b, c, st⟩⟩) hlen2)
  have HM := Lib.hid hm
  have HTU := Lib.hid (rtext_any u hul3)
  have hsh := Lib.hid hs
  clear hm hs
  have HR := scBytes_leave (u := u) (o := o) (st := st) (id := id) (a := a) (b := b) (c := c)
  have hcv := fun X => run_convert_one 8 (by omega) 8 rfl X
  have hcv2 := fun X B h => run_convert_at 8 (by omega) 8 rfl X B h
  have e1 : IntKind.u8.wrap 8 = 8 := by decide
  have hci := fun X => run_convert_one id.toNat (by omega) id (by omega) X
  obtain ⟨hd, hhd⟩ : ∃ hd, hd = [u8of 8] := ⟨_, rfl⟩
  obtain ⟨hi, hhi⟩ : ∃ hi, hi = [u8of id.toNat] := ⟨_, rfl⟩
  rw [← hhd, ← hhi] at HR
  rw [← hhd] at hcv hcv2
  rw [← hhi] at hci
  have hdl : hd.length ≤ 2 := by rw [hhd]; simp
  have hil : hi.length ≤ 2 := by rw [hhi]; simp
  clear hhi
  obtain ⟨pu, hpu⟩ : ∃ pu, pu = vput u.length ++ u := ⟨_, rfl⟩
  rw [← hpu] at HTU HR
  have hpul : pu.length ≤ 30 := by rw [hpu, List.length_append]; omega
  simp only [List.append_assoc] at HR
  rw [HR] at HS
  rw [HR]
  clear hhd hpu hul2 HR hlen hlen2
  go_enter Try.func27, Try.ntmps27
  go_wp2_with fail
  refine (rscmay_any 8 u o st id a b c hsh.out HM _).mono ?_
  rintro e w1 ⟨rfl, b1⟩
  have hz1 : w.heap.size < w1.heap.size := by have := b1.size; simp at this; omega
  have HB1 := Lib.hid (below2Z HB0.out b1)
  have HC1 := Lib.hid (HC0.out.later b1)
  clear b1
  obtain ⟨m0, m1, m2, m3, m4, m5, m6, m7⟩ := eightAt HC1.out
  go_wp2_with fail
  clear m0 m1 m2 m3 m4 m5 m6 m7
  have hbig : ¬ 9223372036854775807 < hd.length + pu.length := by omega
  obtain ⟨BS, hBS⟩ : ∃ BS : List (Nat × List Value), BS = [(w.heap.size, [.int .i64 8, .string ⟨u.toArray⟩, .string ⟨o.toArray⟩, .int .i64 id, .int .i64 a, .int .i64 b, .int .i64 c, .string ⟨st.toArray⟩])] := ⟨_, rfl⟩
  have D0 := Lib.hid (show heldB w1 BS from by rw [hBS]; exact heldB_cons (fun j u hj => by have := HC1.out j u hj; exact this) (heldB_nil _))
  have hq0 : ∀ X, heldB X BS → X.cell? ⟨w.heap.size, 0, none⟩ = some (.int .i64 8) := fun X hx => heldB_get (vs := [.int .i64 8, .string ⟨u.toArray⟩, .string ⟨o.toArray⟩, .int .i64 id, .int .i64 a, .int .i64 b, .int .i64 c, .string ⟨st.toArray⟩]) hx (by rw [hBS]; simp) rfl
  have hq1 : ∀ X, heldB X BS → X.cell? ⟨w.heap.size, 1, none⟩ = some (.string ⟨u.toArray⟩) := fun X hx => heldB_get (vs := [.int .i64 8, .string ⟨u.toArray⟩, .string ⟨o.toArray⟩, .int .i64 id, .int .i64 a, .int .i64 b, .int .i64 c, .string ⟨st.toArray⟩]) hx (by rw [hBS]; simp) rfl
  have hq2 : ∀ X, heldB X BS → X.cell? ⟨w.heap.size, 2, none⟩ = some (.string ⟨o.toArray⟩) := fun X hx => heldB_get (vs := [.int .i64 8, .string ⟨u.toArray⟩, .string ⟨o.toArray⟩, .int .i64 id, .int .i64 a, .int .i64 b, .int .i64 c, .string ⟨st.toArray⟩]) hx (by rw [hBS]; simp) rfl
  have hq3 : ∀ X, heldB X BS → X.cell? ⟨w.heap.size, 3, none⟩ = some (.int .i64 id) := fun X hx => heldB_get (vs := [.int .i64 8, .string ⟨u.toArray⟩, .string ⟨o.toArray⟩, .int .i64 id, .int .i64 a, .int .i64 b, .int .i64 c, .string ⟨st.toArray⟩]) hx (by rw [hBS]; simp) rfl
  have hq4 : ∀ X, heldB X BS → X.cell? ⟨w.heap.size, 4, none⟩ = some (.int .i64 a) := fun X hx => heldB_get (vs := [.int .i64 8, .string ⟨u.toArray⟩, .string ⟨o.toArray⟩, .int .i64 id, .int .i64 a, .int .i64 b, .int .i64 c, .string ⟨st.toArray⟩]) hx (by rw [hBS]; simp) rfl
  have hq5 : ∀ X, heldB X BS → X.cell? ⟨w.heap.size, 5, none⟩ = some (.int .i64 b) := fun X hx => heldB_get (vs := [.int .i64 8, .string ⟨u.toArray⟩, .string ⟨o.toArray⟩, .int .i64 id, .int .i64 a, .int .i64 b, .int .i64 c, .string ⟨st.toArray⟩]) hx (by rw [hBS]; simp) rfl
  have hq6 : ∀ X, heldB X BS → X.cell? ⟨w.heap.size, 6, none⟩ = some (.int .i64 c) := fun X hx => heldB_get (vs := [.int .i64 8, .string ⟨u.toArray⟩, .string ⟨o.toArray⟩, .int .i64 id, .int .i64 a, .int .i64 b, .int .i64 c, .string ⟨st.toArray⟩]) hx (by rw [hBS]; simp) rfl
  have hq7 : ∀ X, heldB X BS → X.cell? ⟨w.heap.size, 7, none⟩ = some (.string ⟨st.toArray⟩) := fun X hx => heldB_get (vs := [.int .i64 8, .string ⟨u.toArray⟩, .string ⟨o.toArray⟩, .int .i64 id, .int .i64 a, .int .i64 b, .int .i64 c, .string ⟨st.toArray⟩]) hx (by rw [hBS]; simp) rfl
  clear hBS
  have K0 : Hid (Below w1.heap.size w1 w1.drew) := Lib.hid (Below.refl _ _).drew
  refine wp_region_held_drew (S := (fun X => heldB X BS)) (by kernel_rfl) ?_ (fun hHeld => ?_)
  · exact heldB_up K0.out D0.out
  generalize w1.drew = z0 at K0 hHeld ⊢
  refine wpAnyH_take (i := 0) (oi := { dst := some 10, op := Op.fieldAddr 26 (Operand.tmp 1) 0, type := 0, pos := "ref.go:45", after := #[], guard := none }) (v := ?_) rfl (by as_aux_lemma => kernel_rfl) (by as_aux_lemma => kernel_rfl) (by as_aux_lemma => kernel_rfl) (fun _ _ _ h => h) (Or.inl ⟨by rfl, ?_⟩) (by assumption) ?_
  rotate_left
  · intro w' hSw
    try dsimp only at hSw
    go_simp
    try with_reducible rfl
  try simp only [Act.put, List.setIfInBounds_toArray, List.set_cons_zero, List.set_cons_succ]
  refine wpAnyH_take (i := 1) (oi := { dst := some 11, op := Op.load 3 (Operand.tmp 10), type := 3, pos := "ref.go:45", after := #[{ on := 0, ground := Ground.data }], guard := none }) (v := ?_) rfl (by as_aux_lemma => kernel_rfl) (by as_aux_lemma => kernel_rfl) (by as_aux_lemma => kernel_rfl) (fun _ _ _ h => h) (Or.inl ⟨by rfl, ?_⟩) (by assumption) ?_
  rotate_left
  · intro w' hSw
    try dsimp only at hSw
    go_simp
    try with_reducible rfl
  try simp only [Act.put, List.setIfInBounds_toArray, List.set_cons_zero, List.set_cons_succ]
  refine wpAnyH_take (i := 2) (oi := { dst := some 12, op := Op.convert 3 5 (Operand.tmp 11), type := 5, pos := "ref.go:45", after := #[{ on := 1, ground := Ground.data }], guard := none }) (v := ?_) rfl (by as_aux_lemma => kernel_rfl) (by as_aux_lemma => kernel_rfl) (by as_aux_lemma => kernel_rfl) (fun _ _ _ h => h) (Or.inl ⟨by rfl, ?_⟩) (by assumption) ?_
  rotate_left
  · intro w' hSw
    try dsimp only at hSw
    go_simp
    try with_reducible rfl
  try simp only [Act.put, List.setIfInBounds_toArray, List.set_cons_zero, List.set_cons_succ]
  refine wpAnyH_take (i := 5) (oi := { dst := some 15, op := Op.fieldAddr 26 (Operand.tmp 1) 1, type := 0, pos := "ref.go:45", after := #[], guard := none }) (v := ?_) rfl (by as_aux_lemma => kernel_rfl) (by as_aux_lemma => kernel_rfl) (by as_aux_lemma => kernel_rfl) (fun _ _ _ h => h) (Or.inl ⟨by rfl, ?_⟩) (by assumption) ?_
  rotate_left
  · intro w' hSw
    try dsimp only at hSw
    go_simp
    try with_reducible rfl
  try simp only [Act.put, List.setIfInBounds_toArray, List.set_cons_zero, List.set_cons_succ]
  refine wpAnyH_take (i := 6) (oi := { dst := some 16, op := Op.load 9 (Operand.tmp 15), type := 9, pos := "ref.go:45", after := #[{ on := 5, ground := Ground.data }], guard := none }) (v := ?_) rfl (by as_aux_lemma => kernel_rfl) (by as_aux_lemma => kernel_rfl) (by as_aux_lemma => kernel_rfl) (fun _ _ _ h => h) (Or.inl ⟨by rfl, ?_⟩) (by assumption) ?_
  rotate_left
  · intro w' hSw
    try dsimp only at hSw
    go_simp
    try with_reducible rfl
  try simp only [Act.put, List.setIfInBounds_toArray, List.set_cons_zero, List.set_cons_succ]
  refine wpAnyH_ready (rs := [3, 7]) (by as_aux_lemma => kernel_rfl) (by simp) ?_
  refine AllReadyH.cons (o := { dst := some 13, op := Op.buildSlice 45 1 #[(0, Operand.tmp 12)], type := 45, pos := "ref.go:45", after := #[{ on := 2, ground := Ground.data }], guard := none }) rfl (fun Kx hK => ?_) (AllReadyH.cons (o := { dst := some 17, op := Op.call { callee := Callee.value (Operand.func 34), args := #[Operand.tmp 16], argTypes := #[9] }, type := 9, pos := "ref.go:45", after := #[{ on := 6, ground := Ground.data }], guard := none }) rfl (fun Kx hK => ?_) (AllReadyH.nil))
  · go_simp
    refine hK.out _ _ ?_ (fun hHeld2 => ?_)
    · exact heldB_up (below2Z K0.out (bl_newZ _ _)) D0.out
    clear hK Kx hHeld
    have hHeld := hHeld2
    clear hHeld2
    try simp only [Act.put, List.setIfInBounds_toArray, List.set_cons_zero, List.set_cons_succ]
    have bz1 := bl_newZ z0 (.cells #[.int .u8 8] 5)
    have K1 := Lib.hid (below2Z K0.out bz1)
    have D1 := Lib.hid (heldB_up K1.out D0.out)
    have nz1 := Lib.hid ((MapKept.heap_alloc z0 (.cells #[.int .u8 8] 5)).1)
    have hB1 : w1.heap.size ≤ z0.heap.size := (K0.out).size
    clear bz1
    generalize z0.alloc (.cells #[.int .u8 8] 5) = z1 at K1 D1 nz1 hHeld ⊢
    generalize z0.heap.size = B1 at nz1 hB1  ⊢
    have hcx := hcv2 _ _ nz1.out
    refine wpAnyH_ready (rs := [4, 7]) (by as_aux_lemma => kernel_rfl) (by simp) ?_
    refine AllReadyH.cons (o := { dst := some 14, op := Op.convert 45 9 (Operand.tmp 13), type := 9, pos := "ref.go:45", after := #[{ on := 3, ground := Ground.data }], guard := none }) rfl (fun Kx hK => ?_) (AllReadyH.cons (o := { dst := some 17, op := Op.call { callee := Callee.value (Operand.func 34), args := #[Operand.tmp 16], argTypes := #[9] }, type := 9, pos := "ref.go:45", after := #[{ on := 6, ground := Ground.data }], guard := none }) rfl (fun Kx hK => ?_) (AllReadyH.nil))
    · go_simp
      refine hK.out _ _ ?_ (fun hHeld2 => ?_)
      · exact heldB_up K1.out D0.out
      clear hK Kx hHeld hcx
      have hHeld := hHeld2
      clear hHeld2
      try simp only [Act.put, List.setIfInBounds_toArray, List.set_cons_zero, List.set_cons_succ]
      refine wpAnyH_ready (rs := [7]) (by as_aux_lemma => kernel_rfl) (by simp) ?_
      refine AllReadyH.cons (o := { dst := some 17, op := Op.call { callee := Callee.value (Operand.func 34), args := #[Operand.tmp 16], argTypes := #[9] }, type := 9, pos := "ref.go:45", after := #[{ on := 6, ground := Ground.data }], guard := none }) rfl (fun Kx hK => ?_) AllReadyH.nil
      go_simp
      refine (HTU.out _).mono ?_
      rintro e z3 ⟨rfl, bz3⟩
      have K3 := Lib.hid (below2Z K1.out bz3)
      have D3 := Lib.hid (heldB_up K3.out D0.out)
      replace nz1 := Lib.hid (((bz3).block _ (Array.getElem?_eq_some_iff.1 (nz1.out)).1).trans (nz1.out))
      clear bz3
      go_wp2_with fail
      refine hK.out _ _ ?_ (fun hHeld2 => ?_)
      · exact D3.out
      clear hK Kx hHeld
      have hHeld := hHeld2
      clear hHeld2
      try simp only [Act.put, List.setIfInBounds_toArray, List.set_cons_zero, List.set_cons_succ]
      refine wpAnyH_take (i := 8) (oi := { dst := some 18, op := Op.binOp BinOp.add 9 (Operand.tmp 14) (Operand.tmp 17) 9, type := 9, pos := "ref.go:45", after := #[{ on := 4, ground := Ground.data }, { on := 7, ground := Ground.data }], guard := none }) (v := ?_) rfl (by as_aux_lemma => kernel_rfl) (by as_aux_lemma => kernel_rfl) (by as_aux_lemma => kernel_rfl) (fun _ _ _ h => h) (Or.inl ⟨by rfl, ?_⟩) (by assumption) ?_
      rotate_left
      · intro w' hSw
        try dsimp only at hSw
        go_simp
        try with_reducible rfl
      try simp only [Act.put, List.setIfInBounds_toArray, List.set_cons_zero, List.set_cons_succ]
      refine wpAnyH_take (i := 9) (oi := { dst := some 4, op := Op.assign (Operand.tmp 18), type := 9, pos := "ref.go:45", after := #[{ on := 8, ground := Ground.data }, { on := 7, ground := Ground.chain }, { on := 0, ground := Ground.phase }, { on := 1, ground := Ground.phase }, { on := 2, ground := Ground.phase }, { on := 3, ground := Ground.phase }, { on := 4, ground := Ground.phase }, { on := 5, ground := Ground.phase }, { on := 6, ground := Ground.phase }, { on := 7, ground := Ground.phase }, { on := 8, ground := Ground.phase }], guard := none }) (v := ?_) rfl (by as_aux_lemma => kernel_rfl) (by as_aux_lemma => kernel_rfl) (by as_aux_lemma => kernel_rfl) (fun _ _ _ h => h) (Or.inl ⟨by rfl, ?_⟩) (by assumption) ?_
      rotate_left
      · intro w' hSw
        try dsimp only at hSw
        go_simp
        try with_reducible rfl
      try simp only [Act.put, List.setIfInBounds_toArray, List.set_cons_zero, List.set_cons_succ]
      refine wpAnyH_done (by kernel_rfl) ?_ _
      clear D0
      have HB2 := Lib.hid (below2Z HB1.out (K3.out))
      have HC2 := Lib.hid (HC1.out.later (K3.out))
      have hz2 : w.heap.size < z3.heap.size := by have := (K3.out).size; omega
      obtain ⟨m0, m1, m2, m3, m4, m5, m6, m7⟩ := eightAt HC2.out
      go_wp2_with fail
      have HB3 := Lib.hid (below2Z HB2.out (bl_newZ _ (.cells #[.int .u8 id] 5)))
      (with_reducible refine (HS.out _).mono ?_)
      rintro e wu ⟨rfl, bu⟩
      have HB4 := Lib.hid (below2Z HB3.out bu)
      clear bu m0 m1 m2 m3 m4 m5 m6 m7
      go_wp2_with fail
      go_ret2
      exact ⟨rfl, HB4.out⟩
    · go_simp
      refine (HTU.out _).mono ?_
      rintro e z4 ⟨rfl, bz4⟩
      have K4 := Lib.hid (below2Z K1.out bz4)
      have D4 := Lib.hid (heldB_up K4.out D0.out)
      replace nz1 := Lib.hid (((bz4).block _ (Array.getElem?_eq_some_iff.1 (nz1.out)).1).trans (nz1.out))
      clear bz4
      go_wp2_with fail
      refine hK.out _ _ ?_ (fun hHeld2 => ?_)
      · exact D4.out
      clear hK Kx hHeld
      have hHeld := hHeld2
      clear hHeld2
      try simp only [Act.put, List.setIfInBounds_toArray, List.set_cons_zero, List.set_cons_succ]
      have hcx := hcv2 _ _ nz1.out
      refine wpAnyH_ready (rs := [4]) (by as_aux_lemma => kernel_rfl) (by simp) ?_
      refine AllReadyH.cons (o := { dst := some 14, op := Op.convert 45 9 (Operand.tmp 13), type := 9, pos := "ref.go:45", after := #[{ on := 3, ground := Ground.data }], guard := none }) rfl (fun Kx hK => ?_) AllReadyH.nil
      go_simp
      refine hK.out _ _ ?_ (fun hHeld2 => ?_)
      · exact heldB_up K4.out D0.out
      clear hK Kx hHeld hcx
      have hHeld := hHeld2
      clear hHeld2
      try simp only [Act.put, List.setIfInBounds_toArray, List.set_cons_zero, List.set_cons_succ]
      refine wpAnyH_take (i := 8) (oi := { dst := some 18, op := Op.binOp BinOp.add 9 (Operand.tmp 14) (Operand.tmp 17) 9, type := 9, pos := "ref.go:45", after := #[{ on := 4, ground := Ground.data }, { on := 7, ground := Ground.data }], guard := none }) (v := ?_) rfl (by as_aux_lemma => kernel_rfl) (by as_aux_lemma => kernel_rfl) (by as_aux_lemma => kernel_rfl) (fun _ _ _ h => h) (Or.inl ⟨by rfl, ?_⟩) (by assumption) ?_
      rotate_left
      · intro w' hSw
        try dsimp only at hSw
        go_simp
        try with_reducible rfl
      try simp only [Act.put, List.setIfInBounds_toArray, List.set_cons_zero, List.set_cons_succ]
      refine wpAnyH_take (i := 9) (oi := { dst := some 4, op := Op.assign (Operand.tmp 18), type := 9, pos := "ref.go:45", after := #[{ on := 8, ground := Ground.data }, { on := 7, ground := Ground.chain }, { on := 0, ground := Ground.phase }, { on := 1, ground := Ground.phase }, { on := 2, ground := Ground.phase }, { on := 3, ground := Ground.phase }, { on := 4, ground := Ground.phase }, { on := 5, ground := Ground.phase }, { on := 6, ground := Ground.phase }, { on := 7, ground := Ground.phase }, { on := 8, ground := Ground.phase }], guard := none }) (v := ?_) rfl (by as_aux_lemma => kernel_rfl) (by as_aux_lemma => kernel_rfl) (by as_aux_lemma => kernel_rfl) (fun _ _ _ h => h) (Or.inl ⟨by rfl, ?_⟩) (by assumption) ?_
      rotate_left
      · intro w' hSw
        try dsimp only at hSw
        go_simp
        try with_reducible rfl
      try simp only [Act.put, List.setIfInBounds_toArray, List.set_cons_zero, List.set_cons_succ]
      refine wpAnyH_done (by kernel_rfl) ?_ _
      clear D0
      have HB2 := Lib.hid (below2Z HB1.out (K4.out))
      have HC2 := Lib.hid (HC1.out.later (K4.out))
      have hz2 : w.heap.size < z4.heap.size := by have := (K4.out).size; omega
      obtain ⟨m0, m1, m2, m3, m4, m5, m6, m7⟩ := eightAt HC2.out
      go_wp2_with fail
      have HB3 := Lib.hid (below2Z HB2.out (bl_newZ _ (.cells #[.int .u8 id] 5)))
      (with_reducible refine (HS.out _).mono ?_)
      rintro e wu ⟨rfl, bu⟩
      have HB4 := Lib.hid (below2Z HB3.out bu)
      clear bu m0 m1 m2 m3 m4 m5 m6 m7
      go_wp2_with fail
      go_ret2
      exact ⟨rfl, HB4.out⟩
  · go_simp
    refine (HTU.out _).mono ?_
    rintro e z6 ⟨rfl, bz6⟩
    have K6 := Lib.hid (below2Z K0.out bz6)
    have D6 := Lib.hid (heldB_up K6.out D0.out)
    clear bz6
    go_wp2_with fail
    refine hK.out _ _ ?_ (fun hHeld2 => ?_)
    · exact D6.out
    clear hK Kx hHeld
    have hHeld := hHeld2
    clear hHeld2
    try simp only [Act.put, List.setIfInBounds_toArray, List.set_cons_zero, List.set_cons_succ]
    refine wpAnyH_ready (rs := [3]) (by as_aux_lemma => kernel_rfl) (by simp) ?_
    refine AllReadyH.cons (o := { dst := some 13, op := Op.buildSlice 45 1 #[(0, Operand.tmp 12)], type := 45, pos := "ref.go:45", after := #[{ on := 2, ground := Ground.data }], guard := none }) rfl (fun Kx hK => ?_) AllReadyH.nil
    go_simp
    refine hK.out _ _ ?_ (fun hHeld2 => ?_)
    · exact heldB_up (below2Z K6.out (bl_newZ _ _)) D0.out
    clear hK Kx hHeld
    have hHeld := hHeld2
    clear hHeld2
    try simp only [Act.put, List.setIfInBounds_toArray, List.set_cons_zero, List.set_cons_succ]
    have bz7 := bl_newZ z6 (.cells #[.int .u8 8] 5)
    have K7 := Lib.hid (below2Z K6.out bz7)
    have D7 := Lib.hid (heldB_up K7.out D0.out)
    have nz7 := Lib.hid ((MapKept.heap_alloc z6 (.cells #[.int .u8 8] 5)).1)
    have hB7 : w1.heap.size ≤ z6.heap.size := (K6.out).size
    clear bz7
    generalize z6.alloc (.cells #[.int .u8 8] 5) = z7 at K7 D7 nz7 hHeld ⊢
    generalize z6.heap.size = B7 at nz7 hB7  ⊢
    have hcx := hcv2 _ _ nz7.out
    refine wpAnyH_ready (rs := [4]) (by as_aux_lemma => kernel_rfl) (by simp) ?_
    refine AllReadyH.cons (o := { dst := some 14, op := Op.convert 45 9 (Operand.tmp 13), type := 9, pos := "ref.go:45", after := #[{ on := 3, ground := Ground.data }], guard := none }) rfl (fun Kx hK => ?_) AllReadyH.nil
    go_simp
    refine hK.out _ _ ?_ (fun hHeld2 => ?_)
    · exact heldB_up K7.out D0.out
    clear hK Kx hHeld hcx
    have hHeld := hHeld2
    clear hHeld2
    try simp only [Act.put, List.setIfInBounds_toArray, List.set_cons_zero, List.set_cons_succ]
    refine wpAnyH_take (i := 8) (oi := { dst := some 18, op := Op.binOp BinOp.add 9 (Operand.tmp 14) (Operand.tmp 17) 9, type := 9, pos := "ref.go:45", after := #[{ on := 4, ground := Ground.data }, { on := 7, ground := Ground.data }], guard := none }) (v := ?_) rfl (by as_aux_lemma => kernel_rfl) (by as_aux_lemma => kernel_rfl) (by as_aux_lemma => kernel_rfl) (fun _ _ _ h => h) (Or.inl ⟨by rfl, ?_⟩) (by assumption) ?_
    rotate_left
    · intro w' hSw
      try dsimp only at hSw
      go_simp
      try with_reducible rfl
    try simp only [Act.put, List.setIfInBounds_toArray, List.set_cons_zero, List.set_cons_succ]
    refine wpAnyH_take (i := 9) (oi := { dst := some 4, op := Op.assign (Operand.tmp 18), type := 9, pos := "ref.go:45", after := #[{ on := 8, ground := Ground.data }, { on := 7, ground := Ground.chain }, { on := 0, ground := Ground.phase }, { on := 1, ground := Ground.phase }, { on := 2, ground := Ground.phase }, { on := 3, ground := Ground.phase }, { on := 4, ground := Ground.phase }, { on := 5, ground := Ground.phase }, { on := 6, ground := Ground.phase }, { on := 7, ground := Ground.phase }, { on := 8, ground := Ground.phase }], guard := none }) (v := ?_) rfl (by as_aux_lemma => kernel_rfl) (by as_aux_lemma => kernel_rfl) (by as_aux_lemma => kernel_rfl) (fun _ _ _ h => h) (Or.inl ⟨by rfl, ?_⟩) (by assumption) ?_
    rotate_left
    · intro w' hSw
      try dsimp only at hSw
      go_simp
      try with_reducible rfl
    try simp only [Act.put, List.setIfInBounds_toArray, List.set_cons_zero, List.set_cons_succ]
    refine wpAnyH_done (by kernel_rfl) ?_ _
    clear D0
    have HB2 := Lib.hid (below2Z HB1.out (K7.out))
    have HC2 := Lib.hid (HC1.out.later (K7.out))
    have hz2 : w.heap.size < z7.heap.size := by have := (K7.out).size; omega
    obtain ⟨m0, m1, m2, m3, m4, m5, m6, m7⟩ := eightAt HC2.out
    go_wp2_with fail
    have HB3 := Lib.hid (below2Z HB2.out (bl_newZ _ (.cells #[.int .u8 id] 5)))
    (with_reducible refine (HS.out _).mono ?_)
    rintro e wu ⟨rfl, bu⟩
    have HB4 := Lib.hid (below2Z HB3.out bu)
    clear bu m0 m1 m2 m3 m4 m5 m6 m7
    go_wp2_with fail
    go_ret2
    exact ⟨rfl, HB4.out⟩

end Go.Proofs.Ythfkfonfiejbmaa
