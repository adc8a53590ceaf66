/-
  LAYER 23: put, Encode of the code; May, Encode of the document.
-/
import Derived.Test.YthfkfonfiejbmaaScrMay
import Derived.Test.YthfkfonfiejbmaaIdTake
import Derived.Test.YthfkfonfiejbmaaCrcSeal
import Derived.Test.YthfkfonfiejbmaaHeld
import Derived.Deep.RegionHeld
import Derived.Deep.RegionLaw
namespace Go.Proofs.Ythfkfonfiejbmaa
open Go.RowKit

attribute [local go_sem] ByteArray.mk_append_mk

theorem one_vals (n : Nat) (h : n < 256) (N : Int) (hN : N = n) : #[Value.int IntKind.u8 N] = (bvals [u8of n]).toArray := by
  subst hN
  simp [bvals, u8of_toNat h]

theorem run_convert_one (n : Nat) (h : n < 256) (N : Int) (hN : N = n) (w : World) :
    (convert 45 9 (.slice (some ⟨w.heap.size, 0, none⟩) 1 1)).run Try.prog (w.alloc (.cells #[.int .u8 N] 5)) = .ok (.string ⟨[u8of n].toArray⟩) (w.alloc (.cells #[.int .u8 N] 5)) :=
  run_convert_new (P := Try.prog) w 45 5 9 Try.underlying45 Try.underlying5 Try.underlying9 _ _ (one_vals n h N hN) 1 rfl (by decide)

theorem run_convert_two8 (n : Nat) (h : n < 256) (N : Int) (hN : N = n) (w : World) (o : Obj) :
    (convert 45 9 (.slice (some ⟨w.heap.size + 1, 0, none⟩) 1 1)).run Try.prog ((w.alloc o).alloc (.cells #[.int .u8 N] 5)) = .ok (.string ⟨[u8of n].toArray⟩) ((w.alloc o).alloc (.cells #[.int .u8 N] 5)) := by
  have := run_convert_one n h N hN (w.alloc o)
  rwa [World.size_alloc] at this

theorem idPut_yes {l : List UInt8} (h : idIs l = true) : idPut l = (vput l.length ++ l, true) := by unfold idPut; rw [if_pos h]

/-- The bytes of events that may be, in letters. -/
theorem scBytes_low {k : Int} {u o st : List UInt8} {id a b c : Int} (h6 : k ≤ 6) : scBytes ⟨k, u, o, id, ⟨a, b, c, st⟩⟩ = [u8of k.toNat] ++ (vput u.length ++ u) ++ (vput o.length ++ o) := by
  unfold scBytes scTail
  simp only
  rw [if_pos h6]
  simp

theorem scBytes_show {u o st : List UInt8} {id a b c : Int} : scBytes ⟨7, u, o, id, ⟨a, b, c, st⟩⟩ = [u8of 7] ++ (vput u.length ++ u) ++ [u8of id.toNat] ++ vaBytes ⟨a, b, c, st⟩ := by
  unfold scBytes scTail
  simp only
  rw [if_neg (by decide)]
  simp

theorem scBytes_leave {u o st : List UInt8} {id a b c : Int} : scBytes ⟨8, u, o, id, ⟨a, b, c, st⟩⟩ = [u8of 8] ++ (vput u.length ++ u) ++ [u8of id.toNat] := by
  unfold scBytes scTail
  simp only
  rw [if_neg (by decide), if_neg (by decide)]
  simp

set_option maxHeartbeats 1600000 in
set_option maxRecDepth 100000 in
theorem scput_low (k : Int) (u o st : List UInt8) (id a b c : Int) (h1 : 1 ≤ k) (h6 : k ≤ 6) (hu : idIs u = true) (ho : idIs o = true) (w : World) :
    Calls Try.prog 36 #[.agg #[.int .i64 k, .string ⟨u.toArray⟩, .string ⟨o.toArray⟩, .int .i64 id, .int .i64 a, .int .i64 b, .int .i64 c, .string ⟨st.toArray⟩]] w fun e w' => e = .returned (.string ⟨(scBytes ⟨k, u, o, id, ⟨a, b, c, st⟩⟩).toArray⟩) ∧ Below w.heap.size w w' := by
  have HB0 := Lib.hid (bl_newZ w (.cells #[.int .i64 k, .string ⟨u.toArray⟩, .string ⟨o.toArray⟩, .int .i64 id, .int .i64 a, .int .i64 b, .int .i64 c, .string ⟨st.toArray⟩] 26))
  have HC0 := Lib.hid (cellsAt_made (w := w) (cs := #[.int .i64 k, .string ⟨u.toArray⟩, .string ⟨o.toArray⟩, .int .i64 id, .int .i64 a, .int .i64 b, .int .i64 c, .string ⟨st.toArray⟩]) (vs := evVals ⟨k, u, o, id, ⟨a, b, c, st⟩⟩) rfl 26 rfl)
  obtain ⟨x1, x2, x3, x4, x5, x6, x7, x8, x9, x10, x11, x12⟩ := and_lits
  have hul := (idIs_parts hu).2.1
  have hul2 := vput_len_le u.length
  have hul3 : u.length ≤ 4294967296 := by omega
  have HU : Hid (idPut u = (vput u.length ++ u, true)) := Lib.hid (idPut_yes hu)
  have HK : Hid (scHas k = 1) := Lib.hid (by unfold scHas; rw [if_pos ⟨h1, h6⟩])
  have hol := (idIs_parts ho).2.1
  have hol2 := vput_len_le o.length
  have hol3 : o.length ≤ 4294967296 := by omega
  have HO : Hid (idPut o = (vput o.length ++ o, true)) := Lib.hid (idPut_yes ho)
  have HR : Hid (scBytes ⟨k, u, o, id, ⟨a, b, c, st⟩⟩ = [u8of k.toNat] ++ (vput u.length ++ u) ++ (vput o.length ++ o)) := Lib.hid (scBytes_low h6)
  have hcv := fun X => run_convert_one k.toNat (by omega) k (by omega) X
  obtain ⟨hd, hhd⟩ : ∃ hd, hd = [u8of k.toNat] := ⟨_, rfl⟩
  rw [← hhd] at hcv HR
  have hdl : hd.length ≤ 2 := by rw [hhd]; simp
  obtain ⟨pu, hpu⟩ : ∃ pu, pu = vput u.length ++ u := ⟨_, rfl⟩
  rw [← hpu] at HU HR
  have hpul : pu.length ≤ 30 := by rw [hpu, List.length_append]; omega
  obtain ⟨po, hpo⟩ : ∃ po, po = vput o.length ++ o := ⟨_, rfl⟩
  rw [← hpo] at HO HR
  have hpol : po.length ≤ 30 := by rw [hpo, List.length_append]; omega
  clear hpo hol2
  clear hhd hpu hul2
  go_enter Try.func36, Try.ntmps36
  go_wp2_with fail
  refine (parts_eq k HK _).mono ?_
  rintro e w1 ⟨rfl, rfl⟩
  go_wp2_with fail
  refine (idput_eq u hul3 HU _).mono ?_
  rintro e w1 ⟨rfl, b1⟩
  have hz1 : w.heap.size < w1.heap.size := by have := b1.size; simp at this; omega
  have HB1 := Lib.hid (below2Z HB0.out b1)
  have HC1 := Lib.hid (HC0.out.later b1)
  obtain ⟨m0, m1, m2, m3, m4, m5, m6, m7⟩ := eightAt HC1.out
  clear b1
  go_wp2_with fail
  refine (idput_eq o hol3 HO _).mono ?_
  rintro e w2 ⟨rfl, b2⟩
  have HB2 := Lib.hid (below2Z (below2Z HB1.out (bl_newZ _ _)) b2)
  clear b2 m0 m1 m2 m3 m4 m5 m6 m7
  go_wp2_with fail
  go_ret
  exact ⟨by rw [HR.out]; simp, HB2.out⟩

set_option maxHeartbeats 1600000 in
set_option maxRecDepth 100000 in
theorem scput_show (u o st : List UInt8) (id a b c : Int) (hu : idIs u = true) (i0 : 0 ≤ id) (i4 : id < 4) (hv : vaMay ⟨a, b, c, st⟩ = true) (w : World) :
    Calls Try.prog 36 #[.agg #[.int .i64 7, .string ⟨u.toArray⟩, .string ⟨o.toArray⟩, .int .i64 id, .int .i64 a, .int .i64 b, .int .i64 c, .string ⟨st.toArray⟩]] w fun e w' => e = .returned (.string ⟨(scBytes ⟨7, u, o, id, ⟨a, b, c, st⟩⟩).toArray⟩) ∧ Below w.heap.size w w' := by
  have HB0 := Lib.hid (bl_newZ w (.cells #[.int .i64 7, .string ⟨u.toArray⟩, .string ⟨o.toArray⟩, .int .i64 id, .int .i64 a, .int .i64 b, .int .i64 c, .string ⟨st.toArray⟩] 26))
  have HC0 := Lib.hid (cellsAt_made (w := w) (cs := #[.int .i64 7, .string ⟨u.toArray⟩, .string ⟨o.toArray⟩, .int .i64 id, .int .i64 a, .int .i64 b, .int .i64 c, .string ⟨st.toArray⟩]) (vs := evVals ⟨7, u, o, id, ⟨a, b, c, st⟩⟩) rfl 26 rfl)
  obtain ⟨x1, x2, x3, x4, x5, x6, x7, x8, x9, x10, x11, x12⟩ := and_lits
  have hul := (idIs_parts hu).2.1
  have hul2 := vput_len_le u.length
  have hul3 : u.length ≤ 4294967296 := by omega
  have HU : Hid (idPut u = (vput u.length ++ u, true)) := Lib.hid (idPut_yes hu)
  have HK : Hid (scHas 7 = 6) := Lib.hid (by unfold scHas; rfl)
  have HR := Lib.hid (scBytes_show (u := u) (o := o) (st := st) (id := id) (a := a) (b := b) (c := c))
  have hcv := fun X => run_convert_one 7 (by omega) 7 rfl X
  have hci := fun X o => run_convert_two8 id.toNat (by omega) id (by omega) X o
  obtain ⟨hd, hhd⟩ : ∃ hd, hd = [u8of 7] := ⟨_, rfl⟩
  obtain ⟨hi, hhi⟩ : ∃ hi, hi = [u8of id.toNat] := ⟨_, rfl⟩
  rw [← hhd, ← hhi] at HR
  rw [← hhd] at hcv
  rw [← hhi] at hci
  have hdl : hd.length ≤ 2 := by rw [hhd]; simp
  have hil : hi.length ≤ 2 := by rw [hhi]; simp
  have hvl := vaBytes_len hv
  have hvl2 := vput_len_le (⟨a, b, c, st⟩ : Val).si.toNat
  have hvl3 := (vaMay_parts hv).2.2.2.2.2.2
  simp only at hvl hvl2 hvl3
  have hst : st.length ≤ 4294967296 := by omega
  have HVM := Lib.hid hv
  have HVP : Hid (vaPut ⟨a, b, c, st⟩ = vaBytes ⟨a, b, c, st⟩) := Lib.hid (by unfold vaPut; rw [if_pos hv])
  have hvlen : (vaBytes ⟨a, b, c, st⟩).length ≤ 100 := by omega
  obtain ⟨vb, hvb⟩ : ∃ vb, vb = vaBytes ⟨a, b, c, st⟩ := ⟨_, rfl⟩
  rw [← hvb] at HVP HR hvlen
  clear hvl hvl2 hvl3 hvb hv
  clear hhi
  obtain ⟨pu, hpu⟩ : ∃ pu, pu = vput u.length ++ u := ⟨_, rfl⟩
  rw [← hpu] at HU HR
  have hpul : pu.length ≤ 30 := by rw [hpu, List.length_append]; omega
  clear hhd hpu hul2
  go_enter Try.func36, Try.ntmps36
  go_wp2_with fail
  refine (parts_eq 7 HK _).mono ?_
  rintro e w1 ⟨rfl, rfl⟩
  go_wp2_with fail
  refine (idput_eq u hul3 HU _).mono ?_
  rintro e w1 ⟨rfl, b1⟩
  have hz1 : w.heap.size < w1.heap.size := by have := b1.size; simp at this; omega
  have HB1 := Lib.hid (below2Z HB0.out b1)
  have HC1 := Lib.hid (HC0.out.later b1)
  obtain ⟨m0, m1, m2, m3, m4, m5, m6, m7⟩ := eightAt HC1.out
  clear b1
  go_wp2_with fail
  refine (vaput_any a b c st hst HVP HVM _).mono ?_
  rintro e w2 ⟨rfl, b2⟩
  have HB2 := Lib.hid (below2Z (below2Z (below2Z HB1.out (bl_newZ _ _)) (bl_newZ _ _)) b2)
  clear b2 m0 m1 m2 m3 m4 m5 m6 m7
  go_wp2_with fail
  go_ret
  exact ⟨by rw [HR.out]; simp, HB2.out⟩

set_option maxHeartbeats 1600000 in
set_option maxRecDepth 100000 in
theorem scput_leave (u o st : List UInt8) (id a b c : Int) (hu : idIs u = true) (i0 : 0 ≤ id) (i4 : id < 4) (w : World) :
    Calls Try.prog 36 #[.agg #[.int .i64 8, .string ⟨u.toArray⟩, .string ⟨o.toArray⟩, .int .i64 id, .int .i64 a, .int .i64 b, .int .i64 c, .string ⟨st.toArray⟩]] w fun e w' => e = .returned (.string ⟨(scBytes ⟨8, u, o, id, ⟨a, b, c, st⟩⟩).toArray⟩) ∧ Below w.heap.size w w' := by
  have HB0 := Lib.hid (bl_newZ w (.cells #[.int .i64 8, .string ⟨u.toArray⟩, .string ⟨o.toArray⟩, .int .i64 id, .int .i64 a, .int .i64 b, .int .i64 c, .string ⟨st.toArray⟩] 26))
  have HC0 := Lib.hid (cellsAt_made (w := w) (cs := #[.int .i64 8, .string ⟨u.toArray⟩, .string ⟨o.toArray⟩, .int .i64 id, .int .i64 a, .int .i64 b, .int .i64 c, .string ⟨st.toArray⟩]) (vs := evVals ⟨8, u, o, id, ⟨a, b, c, st⟩⟩) rfl 26 rfl)
  obtain ⟨x1, x2, x3, x4, x5, x6, x7, x8, x9, x10, x11, x12⟩ := and_lits
  have hul := (idIs_parts hu).2.1
  have hul2 := vput_len_le u.length
  have hul3 : u.length ≤ 4294967296 := by omega
  have HU : Hid (idPut u = (vput u.length ++ u, true)) := Lib.hid (idPut_yes hu)
  have HK : Hid (scHas 8 = 2) := Lib.hid (by unfold scHas; rfl)
  have HR := Lib.hid (scBytes_leave (u := u) (o := o) (st := st) (id := id) (a := a) (b := b) (c := c))
  have hcv := fun X => run_convert_one 8 (by omega) 8 rfl X
  have hci := fun X o => run_convert_two8 id.toNat (by omega) id (by omega) X o
  obtain ⟨hd, hhd⟩ : ∃ hd, hd = [u8of 8] := ⟨_, rfl⟩
  obtain ⟨hi, hhi⟩ : ∃ hi, hi = [u8of id.toNat] := ⟨_, rfl⟩
  rw [← hhd, ← hhi] at HR
  rw [← hhd] at hcv
  rw [← hhi] at hci
  have hdl : hd.length ≤ 2 := by rw [hhd]; simp
  have hil : hi.length ≤ 2 := by rw [hhi]; simp
  clear hhi
  obtain ⟨pu, hpu⟩ : ∃ pu, pu = vput u.length ++ u := ⟨_, rfl⟩
  rw [← hpu] at HU HR
  have hpul : pu.length ≤ 30 := by rw [hpu, List.length_append]; omega
  clear hhd hpu hul2
  go_enter Try.func36, Try.ntmps36
  go_wp2_with fail
  refine (parts_eq 8 HK _).mono ?_
  rintro e w1 ⟨rfl, rfl⟩
  go_wp2_with fail
  refine (idput_eq u hul3 HU _).mono ?_
  rintro e w1 ⟨rfl, b1⟩
  have hz1 : w.heap.size < w1.heap.size := by have := b1.size; simp at this; omega
  have HB1 := Lib.hid (below2Z HB0.out b1)
  have HC1 := Lib.hid (HC0.out.later b1)
  obtain ⟨m0, m1, m2, m3, m4, m5, m6, m7⟩ := eightAt HC1.out
  clear b1
  go_wp2_with fail
  go_ret
  exact ⟨by rw [HR.out]; simp, below2Z (below2Z HB1.out (bl_newZ _ _)) (bl_newZ _ _)⟩

set_option maxHeartbeats 1600000 in
set_option maxRecDepth 100000 in
theorem scput_any (k : Int) (u o st : List UInt8) (id a b c : Int) (hm : scMay ⟨k, u, o, id, ⟨a, b, c, st⟩⟩ = true) (w : World) :
    Calls Try.prog 36 #[.agg #[.int .i64 k, .string ⟨u.toArray⟩, .string ⟨o.toArray⟩, .int .i64 id, .int .i64 a, .int .i64 b, .int .i64 c, .string ⟨st.toArray⟩]] w fun e w' => e = .returned (.string ⟨(scBytes ⟨k, u, o, id, ⟨a, b, c, st⟩⟩).toArray⟩) ∧ Below w.heap.size w w' := by
  rcases scMay_kinds hm with ⟨k1, k6, hu, ho, hi, hv⟩ | ⟨k7, hu, ho, i0, i4, hv⟩ | ⟨k8, hu, ho, i0, i4, hv⟩
  · exact scput_low k u o st id a b c k1 k6 hu ho w
  · simp only at k7
    subst k7
    exact scput_show u o st id a b c hu i0 i4 hv w
  · simp only at k8
    subst k8
    exact scput_leave u o st id a b c hu i0 i4 w

theorem scEnc_yes {e : Ev} (h : scMay e = true) : scEnc e = (cseal (scBytes e), 0) := by unfold scEnc; rw [if_pos h]
theorem scEnc_no {e : Ev} (h : scMay e = false) : scEnc e = ([], 1) := by unfold scEnc; rw [if_neg (by rw [h]; decide)]

theorem seal_len (l : List UInt8) : (cseal l).length = l.length + 4 := by simp [cseal, low4]

set_option maxHeartbeats 1600000 in
set_option maxRecDepth 100000 in
/-- P23.2, the code's. -/
theorem scenc_any (k : Int) (u o st : List UInt8) (id a b c : Int) (hs : evShort ⟨k, u, o, id, ⟨a, b, c, st⟩⟩) {t : List UInt8} {er : Nat} (hr : Hid (scEnc ⟨k, u, o, id, ⟨a, b, c, st⟩⟩ = (t, er))) (w : World) :
    Calls Try.prog 18 #[.agg #[.int .i64 k, .string ⟨u.toArray⟩, .string ⟨o.toArray⟩, .int .i64 id, .int .i64 a, .int .i64 b, .int .i64 c, .string ⟨st.toArray⟩]] w fun e w' => e = .returned (.tuple #[.string ⟨t.toArray⟩, .int .i64 er]) ∧ Below w.heap.size w w' := by
  have HB0 := Lib.hid (bl_newZ w (.cells #[.int .i64 k, .string ⟨u.toArray⟩, .string ⟨o.toArray⟩, .int .i64 id, .int .i64 a, .int .i64 b, .int .i64 c, .string ⟨st.toArray⟩] 26))
  have HC0 := Lib.hid (cellsAt_made (w := w) (cs := #[.int .i64 k, .string ⟨u.toArray⟩, .string ⟨o.toArray⟩, .int .i64 id, .int .i64 a, .int .i64 b, .int .i64 c, .string ⟨st.toArray⟩]) (vs := evVals ⟨k, u, o, id, ⟨a, b, c, st⟩⟩) rfl 26 rfl)
  obtain ⟨q, hq⟩ : ∃ q, scMay ⟨k, u, o, id, ⟨a, b, c, st⟩⟩ = q := ⟨_, rfl⟩
  have hr2 := hr.out
  clear hr
  have HQ := Lib.hid hq
  cases q with
  | false =>
    rw [scEnc_no hq] at hr2
    simp only [Prod.mk.injEq] at hr2
    obtain ⟨rfl, rfl⟩ := hr2
    clear hq
    go_enter Try.func18, Try.ntmps18
    go_wp2_with fail
    refine (scmay_any k u o st id a b c hs HQ _).mono ?_
    rintro e w1 ⟨rfl, b1⟩
    have HB1 := Lib.hid (below2Z HB0.out b1)
    clear b1
    go_wp2_with fail
    go_ret2
    exact ⟨rfl, HB1.out⟩
  | true =>
    rw [scEnc_yes hq] at hr2
    simp only [Prod.mk.injEq] at hr2
    obtain ⟨ht, rfl⟩ := hr2
    have hlen := scBytes_short hq
    rw [seal_len] at hlen
    have hlen2 : (scBytes ⟨k, u, o, id, ⟨a, b, c, st⟩⟩).length ≤ 4294967296 := by omega
    have HP := Lib.hid (scput_any k u o st id a b c hq)
    have HS := Lib.hid (seal_any (scBytes ⟨k, u, o, id, ⟨a, b, c, st⟩⟩) hlen2)
    rw [ht] at HS
    clear hq ht hlen hlen2
    generalize scBytes ⟨k, u, o, id, ⟨a, b, c, st⟩⟩ = sb at HP HS
    go_enter Try.func18, Try.ntmps18
    go_wp2_with fail
    refine (scmay_any k u o st id a b c hs HQ _).mono ?_
    rintro e w1 ⟨rfl, b1⟩
    have HB1 := Lib.hid (below2Z HB0.out b1)
    obtain ⟨m0, m1, m2, m3, m4, m5, m6, m7⟩ := eightAt (HC0.out.later b1)
    clear b1
    go_wp2_with fail
    refine (HP.out _).mono ?_
    rintro e w2 ⟨rfl, b2⟩
    have HB2 := Lib.hid (below2Z HB1.out b2)
    clear b2 m0 m1 m2 m3 m4 m5 m6 m7
    go_wp2_with fail
    refine (HS.out _).mono ?_
    rintro e w3 ⟨rfl, b3⟩
    have HB3 := Lib.hid (below2Z HB2.out b3)
    clear b3
    go_wp2_with fail
    go_ret2
    exact ⟨rfl, HB3.out⟩

end Go.Proofs.Ythfkfonfiejbmaa
