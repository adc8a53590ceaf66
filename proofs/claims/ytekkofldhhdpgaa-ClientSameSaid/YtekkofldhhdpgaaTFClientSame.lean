/-
  THE PROOF OF ClientSame: for every input the law returns true, and each argument reads behind the call as it read before. No condition.
-/
import Derived.Test.YtekkofldhhdpgaaT22
import Derived.Test.YtekkofldhhdpgaaT23
import Derived.Test.YtekkofldhhdpgaaT25
import Derived.Test.YtekkofldhhdpgaaT02
import Derived.Test.YtekkofldhhdpgaaT09
import Derived.Test.YtekkofldhhdpgaaRows
import Derived.ProofKit
import Derived.OpenShut
import Derived.ShutString
import Derived.ChangeOld
import Derived.SliceStrings
import Derived.Lib.SmallJoins

section

/-
  THE WALK OF ClientSame.
-/
namespace Go.Proofs.Ytekkofldhhdpgaa
open Go.RowKit

set_option maxHeartbeats 3200000 in
set_option maxRecDepth 100000 in
theorem csm_1 {w : World} {v vt : Value} {t : List Row} {k s sh pr si : Int} {on : Bool} {c st : List UInt8} {sum : Nat} {tt : List Row} (hv : Tab w v t) (n : Int) (o : Bool) (hvt : Tab w vt tt) (_hM : c.length ≤ maxLen ∧ st.length ≤ maxLen ∧ sum < 18446744073709551616 ∧ (Lit.int .i64 k).wf = true) (n0 n1 : Int) (H1 : Hid (fewT t = false)) :
    Calls Try.prog 5 #[.agg #[v, .int .i64 n, .bool o], .agg #[.int .i64 k, .int .i64 s, .bool on, .string ⟨c.toArray⟩, .int .i64 sh, .int .i64 pr, .int .i64 si, .string ⟨st.toArray⟩, .int .u64 sum, vt], .agg #[.int .i64 n0, .int .i64 n1]] w fun e w' => e = .returned (.bool true) ∧ Below w.heap.size w w' := by
  obtain ⟨ca, cc, rfl, -⟩ := hv.open'
  obtain ⟨ta, tc, rfl, -⟩ := hvt.open'
  have b0 := bl_newZ w (.cells #[.slice ca t.length cc, .int .i64 n, .bool o] 27)
  have b1 := bl_newZ (w.alloc (.cells #[.slice ca t.length cc, .int .i64 n, .bool o] 27)) (.cells #[.int .i64 k, .int .i64 s, .bool on, .string ⟨c.toArray⟩, .int .i64 sh, .int .i64 pr, .int .i64 si, .string ⟨st.toArray⟩, .int .u64 sum, .slice ta tt.length tc] 34)
  have b2 := bl_newZ ((w.alloc (.cells #[.slice ca t.length cc, .int .i64 n, .bool o] 27)).alloc (.cells #[.int .i64 k, .int .i64 s, .bool on, .string ⟨c.toArray⟩, .int .i64 sh, .int .i64 pr, .int .i64 si, .string ⟨st.toArray⟩, .int .u64 sum, .slice ta tt.length tc] 34)) (.cells #[.int .i64 n0, .int .i64 n1] 51)
  have HB := Lib.hid (below2Z (below2Z b0 b1) b2)
  have VA := Lib.hid (((hv.later b0).later b1).later b2)
  have VT := Lib.hid (((hvt.later b0).later b1).later b2)
  have CB := newQ w (.cells #[.slice ca t.length cc, .int .i64 n, .bool o] 27)
  replace CB := upQ CB b1
  replace CB := upQ CB b2
  replace CB := Lib.hid CB
  have FB := newQ (w.alloc (.cells #[.slice ca t.length cc, .int .i64 n, .bool o] 27)) (.cells #[.int .i64 k, .int .i64 s, .bool on, .string ⟨c.toArray⟩, .int .i64 sh, .int .i64 pr, .int .i64 si, .string ⟨st.toArray⟩, .int .u64 sum, .slice ta tt.length tc] 34)
  rw [World.size_alloc] at FB
  replace FB := upQ FB b2
  replace FB := Lib.hid FB
  have NB := newQ ((w.alloc (.cells #[.slice ca t.length cc, .int .i64 n, .bool o] 27)).alloc (.cells #[.int .i64 k, .int .i64 s, .bool on, .string ⟨c.toArray⟩, .int .i64 sh, .int .i64 pr, .int .i64 si, .string ⟨st.toArray⟩, .int .u64 sum, .slice ta tt.length tc] 34)) (.cells #[.int .i64 n0, .int .i64 n1] 51)
  rw [World.size_alloc, World.size_alloc] at NB
  replace NB := Lib.hid NB
  clear b0 b1 b2
  clear hv hvt
  go_enter Try.func5, Try.ntmps5
  obtain ⟨⟨CBc0, CBc1, CBc2⟩, ⟨CBf0, CBf1, CBf2⟩⟩ := blk3 CB.out
  go_wp2_with fail
  clear CBc0 CBc1 CBc2 CBf0 CBf1 CBf2
  refine (clfew_eq VA.out n o H1).mono ?_
  rintro e w4 ⟨rfl, b4⟩
  replace CB := Lib.hid (upQ CB.out b4)
  replace FB := Lib.hid (upQ FB.out b4)
  replace NB := Lib.hid (upQ NB.out b4)
  replace VA := Lib.hid (VA.out.later b4)
  replace VT := Lib.hid (VT.out.later b4)
  replace HB := Lib.hid (below2Z HB.out b4)
  clear b4
  go_wp2_with fail
  refine (live19 _).mono ?_
  rintro e w5 ⟨rfl, b5⟩
  replace CB := Lib.hid (upQ CB.out b5)
  replace FB := Lib.hid (upQ FB.out b5)
  replace NB := Lib.hid (upQ NB.out b5)
  replace VA := Lib.hid (VA.out.later b5)
  replace VT := Lib.hid (VT.out.later b5)
  replace HB := Lib.hid (below2Z HB.out b5)
  clear b5
  go_wp2_with fail
  go_ret
  exact ⟨rfl, HB.out⟩

set_option maxHeartbeats 3200000 in
set_option maxRecDepth 100000 in
theorem csm_2 {w : World} {v vt : Value} {t : List Row} {k s sh pr si : Int} {on : Bool} {c st : List UInt8} {sum : Nat} {tt : List Row} (hv : Tab w v t) (n : Int) (o : Bool) (hvt : Tab w vt tt) (hM : c.length ≤ maxLen ∧ st.length ≤ maxLen ∧ sum < 18446744073709551616 ∧ (Lit.int .i64 k).wf = true) (n0 n1 : Int) (H1 : Hid (fewT t = true)) (H3 : Hid (fewF ⟨k, s, on, c, ⟨sh, pr, si, st⟩, sum, tt⟩ = false)) :
    Calls Try.prog 5 #[.agg #[v, .int .i64 n, .bool o], .agg #[.int .i64 k, .int .i64 s, .bool on, .string ⟨c.toArray⟩, .int .i64 sh, .int .i64 pr, .int .i64 si, .string ⟨st.toArray⟩, .int .u64 sum, vt], .agg #[.int .i64 n0, .int .i64 n1]] w fun e w' => e = .returned (.bool true) ∧ Below w.heap.size w w' := by
  obtain ⟨ca, cc, rfl, -⟩ := hv.open'
  obtain ⟨ta, tc, rfl, -⟩ := hvt.open'
  have b0 := bl_newZ w (.cells #[.slice ca t.length cc, .int .i64 n, .bool o] 27)
  have b1 := bl_newZ (w.alloc (.cells #[.slice ca t.length cc, .int .i64 n, .bool o] 27)) (.cells #[.int .i64 k, .int .i64 s, .bool on, .string ⟨c.toArray⟩, .int .i64 sh, .int .i64 pr, .int .i64 si, .string ⟨st.toArray⟩, .int .u64 sum, .slice ta tt.length tc] 34)
  have b2 := bl_newZ ((w.alloc (.cells #[.slice ca t.length cc, .int .i64 n, .bool o] 27)).alloc (.cells #[.int .i64 k, .int .i64 s, .bool on, .string ⟨c.toArray⟩, .int .i64 sh, .int .i64 pr, .int .i64 si, .string ⟨st.toArray⟩, .int .u64 sum, .slice ta tt.length tc] 34)) (.cells #[.int .i64 n0, .int .i64 n1] 51)
  have HB := Lib.hid (below2Z (below2Z b0 b1) b2)
  have VA := Lib.hid (((hv.later b0).later b1).later b2)
  have VT := Lib.hid (((hvt.later b0).later b1).later b2)
  have CB := newQ w (.cells #[.slice ca t.length cc, .int .i64 n, .bool o] 27)
  replace CB := upQ CB b1
  replace CB := upQ CB b2
  replace CB := Lib.hid CB
  have FB := newQ (w.alloc (.cells #[.slice ca t.length cc, .int .i64 n, .bool o] 27)) (.cells #[.int .i64 k, .int .i64 s, .bool on, .string ⟨c.toArray⟩, .int .i64 sh, .int .i64 pr, .int .i64 si, .string ⟨st.toArray⟩, .int .u64 sum, .slice ta tt.length tc] 34)
  rw [World.size_alloc] at FB
  replace FB := upQ FB b2
  replace FB := Lib.hid FB
  have NB := newQ ((w.alloc (.cells #[.slice ca t.length cc, .int .i64 n, .bool o] 27)).alloc (.cells #[.int .i64 k, .int .i64 s, .bool on, .string ⟨c.toArray⟩, .int .i64 sh, .int .i64 pr, .int .i64 si, .string ⟨st.toArray⟩, .int .u64 sum, .slice ta tt.length tc] 34)) (.cells #[.int .i64 n0, .int .i64 n1] 51)
  rw [World.size_alloc, World.size_alloc] at NB
  replace NB := Lib.hid NB
  clear b0 b1 b2
  clear hv hvt
  go_enter Try.func5, Try.ntmps5
  obtain ⟨⟨CBc0, CBc1, CBc2⟩, ⟨CBf0, CBf1, CBf2⟩⟩ := blk3 CB.out
  go_wp2_with fail
  clear CBc0 CBc1 CBc2 CBf0 CBf1 CBf2
  refine (clfew_eq VA.out n o H1).mono ?_
  rintro e w4 ⟨rfl, b4⟩
  replace CB := Lib.hid (upQ CB.out b4)
  replace FB := Lib.hid (upQ FB.out b4)
  replace NB := Lib.hid (upQ NB.out b4)
  replace VA := Lib.hid (VA.out.later b4)
  replace VT := Lib.hid (VT.out.later b4)
  replace HB := Lib.hid (below2Z HB.out b4)
  clear b4
  obtain ⟨⟨FBc0, FBc1, FBc2, FBc3, FBc4, FBc5, FBc6, FBc7, FBc8, FBc9⟩, ⟨FBf0, FBf1, FBf2, FBf3, FBf4, FBf5, FBf6, FBf7, FBf8, FBf9⟩⟩ := blk10 FB.out
  go_wp2_with fail
  clear FBc0 FBc1 FBc2 FBc3 FBc4 FBc5 FBc6 FBc7 FBc8 FBc9 FBf0 FBf1 FBf2 FBf3 FBf4 FBf5 FBf6 FBf7 FBf8 FBf9
  refine (fewf_eq VT.out k s on c sh pr si st sum hM.1 hM.2.1 H3).mono ?_
  rintro e w5 ⟨rfl, b5⟩
  replace CB := Lib.hid (upQ CB.out b5)
  replace FB := Lib.hid (upQ FB.out b5)
  replace NB := Lib.hid (upQ NB.out b5)
  replace VA := Lib.hid (VA.out.later b5)
  replace VT := Lib.hid (VT.out.later b5)
  replace HB := Lib.hid (below2Z HB.out b5)
  clear b5
  go_wp2_with fail
  refine (live19 _).mono ?_
  rintro e w6 ⟨rfl, b6⟩
  replace CB := Lib.hid (upQ CB.out b6)
  replace FB := Lib.hid (upQ FB.out b6)
  replace NB := Lib.hid (upQ NB.out b6)
  replace VA := Lib.hid (VA.out.later b6)
  replace VT := Lib.hid (VT.out.later b6)
  replace HB := Lib.hid (below2Z HB.out b6)
  clear b6
  go_wp2_with fail
  go_ret
  exact ⟨rfl, HB.out⟩

theorem fewF_getC {f : Frm} (h : fewF f = true) : Short f.t ∧ f.c.length ≤ 4294967296 ∧ f.v.st.length ≤ 4294967296 := by
  unfold fewF at h
  simp only [Bool.and_eq_true, decide_eq_true_eq] at h
  exact ⟨fewT_short h.1, by omega, by omega⟩

theorem fewF_lenC {f : Frm} (h : fewF f = true) : f.t.length ≤ 1000 := by
  unfold fewF at h
  simp only [Bool.and_eq_true, decide_eq_true_eq] at h
  exact fewT_len h.1

theorem spoil_one {s : List UInt8} {p : Nat} {m : UInt8} (hp : p < (cseal s).length) (hm : m ≠ 0) : copen ((cseal s).set p ((cseal s).getD p 0 ^^^ m)) = ([], 4) := by
  have h0 := spoil_start (cseal s) p
  have h1 := spoil_next (i := 0) m h0 (by simpa using hp)
  simp only [Nat.add_zero] at h1
  have e : (cseal s)[p]'hp = (cseal s).getD p 0 := by simp [List.getD, List.getElem?_eq_getElem hp]
  rw [e] at h1
  refine (spoil_end h1.1 (by decide)).2 ?_
  intro h
  have := (h1.2.1 h).2
  exact hm (UInt8.toNat_inj.1 (by simpa using this))

theorem spoil_decC {s : List UInt8} {p : Nat} {m : UInt8} (hp : p < (cseal s).length) (hm : m ≠ 0) (c : Cli) : clRead c ((cseal s).set p ((cseal s).getD p 0 ^^^ m)) = (c, 4) := by
  refine clRead_err (f := Frm.zero) ?_ (by decide)
  unfold frDec
  rw [spoil_one hp hm, if_pos (by decide)]

set_option maxHeartbeats 3200000 in
set_option maxRecDepth 100000 in
theorem csm_3 {w : World} {v vt : Value} {t : List Row} {k s sh pr si : Int} {on : Bool} {c st : List UInt8} {sum : Nat} {tt : List Row} (hv : Tab w v t) (n : Int) (o : Bool) (hvt : Tab w vt tt) (hM : c.length ≤ maxLen ∧ st.length ≤ maxLen ∧ sum < 18446744073709551616 ∧ (Lit.int .i64 k).wf = true) (n0 n1 : Int) (H1 : Hid (fewT t = true)) (H3 : Hid (fewF ⟨k, s, on, c, ⟨sh, pr, si, st⟩, sum, tt⟩ = true)) (HE : Hid (frEnc ⟨k, s, on, c, ⟨sh, pr, si, st⟩, sum, tt⟩ = ([], 1))) (HFD : Hid (clFeed ⟨t, n, o⟩ ⟨k, s, on, c, ⟨sh, pr, si, st⟩, sum, tt⟩ = ⟨t, n, o⟩)) :
    Calls Try.prog 5 #[.agg #[v, .int .i64 n, .bool o], .agg #[.int .i64 k, .int .i64 s, .bool on, .string ⟨c.toArray⟩, .int .i64 sh, .int .i64 pr, .int .i64 si, .string ⟨st.toArray⟩, .int .u64 sum, vt], .agg #[.int .i64 n0, .int .i64 n1]] w fun e w' => e = .returned (.bool true) ∧ Below w.heap.size w w' := by
  have hsA := fewT_short H1.out
  have hlA := fewT_len H1.out
  obtain ⟨s1, m1, m2⟩ := fewF_getC H3.out
  simp only at s1 m1 m2
  have hsF := Lib.hid s1
  have hlF := Lib.hid (fewF_lenC H3.out)
  clear s1
  obtain ⟨ca, cc, rfl, -⟩ := hv.open'
  obtain ⟨ta, tc, rfl, -⟩ := hvt.open'
  have b0 := bl_newZ w (.cells #[.slice ca t.length cc, .int .i64 n, .bool o] 27)
  have b1 := bl_newZ (w.alloc (.cells #[.slice ca t.length cc, .int .i64 n, .bool o] 27)) (.cells #[.int .i64 k, .int .i64 s, .bool on, .string ⟨c.toArray⟩, .int .i64 sh, .int .i64 pr, .int .i64 si, .string ⟨st.toArray⟩, .int .u64 sum, .slice ta tt.length tc] 34)
  have b2 := bl_newZ ((w.alloc (.cells #[.slice ca t.length cc, .int .i64 n, .bool o] 27)).alloc (.cells #[.int .i64 k, .int .i64 s, .bool on, .string ⟨c.toArray⟩, .int .i64 sh, .int .i64 pr, .int .i64 si, .string ⟨st.toArray⟩, .int .u64 sum, .slice ta tt.length tc] 34)) (.cells #[.int .i64 n0, .int .i64 n1] 51)
  have HB := Lib.hid (below2Z (below2Z b0 b1) b2)
  have VA := Lib.hid (((hv.later b0).later b1).later b2)
  have VT := Lib.hid (((hvt.later b0).later b1).later b2)
  have CB := newQ w (.cells #[.slice ca t.length cc, .int .i64 n, .bool o] 27)
  replace CB := upQ CB b1
  replace CB := upQ CB b2
  replace CB := Lib.hid CB
  have FB := newQ (w.alloc (.cells #[.slice ca t.length cc, .int .i64 n, .bool o] 27)) (.cells #[.int .i64 k, .int .i64 s, .bool on, .string ⟨c.toArray⟩, .int .i64 sh, .int .i64 pr, .int .i64 si, .string ⟨st.toArray⟩, .int .u64 sum, .slice ta tt.length tc] 34)
  rw [World.size_alloc] at FB
  replace FB := upQ FB b2
  replace FB := Lib.hid FB
  have NB := newQ ((w.alloc (.cells #[.slice ca t.length cc, .int .i64 n, .bool o] 27)).alloc (.cells #[.int .i64 k, .int .i64 s, .bool on, .string ⟨c.toArray⟩, .int .i64 sh, .int .i64 pr, .int .i64 si, .string ⟨st.toArray⟩, .int .u64 sum, .slice ta tt.length tc] 34)) (.cells #[.int .i64 n0, .int .i64 n1] 51)
  rw [World.size_alloc, World.size_alloc] at NB
  replace NB := Lib.hid NB
  clear b0 b1 b2
  clear hv hvt
  go_enter Try.func5, Try.ntmps5
  obtain ⟨⟨CBc0, CBc1, CBc2⟩, ⟨CBf0, CBf1, CBf2⟩⟩ := blk3 CB.out
  go_wp2_with fail
  clear CBc0 CBc1 CBc2 CBf0 CBf1 CBf2
  refine (clfew_eq VA.out n o H1).mono ?_
  rintro e w4 ⟨rfl, b4⟩
  replace CB := Lib.hid (upQ CB.out b4)
  replace FB := Lib.hid (upQ FB.out b4)
  replace NB := Lib.hid (upQ NB.out b4)
  replace VA := Lib.hid (VA.out.later b4)
  replace VT := Lib.hid (VT.out.later b4)
  replace HB := Lib.hid (below2Z HB.out b4)
  clear b4
  obtain ⟨⟨FBc0, FBc1, FBc2, FBc3, FBc4, FBc5, FBc6, FBc7, FBc8, FBc9⟩, ⟨FBf0, FBf1, FBf2, FBf3, FBf4, FBf5, FBf6, FBf7, FBf8, FBf9⟩⟩ := blk10 FB.out
  go_wp2_with fail
  clear FBc0 FBc1 FBc2 FBc3 FBc4 FBc5 FBc6 FBc7 FBc8 FBc9 FBf0 FBf1 FBf2 FBf3 FBf4 FBf5 FBf6 FBf7 FBf8 FBf9
  refine (fewf_eq VT.out k s on c sh pr si st sum hM.1 hM.2.1 H3).mono ?_
  rintro e w5 ⟨rfl, b5⟩
  replace CB := Lib.hid (upQ CB.out b5)
  replace FB := Lib.hid (upQ FB.out b5)
  replace NB := Lib.hid (upQ NB.out b5)
  replace VA := Lib.hid (VA.out.later b5)
  replace VT := Lib.hid (VT.out.later b5)
  replace HB := Lib.hid (below2Z HB.out b5)
  clear b5
  obtain ⟨⟨FBc0, FBc1, FBc2, FBc3, FBc4, FBc5, FBc6, FBc7, FBc8, FBc9⟩, ⟨FBf0, FBf1, FBf2, FBf3, FBf4, FBf5, FBf6, FBf7, FBf8, FBf9⟩⟩ := blk10 FB.out
  go_wp2_with fail
  clear FBc0 FBc1 FBc2 FBc3 FBc4 FBc5 FBc6 FBc7 FBc8 FBc9 FBf0 FBf1 FBf2 FBf3 FBf4 FBf5 FBf6 FBf7 FBf8 FBf9
  refine (frenc_any VT.out hsF.out k s on c sh pr si st sum hM.2.2.1 m1 m2 HE).mono ?_
  rintro e w6 ⟨rfl, b6⟩
  replace CB := Lib.hid (upQ CB.out b6)
  replace FB := Lib.hid (upQ FB.out b6)
  replace NB := Lib.hid (upQ NB.out b6)
  replace VA := Lib.hid (VA.out.later b6)
  replace VT := Lib.hid (VT.out.later b6)
  replace HB := Lib.hid (below2Z HB.out b6)
  clear b6
  go_upto_region 5 with fail
  obtain ⟨BS, hBS⟩ : ∃ BS : List (Nat × List Value), BS = [(w.heap.size, [.slice ca t.length cc, .int .i64 n, .bool o]), (w.heap.size + 1, [.int .i64 k, .int .i64 s, .bool on, .string ⟨c.toArray⟩, .int .i64 sh, .int .i64 pr, .int .i64 si, .string ⟨st.toArray⟩, .int .u64 sum, .slice ta tt.length tc]), (w.heap.size + 1 + 1, [.int .i64 n0, .int .i64 n1])] := ⟨_, rfl⟩
  have D0 := Lib.hid (show heldB w6 BS from by rw [hBS]; exact heldB_cons (cellsAt_block CB.out) (heldB_cons (cellsAt_block FB.out) (heldB_cons (cellsAt_block NB.out) (heldB_nil _))))
  have hq0 : ∀ X, heldB X BS → X.cell? ⟨w.heap.size, 0, none⟩ = some (.slice ca t.length cc) := fun X hx => heldB_get (vs := [.slice ca t.length cc, .int .i64 n, .bool o]) hx (by rw [hBS]; simp) rfl
  have hq1 : ∀ X, heldB X BS → X.cell? ⟨w.heap.size, 1, none⟩ = some (.int .i64 n) := fun X hx => heldB_get (vs := [.slice ca t.length cc, .int .i64 n, .bool o]) hx (by rw [hBS]; simp) rfl
  have hq2 : ∀ X, heldB X BS → X.cell? ⟨w.heap.size, 2, none⟩ = some (.bool o) := fun X hx => heldB_get (vs := [.slice ca t.length cc, .int .i64 n, .bool o]) hx (by rw [hBS]; simp) rfl
  have hq3 : ∀ X, heldB X BS → X.cell? ⟨w.heap.size + 1, 0, none⟩ = some (.int .i64 k) := fun X hx => heldB_get (vs := [.int .i64 k, .int .i64 s, .bool on, .string ⟨c.toArray⟩, .int .i64 sh, .int .i64 pr, .int .i64 si, .string ⟨st.toArray⟩, .int .u64 sum, .slice ta tt.length tc]) hx (by rw [hBS]; simp) rfl
  have hq4 : ∀ X, heldB X BS → X.cell? ⟨w.heap.size + 1, 1, none⟩ = some (.int .i64 s) := fun X hx => heldB_get (vs := [.int .i64 k, .int .i64 s, .bool on, .string ⟨c.toArray⟩, .int .i64 sh, .int .i64 pr, .int .i64 si, .string ⟨st.toArray⟩, .int .u64 sum, .slice ta tt.length tc]) hx (by rw [hBS]; simp) rfl
  have hq5 : ∀ X, heldB X BS → X.cell? ⟨w.heap.size + 1, 2, none⟩ = some (.bool on) := fun X hx => heldB_get (vs := [.int .i64 k, .int .i64 s, .bool on, .string ⟨c.toArray⟩, .int .i64 sh, .int .i64 pr, .int .i64 si, .string ⟨st.toArray⟩, .int .u64 sum, .slice ta tt.length tc]) hx (by rw [hBS]; simp) rfl
  have hq6 : ∀ X, heldB X BS → X.cell? ⟨w.heap.size + 1, 3, none⟩ = some (.string ⟨c.toArray⟩) := fun X hx => heldB_get (vs := [.int .i64 k, .int .i64 s, .bool on, .string ⟨c.toArray⟩, .int .i64 sh, .int .i64 pr, .int .i64 si, .string ⟨st.toArray⟩, .int .u64 sum, .slice ta tt.length tc]) hx (by rw [hBS]; simp) rfl
  have hq7 : ∀ X, heldB X BS → X.cell? ⟨w.heap.size + 1, 4, none⟩ = some (.int .i64 sh) := fun X hx => heldB_get (vs := [.int .i64 k, .int .i64 s, .bool on, .string ⟨c.toArray⟩, .int .i64 sh, .int .i64 pr, .int .i64 si, .string ⟨st.toArray⟩, .int .u64 sum, .slice ta tt.length tc]) hx (by rw [hBS]; simp) rfl
  have hq8 : ∀ X, heldB X BS → X.cell? ⟨w.heap.size + 1, 5, none⟩ = some (.int .i64 pr) := fun X hx => heldB_get (vs := [.int .i64 k, .int .i64 s, .bool on, .string ⟨c.toArray⟩, .int .i64 sh, .int .i64 pr, .int .i64 si, .string ⟨st.toArray⟩, .int .u64 sum, .slice ta tt.length tc]) hx (by rw [hBS]; simp) rfl
  have hq9 : ∀ X, heldB X BS → X.cell? ⟨w.heap.size + 1, 6, none⟩ = some (.int .i64 si) := fun X hx => heldB_get (vs := [.int .i64 k, .int .i64 s, .bool on, .string ⟨c.toArray⟩, .int .i64 sh, .int .i64 pr, .int .i64 si, .string ⟨st.toArray⟩, .int .u64 sum, .slice ta tt.length tc]) hx (by rw [hBS]; simp) rfl
  have hq10 : ∀ X, heldB X BS → X.cell? ⟨w.heap.size + 1, 7, none⟩ = some (.string ⟨st.toArray⟩) := fun X hx => heldB_get (vs := [.int .i64 k, .int .i64 s, .bool on, .string ⟨c.toArray⟩, .int .i64 sh, .int .i64 pr, .int .i64 si, .string ⟨st.toArray⟩, .int .u64 sum, .slice ta tt.length tc]) hx (by rw [hBS]; simp) rfl
  have hq11 : ∀ X, heldB X BS → X.cell? ⟨w.heap.size + 1, 8, none⟩ = some (.int .u64 sum) := fun X hx => heldB_get (vs := [.int .i64 k, .int .i64 s, .bool on, .string ⟨c.toArray⟩, .int .i64 sh, .int .i64 pr, .int .i64 si, .string ⟨st.toArray⟩, .int .u64 sum, .slice ta tt.length tc]) hx (by rw [hBS]; simp) rfl
  have hq12 : ∀ X, heldB X BS → X.cell? ⟨w.heap.size + 1, 9, none⟩ = some (.slice ta tt.length tc) := fun X hx => heldB_get (vs := [.int .i64 k, .int .i64 s, .bool on, .string ⟨c.toArray⟩, .int .i64 sh, .int .i64 pr, .int .i64 si, .string ⟨st.toArray⟩, .int .u64 sum, .slice ta tt.length tc]) hx (by rw [hBS]; simp) rfl
  have hq13 : ∀ X, heldB X BS → X.cell? ⟨w.heap.size + 1 + 1, 0, none⟩ = some (.int .i64 n0) := fun X hx => heldB_get (vs := [.int .i64 n0, .int .i64 n1]) hx (by rw [hBS]; simp) rfl
  have hq14 : ∀ X, heldB X BS → X.cell? ⟨w.heap.size + 1 + 1, 1, none⟩ = some (.int .i64 n1) := fun X hx => heldB_get (vs := [.int .i64 n0, .int .i64 n1]) hx (by rw [hBS]; simp) rfl
  clear hBS
  have K0 : Hid (Below w6.heap.size w6 w6.drew) := Lib.hid (Below.refl _ _).drew
  refine wp_region_held_drew (S := (fun X => heldB X BS)) (by kernel_rfl) ?_ (fun hHeld => ?_)
  · exact heldB_up K0.out D0.out
  generalize w6.drew = z0 at K0 hHeld ⊢
  refine wpAnyH_take (i := 0) (oi := { dst := some 30, op := Op.load 27 (Operand.tmp 3), type := 27, pos := "law.go:162", after := #[], guard := none }) (v := ?_) rfl (by as_aux_lemma => kernel_rfl) (by as_aux_lemma => kernel_rfl) (by as_aux_lemma => kernel_rfl) (fun _ _ _ h => h) (Or.inl ⟨by rfl, ?_⟩) (by assumption) ?_
  rotate_left
  · intro w' hSw
    try dsimp only at hSw
    go_simp
    try with_reducible rfl
  try simp only [Act.put, List.setIfInBounds_toArray, List.set_cons_zero, List.set_cons_succ]
  refine wpAnyH_take (i := 1) (oi := { dst := some 31, op := Op.load 34 (Operand.tmp 4), type := 34, pos := "law.go:162", after := #[], guard := none }) (v := ?_) rfl (by as_aux_lemma => kernel_rfl) (by as_aux_lemma => kernel_rfl) (by as_aux_lemma => kernel_rfl) (fun _ _ _ h => h) (Or.inl ⟨by rfl, ?_⟩) (by assumption) ?_
  rotate_left
  · intro w' hSw
    try dsimp only at hSw
    go_simp
    try with_reducible rfl
  try simp only [Act.put, List.setIfInBounds_toArray, List.set_cons_zero, List.set_cons_succ]
  refine wpAnyH_take (i := 3) (oi := { dst := some 33, op := Op.load 27 (Operand.tmp 3), type := 27, pos := "law.go:162", after := #[], guard := none }) (v := ?_) rfl (by as_aux_lemma => kernel_rfl) (by as_aux_lemma => kernel_rfl) (by as_aux_lemma => kernel_rfl) (fun _ _ _ h => h) (Or.inl ⟨by rfl, ?_⟩) (by assumption) ?_
  rotate_left
  · intro w' hSw
    try dsimp only at hSw
    go_simp
    try with_reducible rfl
  try simp only [Act.put, List.setIfInBounds_toArray, List.set_cons_zero, List.set_cons_succ]
  refine wpAnyH_ready (rs := [2]) (by as_aux_lemma => kernel_rfl) (by simp) ?_
  refine AllReadyH.cons (o := { dst := some 32, op := Op.call { callee := Callee.value (Operand.func 9), args := #[Operand.tmp 30, Operand.tmp 31], argTypes := #[27, 34] }, type := 27, pos := "law.go:162", after := #[{ on := 0, ground := Ground.data }, { on := 1, ground := Ground.data }], guard := none }) rfl (fun Kx hK => ?_) AllReadyH.nil
  go_simp
  refine (clfeed_any (VA.out.later (K0.out)) (VT.out.later (K0.out)) n o hsA hsF.out m1 m2 hM.2.2.2 hlA hlF.out HFD).mono ?_
  rintro e z1001 ⟨uP, rfl, hP, bz1001⟩
  have K1001 := Lib.hid (below2Z K0.out bz1001)
  have D1001 := Lib.hid (heldB_up K1001.out D0.out)
  replace hP := CT.tab hP (VA.out.later (K1001.out)) (VT.out.later (K1001.out))
  obtain ⟨uPa, uPc, rfl, -⟩ := hP.open'
  have TP := Lib.hid hP
  clear hP
  clear bz1001
  go_wp2_with fail
  refine hK.out _ _ ?_ (fun hHeld2 => ?_)
  · exact D1001.out
  clear hK Kx hHeld
  have hHeld := hHeld2
  clear hHeld2
  try simp only [Act.put, List.setIfInBounds_toArray, List.set_cons_zero, List.set_cons_succ]
  refine wpAnyH_ready (rs := [4]) (by as_aux_lemma => kernel_rfl) (by simp) ?_
  refine AllReadyH.cons (o := { dst := some 34, op := Op.call { callee := Callee.value (Operand.func 22), args := #[Operand.tmp 32, Operand.tmp 33], argTypes := #[27, 27] }, type := 4, pos := "law.go:162", after := #[{ on := 2, ground := Ground.data }, { on := 3, ground := Ground.data }, { on := 2, ground := Ground.chain }], guard := none }) rfl (fun Kx hK => ?_) AllReadyH.nil
  go_simp
  refine (rclsame_eq TP.out (VA.out.later (K1001.out)) n n o o (Lib.hid (clSame_self _))).mono ?_
  rintro e z1002 ⟨rfl, bz1002⟩
  have K1002 := Lib.hid (below2Z K1001.out bz1002)
  have D1002 := Lib.hid (heldB_up K1002.out D0.out)
  replace TP := Lib.hid (Tab.later (TP.out) bz1002)
  clear bz1002
  go_wp2_with fail
  refine hK.out _ _ ?_ (fun hHeld2 => ?_)
  · exact D1002.out
  clear hK Kx hHeld
  have hHeld := hHeld2
  clear hHeld2
  try simp only [Act.put, List.setIfInBounds_toArray, List.set_cons_zero, List.set_cons_succ]
  refine wpAnyH_take (i := 5) (oi := { dst := some 35, op := Op.move (Operand.tmp 34), type := 4, pos := "law.go:162", after := #[{ on := 4, ground := Ground.data }, { on := 4, ground := Ground.chain }], guard := none }) (v := ?_) rfl (by as_aux_lemma => kernel_rfl) (by as_aux_lemma => kernel_rfl) (by as_aux_lemma => kernel_rfl) (fun _ _ _ h => h) (Or.inl ⟨by rfl, ?_⟩) (by assumption) ?_
  rotate_left
  · intro w' hSw
    try dsimp only at hSw
    go_simp
    try with_reducible rfl
  try simp only [Act.put, List.setIfInBounds_toArray, List.set_cons_zero, List.set_cons_succ]
  refine wpAnyH_ready (rs := [6]) (by as_aux_lemma => kernel_rfl) (by simp) ?_
  refine AllReadyH.cons (o := { dst := some 36, op := Op.call { callee := Callee.value (Operand.func 7), args := #[], argTypes := #[] }, type := 4, pos := "law.go:162", after := #[{ on := 5, ground := Ground.chain }, { on := 5, ground := Ground.guard }], guard := some (5, true) }) rfl (fun Kx hK => ?_) AllReadyH.nil
  go_simp
  refine (live19 _).mono ?_
  rintro e z1003 ⟨rfl, bz1003⟩
  have K1003 := Lib.hid (below2Z K1002.out bz1003)
  have D1003 := Lib.hid (heldB_up K1003.out D0.out)
  replace TP := Lib.hid (Tab.later (TP.out) bz1003)
  clear bz1003
  go_wp2_with fail
  refine hK.out _ _ ?_ (fun hHeld2 => ?_)
  · exact D1003.out
  clear hK Kx hHeld
  have hHeld := hHeld2
  clear hHeld2
  try simp only [Act.put, List.setIfInBounds_toArray, List.set_cons_zero, List.set_cons_succ]
  refine wpAnyH_take (i := 7) (oi := { dst := some 37, op := Op.pick (Operand.tmp 35) (Operand.tmp 36) (Operand.const (Value.bool false)), type := 4, pos := "law.go:162", after := #[{ on := 5, ground := Ground.data }, { on := 6, ground := Ground.data }], guard := none }) (v := ?_) rfl (by as_aux_lemma => kernel_rfl) (by as_aux_lemma => kernel_rfl) (by as_aux_lemma => kernel_rfl) (fun _ _ _ h => h) (Or.inl ⟨by rfl, ?_⟩) (by assumption) ?_
  rotate_left
  · intro w' hSw
    try dsimp only at hSw
    go_simp
    try with_reducible rfl
  try simp only [Act.put, List.setIfInBounds_toArray, List.set_cons_zero, List.set_cons_succ]
  refine wpAnyH_take (i := 8) (oi := { dst := some 6, op := Op.assign (Operand.tmp 37), type := 4, pos := "law.go:162", after := #[{ on := 7, ground := Ground.data }, { on := 6, ground := Ground.chain }, { on := 0, ground := Ground.phase }, { on := 1, ground := Ground.phase }, { on := 2, ground := Ground.phase }, { on := 3, ground := Ground.phase }, { on := 4, ground := Ground.phase }, { on := 5, ground := Ground.phase }, { on := 6, ground := Ground.phase }, { on := 7, ground := Ground.phase }], guard := none }) (v := ?_) rfl (by as_aux_lemma => kernel_rfl) (by as_aux_lemma => kernel_rfl) (by as_aux_lemma => kernel_rfl) (fun _ _ _ h => h) (Or.inl ⟨by rfl, ?_⟩) (by assumption) ?_
  rotate_left
  · intro w' hSw
    try dsimp only at hSw
    go_simp
    try with_reducible rfl
  try simp only [Act.put, List.setIfInBounds_toArray, List.set_cons_zero, List.set_cons_succ]
  refine wpAnyH_done (by kernel_rfl) ?_ _
  replace HB := Lib.hid (below2Z HB.out (K1003.out))
  go_wp2_with fail
  go_ret
  exact ⟨rfl, HB.out⟩

set_option maxHeartbeats 12800000 in
set_option maxRecDepth 100000 in
theorem csm_4 {w : World} {v vt : Value} {t : List Row} {k s sh pr si : Int} {on : Bool} {c st : List UInt8} {sum : Nat} {tt : List Row} (hv : Tab w v t) (n : Int) (o : Bool) (hvt : Tab w vt tt) (hM : c.length ≤ maxLen ∧ st.length ≤ maxLen ∧ sum < 18446744073709551616 ∧ (Lit.int .i64 k).wf = true) (n0 n1 : Int) (H1 : Hid (fewT t = true)) (H3 : Hid (fewF ⟨k, s, on, c, ⟨sh, pr, si, st⟩, sum, tt⟩ = true)) {l : List UInt8} (hl : Hid (l.length ≤ 2000)) (HE : Hid (frEnc ⟨k, s, on, c, ⟨sh, pr, si, st⟩, sum, tt⟩ = (l, 0))) {t2 : List Row} {n2 : Int} {o2 : Bool} (HFD : Hid (clFeed ⟨t, n, o⟩ ⟨k, s, on, c, ⟨sh, pr, si, st⟩, sum, tt⟩ = ⟨t2, n2, o2⟩)) (HRD : Hid (clRead ⟨t, n, o⟩ l = (⟨t2, n2, o2⟩, 0))) (HSPO : Hid (∀ p m, p < l.length → m ≠ 0 → clRead ⟨t, n, o⟩ (l.set p (l.getD p 0 ^^^ m)) = (⟨t, n, o⟩, 4))) :
    Calls Try.prog 5 #[.agg #[v, .int .i64 n, .bool o], .agg #[.int .i64 k, .int .i64 s, .bool on, .string ⟨c.toArray⟩, .int .i64 sh, .int .i64 pr, .int .i64 si, .string ⟨st.toArray⟩, .int .u64 sum, vt], .agg #[.int .i64 n0, .int .i64 n1]] w fun e w' => e = .returned (.bool true) ∧ Below w.heap.size w w' := by
  have hsA := fewT_short H1.out
  have hlA := fewT_len H1.out
  obtain ⟨s1, m1, m2⟩ := fewF_getC H3.out
  simp only at s1 m1 m2
  have hsF := Lib.hid s1
  have hlF := Lib.hid (fewF_lenC H3.out)
  clear s1
  have hz1 : (⟨l.toArray⟩ : ByteArray).size = l.length := size_bytes l
  have hl2 : l.length ≤ 4294967296 := by have := hl.out; omega
  have hcv := Lib.hid (fun w => Lib.run_convert_string_bytes (P := Try.prog) w 9 54 5 ⟨l.toArray⟩ Try.underlying9 Try.underlying54 Try.underlying5)
  obtain ⟨ca, cc, rfl, -⟩ := hv.open'
  obtain ⟨ta, tc, rfl, -⟩ := hvt.open'
  have b0 := bl_newZ w (.cells #[.slice ca t.length cc, .int .i64 n, .bool o] 27)
  have b1 := bl_newZ (w.alloc (.cells #[.slice ca t.length cc, .int .i64 n, .bool o] 27)) (.cells #[.int .i64 k, .int .i64 s, .bool on, .string ⟨c.toArray⟩, .int .i64 sh, .int .i64 pr, .int .i64 si, .string ⟨st.toArray⟩, .int .u64 sum, .slice ta tt.length tc] 34)
  have b2 := bl_newZ ((w.alloc (.cells #[.slice ca t.length cc, .int .i64 n, .bool o] 27)).alloc (.cells #[.int .i64 k, .int .i64 s, .bool on, .string ⟨c.toArray⟩, .int .i64 sh, .int .i64 pr, .int .i64 si, .string ⟨st.toArray⟩, .int .u64 sum, .slice ta tt.length tc] 34)) (.cells #[.int .i64 n0, .int .i64 n1] 51)
  have HB := Lib.hid (below2Z (below2Z b0 b1) b2)
  have VA := Lib.hid (((hv.later b0).later b1).later b2)
  have VT := Lib.hid (((hvt.later b0).later b1).later b2)
  have CB := newQ w (.cells #[.slice ca t.length cc, .int .i64 n, .bool o] 27)
  replace CB := upQ CB b1
  replace CB := upQ CB b2
  replace CB := Lib.hid CB
  have FB := newQ (w.alloc (.cells #[.slice ca t.length cc, .int .i64 n, .bool o] 27)) (.cells #[.int .i64 k, .int .i64 s, .bool on, .string ⟨c.toArray⟩, .int .i64 sh, .int .i64 pr, .int .i64 si, .string ⟨st.toArray⟩, .int .u64 sum, .slice ta tt.length tc] 34)
  rw [World.size_alloc] at FB
  replace FB := upQ FB b2
  replace FB := Lib.hid FB
  have NB := newQ ((w.alloc (.cells #[.slice ca t.length cc, .int .i64 n, .bool o] 27)).alloc (.cells #[.int .i64 k, .int .i64 s, .bool on, .string ⟨c.toArray⟩, .int .i64 sh, .int .i64 pr, .int .i64 si, .string ⟨st.toArray⟩, .int .u64 sum, .slice ta tt.length tc] 34)) (.cells #[.int .i64 n0, .int .i64 n1] 51)
  rw [World.size_alloc, World.size_alloc] at NB
  replace NB := Lib.hid NB
  clear b0 b1 b2
  have VX := Lib.hid (fun X (hX : Below w.heap.size w X) => hv.later hX)
  clear hv hvt
  go_enter Try.func5, Try.ntmps5
  obtain ⟨⟨CBc0, CBc1, CBc2⟩, ⟨CBf0, CBf1, CBf2⟩⟩ := blk3 CB.out
  go_wp2_with fail
  clear CBc0 CBc1 CBc2 CBf0 CBf1 CBf2
  refine (clfew_eq VA.out n o H1).mono ?_
  rintro e w4 ⟨rfl, b4⟩
  replace CB := Lib.hid (upQ CB.out b4)
  replace FB := Lib.hid (upQ FB.out b4)
  replace NB := Lib.hid (upQ NB.out b4)
  replace VA := Lib.hid (VA.out.later b4)
  replace VT := Lib.hid (VT.out.later b4)
  replace HB := Lib.hid (below2Z HB.out b4)
  clear b4
  obtain ⟨⟨FBc0, FBc1, FBc2, FBc3, FBc4, FBc5, FBc6, FBc7, FBc8, FBc9⟩, ⟨FBf0, FBf1, FBf2, FBf3, FBf4, FBf5, FBf6, FBf7, FBf8, FBf9⟩⟩ := blk10 FB.out
  go_wp2_with fail
  clear FBc0 FBc1 FBc2 FBc3 FBc4 FBc5 FBc6 FBc7 FBc8 FBc9 FBf0 FBf1 FBf2 FBf3 FBf4 FBf5 FBf6 FBf7 FBf8 FBf9
  refine (fewf_eq VT.out k s on c sh pr si st sum hM.1 hM.2.1 H3).mono ?_
  rintro e w5 ⟨rfl, b5⟩
  replace CB := Lib.hid (upQ CB.out b5)
  replace FB := Lib.hid (upQ FB.out b5)
  replace NB := Lib.hid (upQ NB.out b5)
  replace VA := Lib.hid (VA.out.later b5)
  replace VT := Lib.hid (VT.out.later b5)
  replace HB := Lib.hid (below2Z HB.out b5)
  clear b5
  obtain ⟨⟨FBc0, FBc1, FBc2, FBc3, FBc4, FBc5, FBc6, FBc7, FBc8, FBc9⟩, ⟨FBf0, FBf1, FBf2, FBf3, FBf4, FBf5, FBf6, FBf7, FBf8, FBf9⟩⟩ := blk10 FB.out
  go_wp2_with fail
  clear FBc0 FBc1 FBc2 FBc3 FBc4 FBc5 FBc6 FBc7 FBc8 FBc9 FBf0 FBf1 FBf2 FBf3 FBf4 FBf5 FBf6 FBf7 FBf8 FBf9
  refine (frenc_any VT.out hsF.out k s on c sh pr si st sum hM.2.2.1 m1 m2 HE).mono ?_
  rintro e w6 ⟨rfl, b6⟩
  replace CB := Lib.hid (upQ CB.out b6)
  replace FB := Lib.hid (upQ FB.out b6)
  replace NB := Lib.hid (upQ NB.out b6)
  replace VA := Lib.hid (VA.out.later b6)
  replace VT := Lib.hid (VT.out.later b6)
  replace HB := Lib.hid (below2Z HB.out b6)
  clear b6
  obtain ⟨⟨CBc0, CBc1, CBc2⟩, ⟨CBf0, CBf1, CBf2⟩⟩ := blk3 CB.out
  go_wp2_with fail
  clear CBc0 CBc1 CBc2 CBf0 CBf1 CBf2
  refine (clread_any VA.out hsA hlA n o l hl2 HRD).mono ?_
  rintro e w7 ⟨uR, rfl, hR, b7⟩
  replace CB := Lib.hid (upQ CB.out b7)
  replace FB := Lib.hid (upQ FB.out b7)
  replace NB := Lib.hid (upQ NB.out b7)
  replace VA := Lib.hid (VA.out.later b7)
  replace VT := Lib.hid (VT.out.later b7)
  replace HB := Lib.hid (below2Z HB.out b7)
  replace hR := RT.tab hR VA.out
  obtain ⟨xa, xc, rfl, -⟩ := hR.open'
  have TR := Lib.hid hR
  clear hR
  clear b7
  go_upto_region 7 with fail
  have hCl := (Array.getElem?_eq_some_iff.1 CB.out).1
  have b8 := bl_newZ w7 (.cells #[.slice xa t2.length xc, .int .i64 n2, .bool o2] 27)
  have D := newQ w7 (.cells #[.slice xa t2.length xc, .int .i64 n2, .bool o2] 27)
  have hD : w.heap.size ≤ w7.heap.size := HB.out.size
  replace CB := Lib.hid (upQ CB.out b8)
  replace FB := Lib.hid (upQ FB.out b8)
  replace NB := Lib.hid (upQ NB.out b8)
  replace VA := Lib.hid (VA.out.later b8)
  replace VT := Lib.hid (VT.out.later b8)
  replace TR := Lib.hid (Tab.later TR.out b8)
  replace HB := Lib.hid (below2Z HB.out b8)
  clear b8
  replace D := Lib.hid D
  generalize w7.alloc (.cells #[.slice xa t2.length xc, .int .i64 n2, .bool o2] 27) = w9 at CB FB NB D VA VT TR HB ⊢
  generalize w7.heap.size = BD at D hD hCl ⊢
  go_cut [53] from 44 to 52 (fun p wx => p = .bool false ∧ Hid (Below w9.heap.size w9 wx))
  case first =>
    obtain ⟨BS, hBS⟩ : ∃ BS : List (Nat × List Value), BS = [(w.heap.size, [.slice ca t.length cc, .int .i64 n, .bool o]), (w.heap.size + 1, [.int .i64 k, .int .i64 s, .bool on, .string ⟨c.toArray⟩, .int .i64 sh, .int .i64 pr, .int .i64 si, .string ⟨st.toArray⟩, .int .u64 sum, .slice ta tt.length tc]), (w.heap.size + 1 + 1, [.int .i64 n0, .int .i64 n1]), (BD, [.slice xa t2.length xc, .int .i64 n2, .bool o2])] := ⟨_, rfl⟩
    have D0 := Lib.hid (show heldB w9 BS from by rw [hBS]; exact heldB_cons (cellsAt_block CB.out) (heldB_cons (cellsAt_block FB.out) (heldB_cons (cellsAt_block NB.out) (heldB_cons (cellsAt_block D.out) (heldB_nil _)))))
    have hq0 : ∀ X, heldB X BS → X.cell? ⟨w.heap.size, 0, none⟩ = some (.slice ca t.length cc) := fun X hx => heldB_get (vs := [.slice ca t.length cc, .int .i64 n, .bool o]) hx (by rw [hBS]; simp) rfl
    have hq1 : ∀ X, heldB X BS → X.cell? ⟨w.heap.size, 1, none⟩ = some (.int .i64 n) := fun X hx => heldB_get (vs := [.slice ca t.length cc, .int .i64 n, .bool o]) hx (by rw [hBS]; simp) rfl
    have hq2 : ∀ X, heldB X BS → X.cell? ⟨w.heap.size, 2, none⟩ = some (.bool o) := fun X hx => heldB_get (vs := [.slice ca t.length cc, .int .i64 n, .bool o]) hx (by rw [hBS]; simp) rfl
    have hq3 : ∀ X, heldB X BS → X.cell? ⟨w.heap.size + 1, 0, none⟩ = some (.int .i64 k) := fun X hx => heldB_get (vs := [.int .i64 k, .int .i64 s, .bool on, .string ⟨c.toArray⟩, .int .i64 sh, .int .i64 pr, .int .i64 si, .string ⟨st.toArray⟩, .int .u64 sum, .slice ta tt.length tc]) hx (by rw [hBS]; simp) rfl
    have hq4 : ∀ X, heldB X BS → X.cell? ⟨w.heap.size + 1, 1, none⟩ = some (.int .i64 s) := fun X hx => heldB_get (vs := [.int .i64 k, .int .i64 s, .bool on, .string ⟨c.toArray⟩, .int .i64 sh, .int .i64 pr, .int .i64 si, .string ⟨st.toArray⟩, .int .u64 sum, .slice ta tt.length tc]) hx (by rw [hBS]; simp) rfl
    have hq5 : ∀ X, heldB X BS → X.cell? ⟨w.heap.size + 1, 2, none⟩ = some (.bool on) := fun X hx => heldB_get (vs := [.int .i64 k, .int .i64 s, .bool on, .string ⟨c.toArray⟩, .int .i64 sh, .int .i64 pr, .int .i64 si, .string ⟨st.toArray⟩, .int .u64 sum, .slice ta tt.length tc]) hx (by rw [hBS]; simp) rfl
    have hq6 : ∀ X, heldB X BS → X.cell? ⟨w.heap.size + 1, 3, none⟩ = some (.string ⟨c.toArray⟩) := fun X hx => heldB_get (vs := [.int .i64 k, .int .i64 s, .bool on, .string ⟨c.toArray⟩, .int .i64 sh, .int .i64 pr, .int .i64 si, .string ⟨st.toArray⟩, .int .u64 sum, .slice ta tt.length tc]) hx (by rw [hBS]; simp) rfl
    have hq7 : ∀ X, heldB X BS → X.cell? ⟨w.heap.size + 1, 4, none⟩ = some (.int .i64 sh) := fun X hx => heldB_get (vs := [.int .i64 k, .int .i64 s, .bool on, .string ⟨c.toArray⟩, .int .i64 sh, .int .i64 pr, .int .i64 si, .string ⟨st.toArray⟩, .int .u64 sum, .slice ta tt.length tc]) hx (by rw [hBS]; simp) rfl
    have hq8 : ∀ X, heldB X BS → X.cell? ⟨w.heap.size + 1, 5, none⟩ = some (.int .i64 pr) := fun X hx => heldB_get (vs := [.int .i64 k, .int .i64 s, .bool on, .string ⟨c.toArray⟩, .int .i64 sh, .int .i64 pr, .int .i64 si, .string ⟨st.toArray⟩, .int .u64 sum, .slice ta tt.length tc]) hx (by rw [hBS]; simp) rfl
    have hq9 : ∀ X, heldB X BS → X.cell? ⟨w.heap.size + 1, 6, none⟩ = some (.int .i64 si) := fun X hx => heldB_get (vs := [.int .i64 k, .int .i64 s, .bool on, .string ⟨c.toArray⟩, .int .i64 sh, .int .i64 pr, .int .i64 si, .string ⟨st.toArray⟩, .int .u64 sum, .slice ta tt.length tc]) hx (by rw [hBS]; simp) rfl
    have hq10 : ∀ X, heldB X BS → X.cell? ⟨w.heap.size + 1, 7, none⟩ = some (.string ⟨st.toArray⟩) := fun X hx => heldB_get (vs := [.int .i64 k, .int .i64 s, .bool on, .string ⟨c.toArray⟩, .int .i64 sh, .int .i64 pr, .int .i64 si, .string ⟨st.toArray⟩, .int .u64 sum, .slice ta tt.length tc]) hx (by rw [hBS]; simp) rfl
    have hq11 : ∀ X, heldB X BS → X.cell? ⟨w.heap.size + 1, 8, none⟩ = some (.int .u64 sum) := fun X hx => heldB_get (vs := [.int .i64 k, .int .i64 s, .bool on, .string ⟨c.toArray⟩, .int .i64 sh, .int .i64 pr, .int .i64 si, .string ⟨st.toArray⟩, .int .u64 sum, .slice ta tt.length tc]) hx (by rw [hBS]; simp) rfl
    have hq12 : ∀ X, heldB X BS → X.cell? ⟨w.heap.size + 1, 9, none⟩ = some (.slice ta tt.length tc) := fun X hx => heldB_get (vs := [.int .i64 k, .int .i64 s, .bool on, .string ⟨c.toArray⟩, .int .i64 sh, .int .i64 pr, .int .i64 si, .string ⟨st.toArray⟩, .int .u64 sum, .slice ta tt.length tc]) hx (by rw [hBS]; simp) rfl
    have hq13 : ∀ X, heldB X BS → X.cell? ⟨w.heap.size + 1 + 1, 0, none⟩ = some (.int .i64 n0) := fun X hx => heldB_get (vs := [.int .i64 n0, .int .i64 n1]) hx (by rw [hBS]; simp) rfl
    have hq14 : ∀ X, heldB X BS → X.cell? ⟨w.heap.size + 1 + 1, 1, none⟩ = some (.int .i64 n1) := fun X hx => heldB_get (vs := [.int .i64 n0, .int .i64 n1]) hx (by rw [hBS]; simp) rfl
    have hq15 : ∀ X, heldB X BS → X.cell? ⟨BD, 0, none⟩ = some (.slice xa t2.length xc) := fun X hx => heldB_get (vs := [.slice xa t2.length xc, .int .i64 n2, .bool o2]) hx (by rw [hBS]; simp) rfl
    have hq16 : ∀ X, heldB X BS → X.cell? ⟨BD, 1, none⟩ = some (.int .i64 n2) := fun X hx => heldB_get (vs := [.slice xa t2.length xc, .int .i64 n2, .bool o2]) hx (by rw [hBS]; simp) rfl
    have hq17 : ∀ X, heldB X BS → X.cell? ⟨BD, 2, none⟩ = some (.bool o2) := fun X hx => heldB_get (vs := [.slice xa t2.length xc, .int .i64 n2, .bool o2]) hx (by rw [hBS]; simp) rfl
    clear hBS
    have K0 : Hid (Below w9.heap.size w9 w9.drew) := Lib.hid (Below.refl _ _).drew
    refine wp_region_held_drew (S := (fun X => heldB X BS)) (by kernel_rfl) ?_ (fun hHeld => ?_)
    · exact heldB_up K0.out D0.out
    generalize w9.drew = z0 at K0 hHeld ⊢
    refine wpAnyH_take (i := 0) (oi := { dst := some 44, op := Op.move (Operand.tmp 10), type := 37, pos := "law.go:165", after := #[], guard := none }) (v := ?_) rfl (by as_aux_lemma => kernel_rfl) (by as_aux_lemma => kernel_rfl) (by as_aux_lemma => kernel_rfl) (fun _ _ _ h => h) (Or.inl ⟨by rfl, ?_⟩) (by assumption) ?_
    rotate_left
    · intro w' hSw
      try dsimp only at hSw
      go_simp
      try with_reducible rfl
    try simp only [Act.put, List.setIfInBounds_toArray, List.set_cons_zero, List.set_cons_succ]
    refine wpAnyH_take (i := 1) (oi := { dst := some 45, op := Op.binOp BinOp.neq 37 (Operand.tmp 44) (Operand.const (Value.int IntKind.i64 0)) 37, type := 4, pos := "law.go:165", after := #[{ on := 0, ground := Ground.data }], guard := none }) (v := ?_) rfl (by as_aux_lemma => kernel_rfl) (by as_aux_lemma => kernel_rfl) (by as_aux_lemma => kernel_rfl) (fun _ _ _ h => h) (Or.inl ⟨by rfl, ?_⟩) (by assumption) ?_
    rotate_left
    · intro w' hSw
      try dsimp only at hSw
      go_simp
      try with_reducible rfl
    try simp only [Act.put, List.setIfInBounds_toArray, List.set_cons_zero, List.set_cons_succ]
    refine wpAnyH_take (i := 2) (oi := { dst := some 46, op := Op.move (Operand.tmp 45), type := 4, pos := "law.go:165", after := #[{ on := 1, ground := Ground.data }], guard := none }) (v := ?_) rfl (by as_aux_lemma => kernel_rfl) (by as_aux_lemma => kernel_rfl) (by as_aux_lemma => kernel_rfl) (fun _ _ _ h => h) (Or.inl ⟨by rfl, ?_⟩) (by assumption) ?_
    rotate_left
    · intro w' hSw
      try dsimp only at hSw
      go_simp
      try with_reducible rfl
    try simp only [Act.put, List.setIfInBounds_toArray, List.set_cons_zero, List.set_cons_succ]
    refine wpAnyH_take (i := 3) (oi := { dst := some 47, op := Op.load 27 (Operand.tmp 9), type := 27, pos := "law.go:165", after := #[{ on := 2, ground := Ground.guard }], guard := some (2, false) }) (v := ?_) rfl (by as_aux_lemma => kernel_rfl) (by as_aux_lemma => kernel_rfl) (by as_aux_lemma => kernel_rfl) (fun _ _ _ h => h) (Or.inl ⟨by rfl, ?_⟩) (by assumption) ?_
    rotate_left
    · intro w' hSw
      try dsimp only at hSw
      go_simp
      try with_reducible rfl
    try simp only [Act.put, List.setIfInBounds_toArray, List.set_cons_zero, List.set_cons_succ]
    refine wpAnyH_take (i := 4) (oi := { dst := some 48, op := Op.load 27 (Operand.tmp 3), type := 27, pos := "law.go:165", after := #[{ on := 2, ground := Ground.guard }], guard := some (2, false) }) (v := ?_) rfl (by as_aux_lemma => kernel_rfl) (by as_aux_lemma => kernel_rfl) (by as_aux_lemma => kernel_rfl) (fun _ _ _ h => h) (Or.inl ⟨by rfl, ?_⟩) (by assumption) ?_
    rotate_left
    · intro w' hSw
      try dsimp only at hSw
      go_simp
      try with_reducible rfl
    try simp only [Act.put, List.setIfInBounds_toArray, List.set_cons_zero, List.set_cons_succ]
    refine wpAnyH_take (i := 5) (oi := { dst := some 49, op := Op.load 34 (Operand.tmp 4), type := 34, pos := "law.go:165", after := #[{ on := 2, ground := Ground.guard }], guard := some (2, false) }) (v := ?_) rfl (by as_aux_lemma => kernel_rfl) (by as_aux_lemma => kernel_rfl) (by as_aux_lemma => kernel_rfl) (fun _ _ _ h => h) (Or.inl ⟨by rfl, ?_⟩) (by assumption) ?_
    rotate_left
    · intro w' hSw
      try dsimp only at hSw
      go_simp
      try with_reducible rfl
    try simp only [Act.put, List.setIfInBounds_toArray, List.set_cons_zero, List.set_cons_succ]
    refine wpAnyH_ready (rs := [6]) (by as_aux_lemma => kernel_rfl) (by simp) ?_
    refine AllReadyH.cons (o := { dst := some 50, op := Op.call { callee := Callee.value (Operand.func 9), args := #[Operand.tmp 48, Operand.tmp 49], argTypes := #[27, 34] }, type := 27, pos := "law.go:165", after := #[{ on := 4, ground := Ground.data }, { on := 5, ground := Ground.data }, { on := 2, ground := Ground.chain }, { on := 2, ground := Ground.guard }], guard := some (2, false) }) rfl (fun Kx hK => ?_) AllReadyH.nil
    go_simp
    refine (clfeed_any (VA.out.later (K0.out)) (VT.out.later (K0.out)) n o hsA hsF.out m1 m2 hM.2.2.2 hlA hlF.out HFD).mono ?_
    rintro e z1001 ⟨uQ, rfl, hQ, bz1001⟩
    have K1001 := Lib.hid (below2Z K0.out bz1001)
    have D1001 := Lib.hid (heldB_up K1001.out D0.out)
    replace hQ := CT.tab hQ (VA.out.later (K1001.out)) (VT.out.later (K1001.out))
    obtain ⟨uQa, uQc, rfl, -⟩ := hQ.open'
    have TQ := Lib.hid hQ
    clear hQ
    clear bz1001
    go_wp2_with fail
    refine hK.out _ _ ?_ (fun hHeld2 => ?_)
    · exact D1001.out
    clear hK Kx hHeld
    have hHeld := hHeld2
    clear hHeld2
    try simp only [Act.put, List.setIfInBounds_toArray, List.set_cons_zero, List.set_cons_succ]
    refine wpAnyH_ready (rs := [7]) (by as_aux_lemma => kernel_rfl) (by simp) ?_
    refine AllReadyH.cons (o := { dst := some 51, op := Op.call { callee := Callee.value (Operand.func 11), args := #[Operand.tmp 47, Operand.tmp 50], argTypes := #[27, 27] }, type := 4, pos := "law.go:165", after := #[{ on := 3, ground := Ground.data }, { on := 6, ground := Ground.data }, { on := 6, ground := Ground.chain }, { on := 2, ground := Ground.guard }], guard := some (2, false) }) rfl (fun Kx hK => ?_) AllReadyH.nil
    go_simp
    refine (clsame_eq (TR.out.later (K1001.out)) TQ.out n2 n2 o2 o2 (Lib.hid (clSame_self _))).mono ?_
    rintro e z1002 ⟨rfl, bz1002⟩
    have K1002 := Lib.hid (below2Z K1001.out bz1002)
    have D1002 := Lib.hid (heldB_up K1002.out D0.out)
    replace TQ := Lib.hid (Tab.later (TQ.out) bz1002)
    clear bz1002
    go_wp2_with fail
    refine hK.out _ _ ?_ (fun hHeld2 => ?_)
    · exact D1002.out
    clear hK Kx hHeld
    have hHeld := hHeld2
    clear hHeld2
    try simp only [Act.put, List.setIfInBounds_toArray, List.set_cons_zero, List.set_cons_succ]
    refine wpAnyH_take (i := 8) (oi := { dst := some 52, op := Op.unOp UnOp.not 4 (Operand.tmp 51), type := 4, pos := "law.go:165", after := #[{ on := 7, ground := Ground.data }, { on := 2, ground := Ground.guard }], guard := some (2, false) }) (v := ?_) rfl (by as_aux_lemma => kernel_rfl) (by as_aux_lemma => kernel_rfl) (by as_aux_lemma => kernel_rfl) (fun _ _ _ h => h) (Or.inl ⟨by rfl, ?_⟩) (by assumption) ?_
    rotate_left
    · intro w' hSw
      try dsimp only at hSw
      go_simp
      try with_reducible rfl
    try simp only [Act.put, List.setIfInBounds_toArray, List.set_cons_zero, List.set_cons_succ]
    refine wpAnyH_take (i := 9) (oi := { dst := some 53, op := Op.pick (Operand.tmp 46) (Operand.const (Value.bool true)) (Operand.tmp 52), type := 4, pos := "law.go:165", after := #[{ on := 2, ground := Ground.data }, { on := 8, ground := Ground.data }], guard := none }) (v := ?_) rfl (by as_aux_lemma => kernel_rfl) (by as_aux_lemma => kernel_rfl) (by as_aux_lemma => kernel_rfl) (fun _ _ _ h => h) (Or.inl ⟨by rfl, ?_⟩) (by assumption) ?_
    rotate_left
    · intro w' hSw
      try dsimp only at hSw
      go_simp
      try with_reducible rfl
    try simp only [Act.put, List.setIfInBounds_toArray, List.set_cons_zero, List.set_cons_succ]
    refine wpAnyH_done (by kernel_rfl) ?_ _
    go_wp2_with fail
    go_meet
    exact ⟨rfl, K1002⟩
  case rest =>
    obtain ⟨rfl, KB⟩ := hcut
    obtain ⟨w10, hw10⟩ : ∃ X, X = wc := ⟨_, rfl⟩
    subst hw10
    replace CB := Lib.hid (upQ CB.out KB.out)
    replace FB := Lib.hid (upQ FB.out KB.out)
    replace NB := Lib.hid (upQ NB.out KB.out)
    replace D := Lib.hid (upQ D.out KB.out)
    replace VA := Lib.hid (VA.out.later KB.out)
    replace VT := Lib.hid (VT.out.later KB.out)
    replace TR := Lib.hid (Tab.later TR.out KB.out)
    replace HB := Lib.hid (below2Z HB.out KB.out)
    clear KB
    by_cases hin : (0 ≤ n0 ∧ n0 < l.length) ∧ 1 ≤ n1 ∧ n1 ≤ 255
    case neg =>
      by_cases c0 : n0 < 0
      case pos =>
        have g1 : decide (n0 < 0) = true := by rw [decide_eq_true_eq]; omega
        clear c0
        clear hin
        obtain ⟨⟨NBc0, NBc1⟩, ⟨NBf0, NBf1⟩⟩ := blk2 NB.out
        go_wp2_with fail
        clear NBc0 NBc1 NBf0 NBf1
        refine (live19 _).mono ?_
        rintro e w501 ⟨rfl, b501⟩
        replace HB := Lib.hid (below2Z HB.out b501)
        clear b501
        go_wp2_with fail
        go_ret
        exact ⟨rfl, HB.out⟩
      case neg =>
      by_cases c1 : (l.length : Int) ≤ n0
      case pos =>
        have g1 : decide (n0 < 0) = false := by rw [decide_eq_false_iff_not]; omega
        have g2 : decide ((l.length : Int) ≤ n0) = true := by rw [decide_eq_true_eq]; omega
        clear c0 c1
        clear hin
        obtain ⟨⟨NBc0, NBc1⟩, ⟨NBf0, NBf1⟩⟩ := blk2 NB.out
        go_wp2_with fail
        clear NBc0 NBc1 NBf0 NBf1
        refine (live19 _).mono ?_
        rintro e w501 ⟨rfl, b501⟩
        replace HB := Lib.hid (below2Z HB.out b501)
        clear b501
        go_wp2_with fail
        go_ret
        exact ⟨rfl, HB.out⟩
      case neg =>
      by_cases c2 : n1 < 1
      case pos =>
        have g1 : decide (n0 < 0) = false := by rw [decide_eq_false_iff_not]; omega
        have g2 : decide ((l.length : Int) ≤ n0) = false := by rw [decide_eq_false_iff_not]; omega
        have g3 : decide (n1 < 1) = true := by rw [decide_eq_true_eq]; omega
        clear c0 c1 c2
        clear hin
        obtain ⟨⟨NBc0, NBc1⟩, ⟨NBf0, NBf1⟩⟩ := blk2 NB.out
        go_wp2_with fail
        clear NBc0 NBc1 NBf0 NBf1
        refine (live19 _).mono ?_
        rintro e w501 ⟨rfl, b501⟩
        replace HB := Lib.hid (below2Z HB.out b501)
        clear b501
        go_wp2_with fail
        go_ret
        exact ⟨rfl, HB.out⟩
      case neg =>
        have g1 : decide (n0 < 0) = false := by rw [decide_eq_false_iff_not]; omega
        have g2 : decide ((l.length : Int) ≤ n0) = false := by rw [decide_eq_false_iff_not]; omega
        have g3 : decide (n1 < 1) = false := by rw [decide_eq_false_iff_not]; omega
        have g4 : decide (255 < n1) = true := by rw [decide_eq_true_eq]; omega
        clear c0 c1 c2
        clear hin
        obtain ⟨⟨NBc0, NBc1⟩, ⟨NBf0, NBf1⟩⟩ := blk2 NB.out
        go_wp2_with fail
        clear NBc0 NBc1 NBf0 NBf1
        refine (live19 _).mono ?_
        rintro e w501 ⟨rfl, b501⟩
        replace HB := Lib.hid (below2Z HB.out b501)
        clear b501
        go_wp2_with fail
        go_ret
        exact ⟨rfl, HB.out⟩
    case pos =>
      obtain ⟨p, rfl⟩ := Int.eq_ofNat_of_zero_le hin.1.1
      obtain ⟨q, rfl⟩ := Int.eq_ofNat_of_zero_le (show 0 ≤ n1 by omega)
      obtain ⟨m, hm⟩ : ∃ m : UInt8, m.toNat = q := ⟨UInt8.ofNat q, by simp; omega⟩
      subst hm
      have g1 : decide ((p : Int) < 0) = false := by rw [decide_eq_false_iff_not]; omega
      have g2 : decide ((l.length : Int) ≤ (p : Int)) = false := by rw [decide_eq_false_iff_not]; omega
      have g3 : decide ((m.toNat : Int) < 1) = false := by rw [decide_eq_false_iff_not]; omega
      have g4 : decide (255 < (m.toNat : Int)) = false := by rw [decide_eq_false_iff_not]; omega
      have g2b : decide (l.length ≤ p) = false := by rw [decide_eq_false_iff_not]; omega
      have g3b : decide (m.toNat < 1) = false := by rw [decide_eq_false_iff_not]; omega
      have g4b : decide (255 < m.toNat) = false := by rw [decide_eq_false_iff_not]; omega
      have hpl : p < l.length := by omega
      have hm0 : m ≠ 0 := by intro h; rw [h] at hin; simp at hin
      have HSP := Lib.hid (HSPO.out p m hpl hm0)
      clear hin hm0
      obtain ⟨⟨NBc0, NBc1⟩, ⟨NBf0, NBf1⟩⟩ := blk2 NB.out
      have hcvw := hcv.out
      go_upto_region 12 with fail
      clear NBc0 NBc1 NBf0 NBf1 hcvw
      have hR0 : Hid (RowB (Lib.bytesWorld w10 5 ⟨l.toArray⟩) w10.heap.size l) := fun j hj => ⟨bytesWorld_list w10 5 l j hj, bytesWorld_frozen w10 5 _ j (by rw [size_bytes]; exact hj)⟩
      have hbw := bytesWorld_below w10 5 ⟨l.toArray⟩
      have hNl := (Array.getElem?_eq_some_iff.1 NB.out).1
      have hCl2 := (Array.getElem?_eq_some_iff.1 CB.out).1
      replace CB := Lib.hid (upQ CB.out hbw)
      replace FB := Lib.hid (upQ FB.out hbw)
      replace NB := Lib.hid (upQ NB.out hbw)
      replace D := Lib.hid (upQ D.out hbw)
      replace VA := Lib.hid (VA.out.later hbw)
      replace VT := Lib.hid (VT.out.later hbw)
      replace TR := Lib.hid (Tab.later TR.out hbw)
      replace HB := Lib.hid (below2Z HB.out hbw)
      clear hbw
      have hRW : w.heap.size + 1 + 1 < w10.heap.size := hNl
      clear hNl hCl2
      generalize Lib.bytesWorld w10 5 ⟨l.toArray⟩ = w11 at CB FB NB D VA VT TR HB hR0 ⊢
      generalize w10.heap.size = R at hR0 hRW ⊢
      obtain ⟨x, hx⟩ : ∃ x, x = l.getD p 0 := ⟨_, rfl⟩
      have hcell := (hR0.out p hpl).1
      have hfr := (hR0.out p hpl).2
      rw [← hx] at hcell
      obtain ⟨y, hy⟩ : ∃ y, y = x ^^^ m := ⟨_, rfl⟩
      have hxor : bits .xor .u8 (x.toNat : Int) (m.toNat : Int) = (y.toNat : Int) := by
        rw [hy, u8_xor_nat _ _ x.toNat_lt m.toNat_lt, UInt8.toNat_xor]
      have HY := Lib.hid hy
      clear hy
      have hwb : IntKind.u8.wrap (m.toNat : Int) = m.toNat := by rw [IntKind.wrap_u8]; have := m.toNat_lt; omega
      have hR2 := Lib.hid ((hR0.out.set p y hpl).drew)
      have HX := Lib.hid hx
      clear hx hR0
      obtain ⟨⟨NBc0, NBc1⟩, ⟨NBf0, NBf1⟩⟩ := blk2 NB.out
      go_region
      clear NBc0 NBc1 NBf0 NBf1 hcell hfr
      have CBz : Hid (((w11.setCell ⟨R, p, none⟩ (.int .u8 y.toNat)).drew).heap[w.heap.size]? = some (.cells #[.slice ca t.length cc, .int .i64 n, .bool o] 27 (0, 0))) := Lib.hid ((Below.heap_setCell _ _ _ (w.heap.size) (show ¬ w.heap.size = R by omega)).trans CB.out)
      have HBz : Hid (Below w.heap.size w ((w11.setCell ⟨R, p, none⟩ (.int .u8 y.toNat)).drew)) := Lib.hid ((HB.out.setCell (show w.heap.size ≤ R by omega) _).drew)
      have VAz : Hid (Tab ((w11.setCell ⟨R, p, none⟩ (.int .u8 y.toNat)).drew) (.slice ca t.length cc) t) := Lib.hid (VX.out _ HBz.out)
      clear HB CB VA VT TR D FB NB
      generalize (w11.setCell ⟨R, p, none⟩ (.int .u8 y.toNat)).drew = wz at CBz HBz VAz hR2 ⊢
      have CB := CBz
      have HB := HBz
      have VA := VAz
      clear CBz HBz VAz
      have hlu : (l.set p y).length = l.length := List.length_set
      have hcb := fun cap => row_text hR2.out cap
      rw [hlu] at hcb
      have hlu2 : (l.set p y).length ≤ 4294967296 := by rw [hlu]; exact hl2
      rw [← HX.out, ← HY.out] at HSP
      obtain ⟨u, hu⟩ : ∃ u, l.set p y = u := ⟨_, rfl⟩
      rw [hu] at hcb hlu2 HSP
      clear hu hlu
      obtain ⟨⟨CBc0, CBc1, CBc2⟩, ⟨CBf0, CBf1, CBf2⟩⟩ := blk3 CB.out
      go_wp2_with fail
      clear CBc0 CBc1 CBc2 CBf0 CBf1 CBf2
      refine (clread_any VA.out hsA hlA n o u hlu2 HSP).mono ?_
      rintro e w12 ⟨uK, rfl, hK2, b12⟩
      replace CB := Lib.hid (upQ CB.out b12)
      replace VA := Lib.hid (Tab.later VA.out b12)
      replace HB := Lib.hid (below2Z HB.out b12)
      replace hK2 := RT.tab hK2 VA.out
      obtain ⟨ya, yc, rfl, -⟩ := hK2.open'
      have TK := Lib.hid hK2
      clear hK2
      clear b12
      go_upto_region 14 with fail
      have b13 := bl_newZ w12 (.cells #[.slice ya t.length yc, .int .i64 n, .bool o] 27)
      have E := newQ w12 (.cells #[.slice ya t.length yc, .int .i64 n, .bool o] 27)
      have hE : w.heap.size ≤ w12.heap.size := HB.out.size
      replace CB := Lib.hid (upQ CB.out b13)
      replace VA := Lib.hid (Tab.later VA.out b13)
      replace TK := Lib.hid (Tab.later TK.out b13)
      replace HB := Lib.hid (below2Z HB.out b13)
      clear b13
      replace E := Lib.hid E
      generalize w12.alloc (.cells #[.slice ya t.length yc, .int .i64 n, .bool o] 27) = w14 at CB E VA TK HB ⊢
      generalize w12.heap.size = BE at E hE ⊢
      obtain ⟨⟨Ec0, Ec1, Ec2⟩, ⟨Ef0, Ef1, Ef2⟩⟩ := blk3 E.out
      obtain ⟨⟨CBc0, CBc1, CBc2⟩, ⟨CBf0, CBf1, CBf2⟩⟩ := blk3 CB.out
      go_wp2_with fail
      clear Ec0 Ec1 Ec2 Ef0 Ef1 Ef2 CBc0 CBc1 CBc2 CBf0 CBf1 CBf2
      refine (rclsame_eq TK.out VA.out n n o o (Lib.hid (clSame_self _))).mono ?_
      rintro e w15 ⟨rfl, b15⟩
      replace CB := Lib.hid (upQ CB.out b15)
      replace E := Lib.hid (upQ E.out b15)
      replace VA := Lib.hid (Tab.later VA.out b15)
      replace TK := Lib.hid (Tab.later TK.out b15)
      replace HB := Lib.hid (below2Z HB.out b15)
      clear b15
      go_wp2_with fail
      refine (live19 _).mono ?_
      rintro e w16 ⟨rfl, b16⟩
      replace HB := Lib.hid (below2Z HB.out b16)
      clear b16
      go_wp2_with fail
      go_ret
      exact ⟨rfl, HB.out⟩

theorem walkClientSame {w : World} {v vt : Value} {t : List Row} {k s sh pr si : Int} {on : Bool} {c st : List UInt8} {sum : Nat} {tt : List Row} (hv : Tab w v t) (n : Int) (o : Bool) (hvt : Tab w vt tt) (hM : c.length ≤ maxLen ∧ st.length ≤ maxLen ∧ sum < 18446744073709551616 ∧ (Lit.int .i64 k).wf = true) (zs : List Int) (hz : zs.length = 2 ∧ ∀ z ∈ zs, (Lit.int .i64 z).wf = true) :
    Calls Try.prog 5 #[.agg #[v, .int .i64 n, .bool o], .agg #[.int .i64 k, .int .i64 s, .bool on, .string ⟨c.toArray⟩, .int .i64 sh, .int .i64 pr, .int .i64 si, .string ⟨st.toArray⟩, .int .u64 sum, vt], .agg (zs.map (Value.int .i64)).toArray] w fun e w' => e = .returned (.bool true) ∧ Below w.heap.size w w' := by
  obtain ⟨n0, n1, rfl⟩ : ∃ a b, zs = [a, b] := by
    match zs, hz with
    | [a, b], _ => exact ⟨a, b, rfl⟩
  show Calls Try.prog 5 #[.agg #[v, .int .i64 n, .bool o], .agg #[.int .i64 k, .int .i64 s, .bool on, .string ⟨c.toArray⟩, .int .i64 sh, .int .i64 pr, .int .i64 si, .string ⟨st.toArray⟩, .int .u64 sum, vt], .agg #[.int .i64 n0, .int .i64 n1]] w _
  cases h1 : fewT t with
  | false => exact csm_1 hv n o hvt hM n0 n1 (Lib.hid h1)
  | true =>
  cases h3 : fewF ⟨k, s, on, c, ⟨sh, pr, si, st⟩, sum, tt⟩ with
  | false => exact csm_2 hv n o hvt hM n0 n1 (Lib.hid h1) (Lib.hid h3)
  | true =>
  cases hm : frMay ⟨k, s, on, c, ⟨sh, pr, si, st⟩, sum, tt⟩ with
  | false =>
    have hk : clFeed ⟨t, n, o⟩ ⟨k, s, on, c, ⟨sh, pr, si, st⟩, sum, tt⟩ = ⟨t, n, o⟩ := by
      unfold clFeed
      rw [if_neg]
      unfold clTakes
      rw [hm]
      simp
    exact csm_3 hv n o hvt hM n0 n1 (Lib.hid h1) (Lib.hid h3) (Lib.hid (enc_notP hm)) (Lib.hid hk)
  | true =>
    obtain ⟨⟨t2, n2, o2⟩, hf⟩ : ∃ zz, clFeed ⟨t, n, o⟩ ⟨k, s, on, c, ⟨sh, pr, si, st⟩, sum, tt⟩ = zz := ⟨_, rfl⟩
    have hd := (frDec_plain hm hM.2.2.1 rfl).1
    have hr := clRead_ok (c := ⟨t, n, o⟩) hd
    rw [hf] at hr
    exact csm_4 hv n o hvt hM n0 n1 (Lib.hid h1) (Lib.hid h3) (Lib.hid (enc_lenP hm).2) (Lib.hid (enc_mayP hm)) (Lib.hid hf) (Lib.hid hr) (Lib.hid fun p m hp h0 => spoil_decC hp h0 _)

end Go.Proofs.Ytekkofldhhdpgaa

end

section

/-
  THE FRAME OF THE PROOF OF ClientSame: for every input the law returns true, and each argument reads behind the call as it read before. No condition.
-/
namespace Go.Proofs.Ytekkofldhhdpgaa.clientSame
open Go.ChangeShapes Go.WideShapes Go.ChangeAt Go.RowKit
open Go.ChangeMaps (open_string shut_string)
set_option linter.unusedVariables false

theorem own : ownKnob Try.prog.godebug = none := by kernel_rfl
theorem laidOut : laidOutB Try.prog = true := by kernel_rfl

set_option maxRecDepth 100000 in
theorem lifted (os : Os) (started : os.Started) (H : Type) (enc : TypeId × Value → H) :
    ReturnsInHanded {} Try.checked os 5 .any (Rows.clientSameSpec.pre6 enc Try.prog Try.f5 Rows.clientSameRow.domain false) (Rows.clientSameSpec.post enc Try.prog Try.f5 false true false false) := by
  refine returnsInHanded_of_change (C := Try.checked) own started (by kernel_rfl) Try.func5
    (ChangeSpec.witness6 (enc := enc) (C := Try.checked) false ⟨#[], #[.agg #[.slice none 0 0, .int .i64 0, .bool false], .agg #[.int .i64 0, .int .i64 0, .bool false, .string ByteArray.empty, .int .i64 0, .int .i64 0, .int .i64 0, .string ByteArray.empty, .int .u64 0, .slice none 0 0], .agg #[.int .i64 0, .int .i64 0]], []⟩ 8 (by kernel_rfl) (by kernel_rfl) (by kernel_rfl) (by kernel_rfl)) ?_
  intro W base args ds gs before hval0 hW hcnd _
  have hval : ∀ (j : Nat) t v, Try.f5.params[j]? = some t → args[j]? = some v → Value.okWide Try.prog W .any base t v := hval0
  have hW' := hW
  obtain ⟨p, q, hA0, hV, rfl, hfz, hnd⟩ := hW
  have hA : DataW.TrodAll enc Try.prog W 0 (fun _ => true) true Try.f5.params.toList args.toList ds p := hA0
  rw [Try.params5] at hA hval
  obtain ⟨v0, vs0, d0, ds0, p0, q0, hargs, rfl, rfl, h0, r0⟩ := trodAll_cons hA
  obtain ⟨v1, vs1, d1, ds1, p1, q1, rfl, rfl, rfl, h1, r1⟩ := trodAll_cons r0
  obtain ⟨v2, vs2, d2, ds2, p2, q2, rfl, rfl, rfl, h2, r2⟩ := trodAll_cons r1
  obtain ⟨rfl, rfl, rfl⟩ := trodAll_nil r2
  obtain rfl : args = #[v0, v1, v2] := by cases args; simp_all
  obtain ⟨rfl, rfl⟩ := trodVars_none hV
  have k0 := h0
  have lt0 : ∀ x ∈ p0, x.block < W.heap.size := by obtain ⟨m, hm⟩ := k0; exact DataW.trod_lt m _ _ _ hm
  obtain ⟨t0, n0, o0, u0, rfl, w0⟩ := open_cli (hval 0 27 v0 rfl rfl) h0
  have k1 := h1
  have lt1 : ∀ x ∈ p1, x.block < W.heap.size := by obtain ⟨m, hm⟩ := k1; exact DataW.trod_lt m _ _ _ hm
  obtain ⟨f1, t1, rfl, c1, w1⟩ := open_framew (hval 1 34 v1 rfl rfl) h1
  have k2 := h2
  have lt2 : ∀ x ∈ p2, x.block < W.heap.size := by obtain ⟨m, hm⟩ := k2; exact DataW.trod_lt m _ _ _ hm
  obtain ⟨z2, rfl, w2⟩ := open_ints_array Try.underlying51 Try.underlying3 (by kernel_rfl) (by kernel_rfl) (hval 2 51 v2 rfl rfl) h2
  clear hA0 hval0
  refine (walkClientSame (w := W) w0 n0 o0 w1 c1 z2 w2).mono fun e W' ⟨he, bel⟩ => ?_
  subst he
  exact ⟨_, rfl, _, _, _, [], _, [], hW', trodAll_mk1 (shut_bool Try.underlying4 _), (trodAll_cons_mk (Below.trod laidOut (by kernel_rfl) (of_decide_eq_true (by kernel_rfl)) k0 bel lt0) (trodAll_cons_mk (Below.trod laidOut (by kernel_rfl) (of_decide_eq_true (by kernel_rfl)) k1 bel lt1) (trodAll_cons_mk (Below.trod laidOut (by kernel_rfl) (of_decide_eq_true (by kernel_rfl)) k2 bel lt2) trodAll_mk0))), rfl, bel.frame _, fun h => by cases h⟩

theorem over : Rows.clientSameRow.holds Try.pinned (OpenSpec.ofChange Rows.clientSameSpec) :=
  OpenClaim.holds_of_wide 5 Try.f5 rfl rfl rfl rfl rfl rfl rfl ⟨rfl, rfl, rfl, rfl, rfl⟩ rfl rfl rfl rfl rfl (by kernel_rfl) Try.func5 (by kernel_rfl)
    (of_decide_eq_true (by kernel_rfl)) (by unfold Func.isWrapper; first | (rw [if_pos (by decide +kernel)]; kernel_rfl) | (rw [if_neg (by decide +kernel)]; exact ⟨rfl, rfl⟩))
    (fun os started H enc _ => lifted os started H enc)

/-- THE STATEMENT. -/
theorem proved : Rows.ClientSameSaid := over
#print axioms proved
end Go.Proofs.Ytekkofldhhdpgaa.clientSame

end
