/-
  TEXTS OF THE PROOF, one behind the other: LnkEmit, PacRef, LnkRef, LnkW.
-/
import Derived.Test.YtndicdomdndjaaaGreatL06
import Derived.Test.YtndicdomdndjaaaGreatL07
import Derived.Test.YtndicdomdndjaaaGreatL05
import Derived.Test.YtndicdomdndjaaaGreatL02
import Derived.Deep.Cut
import Derived.Laws.StructEq

section

/-
  LAYER 18, THE CODE: Emit.
-/
namespace Go.Proofs.YtndicdomdndjaaaGreat
open Go.RowKit

set_option linter.unusedSimpArgs false
set_option linter.unusedVariables false

/-- What Emit tells. -/
def Emitted (w : World) (M : Lnk) (fs : List Frm) (e : Ending) (w' : World) : Prop :=
  ∃ u fv ps, e = .returned (.tuple #[.agg #[.int .i64 M.seq, u, .bool M.q.la, .int .i64 M.b.tok, .int .i64 M.b.at', .bool M.sn, .int .i64 M.dg], fv]) ∧ Chgs w' u M.q.l ∧ KF w w' fv ps ∧ ps.map FrS.f = fs ∧ Below w.heap.size w w'

theorem chgs_nilL (X : World) : Chgs X (.slice none 0 0) [] := ⟨none, 0, rfl, by simp, by simp, fun _ => rfl, .inl rfl⟩

theorem quOne_shortL {x : Chg} (h : quOne x = true) : x.c.length ≤ 4294967296 ∧ x.v.st.length ≤ 4294967296 := by
  unfold quOne at h
  rw [Bool.and_eq_true] at h
  have h1 := (idIs_parts h.1).2.1
  have h2 := h.2
  split at h2
  · unfold vaMay stOk at h2
    simp only [Bool.and_eq_true, decide_eq_true_eq] at h2
    have h3 := h2.2.1
    omega
  · unfold vSame Val.zero at h2
    simp only [Bool.and_eq_true, beq_iff_eq] at h2
    have h3 : x.v.st = [] := h2.2.2.2
    rw [h3]
    simp
    omega

theorem lnMay_short {c : Cfg} {l : Lnk} (h : lnMay c l = true) : ShortC l.q.l ∧ l.q.l.length ≤ 16 ∧ 0 ≤ l.seq ∧ l.seq ≤ 1099511627776 ∧ 0 ≤ l.dg ∧ l.dg ≤ 1099511627776 := by
  obtain ⟨h1, h2, h3, h4, h5, h6, h7⟩ := lnMay_iff.1 h
  obtain ⟨m1, m2, m3, m4⟩ := quMay_iff.1 h4
  obtain ⟨d1, d2⟩ := pcTime_iff.1 h6
  have hr := (pcMay_iff.1 (pcOne_iff.1 h1).1).2.1
  exact ⟨fun x hx => quOne_shortL (m3 x hx), by omega, h2, h3, d1, d2⟩

set_option maxHeartbeats 6400000 in
set_option maxRecDepth 100000 in
theorem lemit_r1 {w : World} {v vt : Value} {ql : List Chg} {view : List Row} (hv : Chgs w v ql) (ht : Tab w vt view) (hs : ShortC ql) (hl : ql.length ≤ 100) (hsh : Short view) (ca cb cd ce seq tok at' dg now : Int) (la sn : Bool) (h1 : Hid (lnMay ⟨ca, cb, cd, ce⟩ ⟨seq, ⟨ql, la⟩, ⟨tok, at'⟩, sn, dg⟩ = false)) :
    Calls Tryz.prog 23 #[.agg #[.int .i64 ca, .int .i64 cb, .int .i64 cd, .int .i64 ce], .agg #[.int .i64 seq, v, .bool la, .int .i64 tok, .int .i64 at', .bool sn, .int .i64 dg], vt, .int .i64 now] w (Emitted w ⟨seq, ⟨ql, la⟩, ⟨tok, at'⟩, sn, dg⟩ []) := by
  obtain ⟨qn, hqn⟩ : ∃ n, ql.length = n := ⟨_, rfl⟩
  obtain ⟨ao, cap, rfl⟩ := chgs_shape hv hqn
  have b0 := bl_newZ w (.cells #[.int .i64 ca, .int .i64 cb, .int .i64 cd, .int .i64 ce] 23)
  have b1 := bl_newZ (w.alloc (.cells #[.int .i64 ca, .int .i64 cb, .int .i64 cd, .int .i64 ce] 23)) (.cells #[.int .i64 seq, .slice ao qn cap, .bool la, .int .i64 tok, .int .i64 at', .bool sn, .int .i64 dg] 30)
  have b2 := bl_newZ ((w.alloc (.cells #[.int .i64 ca, .int .i64 cb, .int .i64 cd, .int .i64 ce] 23)).alloc (.cells #[.int .i64 seq, .slice ao qn cap, .bool la, .int .i64 tok, .int .i64 at', .bool sn, .int .i64 dg] 30)) (.cells #[.int .i64 0, .slice none 0 0, .bool false, .int .i64 0, .int .i64 0, .bool false, .int .i64 0] 30)
  have HB := Lib.hid (below2Z (below2Z b0 b1) b2)
  have V := Lib.hid (((hv.later b0).later b1).later b2)
  have T := Lib.hid (((ht.later b0).later b1).later b2)
  have CB := newQ w (.cells #[.int .i64 ca, .int .i64 cb, .int .i64 cd, .int .i64 ce] 23)
  replace CB := upQ CB b1
  replace CB := upQ CB b2
  replace CB := Lib.hid CB
  have LB := newQ (w.alloc (.cells #[.int .i64 ca, .int .i64 cb, .int .i64 cd, .int .i64 ce] 23)) (.cells #[.int .i64 seq, .slice ao qn cap, .bool la, .int .i64 tok, .int .i64 at', .bool sn, .int .i64 dg] 30)
  rw [World.size_alloc] at LB
  replace LB := upQ LB b2
  replace LB := Lib.hid LB
  have RB := newQ ((w.alloc (.cells #[.int .i64 ca, .int .i64 cb, .int .i64 cd, .int .i64 ce] 23)).alloc (.cells #[.int .i64 seq, .slice ao qn cap, .bool la, .int .i64 tok, .int .i64 at', .bool sn, .int .i64 dg] 30)) (.cells #[.int .i64 0, .slice none 0 0, .bool false, .int .i64 0, .int .i64 0, .bool false, .int .i64 0] 30)
  rw [World.size_alloc, World.size_alloc] at RB
  replace RB := Lib.hid RB
  clear b0 b1 b2
  have hle1 : w.heap.size ≤ w.heap.size + 1 := Nat.le_succ _
  have hle2 : w.heap.size ≤ w.heap.size + 1 + 1 := by omega
  have KQ0 : Hid (KQ w (((w.alloc (.cells #[.int .i64 ca, .int .i64 cb, .int .i64 cd, .int .i64 ce] 23)).alloc (.cells #[.int .i64 seq, .slice ao qn cap, .bool la, .int .i64 tok, .int .i64 at', .bool sn, .int .i64 dg] 30)).alloc (.cells #[.int .i64 0, .slice none 0 0, .bool false, .int .i64 0, .int .i64 0, .bool false, .int .i64 0] 30)) (.slice ao qn cap) ql) := Lib.hid (.inl (fun X hX => hv.later hX))
  have HS := Lib.hid hs
  have HH := Lib.hid hsh
  clear hs hsh
  obtain ⟨⟨CBc0, CBc1, CBc2, CBc3⟩, ⟨CBf0, CBf1, CBf2, CBf3⟩⟩ := blk4 CB.out
  obtain ⟨⟨LBc0, LBc1, LBc2, LBc3, LBc4, LBc5, LBc6⟩, ⟨LBf0, LBf1, LBf2, LBf3, LBf4, LBf5, LBf6⟩⟩ := blk7 LB.out
  go_enter Tryz.func23, Tryz.ntmps23
  go_wp2_with fail
  clear CBc0 CBc1 CBc2 CBc3 CBf0 CBf1 CBf2 CBf3 LBc0 LBc1 LBc2 LBc3 LBc4 LBc5 LBc6 LBf0 LBf1 LBf2 LBf3 LBf4 LBf5 LBf6
  refine (lmay_any V.out HS.out hl la sn seq tok at' dg ca cb cd ce h1).mono ?_
  rintro e w4 ⟨rfl, b4⟩
  replace CB := Lib.hid (upQ CB.out b4)
  replace LB := Lib.hid (upQ LB.out b4)
  replace RB := Lib.hid (upQ RB.out b4)
  replace V := Lib.hid (V.out.later b4)
  replace T := Lib.hid (T.out.later b4)
  replace KQ0 := Lib.hid (KQ.later KQ0.out b4)
  replace HB := Lib.hid (below2Z HB.out b4)
  clear b4
  obtain ⟨⟨LBc0, LBc1, LBc2, LBc3, LBc4, LBc5, LBc6⟩, ⟨LBf0, LBf1, LBf2, LBf3, LBf4, LBf5, LBf6⟩⟩ := blk7 LB.out
  obtain ⟨⟨RBc0, RBc1, RBc2, RBc3, RBc4, RBc5, RBc6⟩, ⟨RBf0, RBf1, RBf2, RBf3, RBf4, RBf5, RBf6⟩⟩ := blk7 RB.out
  go_wp2_with fail
  have hz := stN7_heap RB.out (.int .i64 seq) (.slice ao qn cap) (.bool la) (.int .i64 tok) (.int .i64 at') (.bool sn) (.int .i64 dg)
  have KQz := KQ0.out.past RB.out (by decide) (fun k hk => stN7_far w4 (w.heap.size + 1 + 1) (.int .i64 seq) (.slice ao qn cap) (.bool la) (.int .i64 tok) (.int .i64 at') (.bool sn) (.int .i64 dg) hk)
  have KFz := kf_nil w (stN7 w4 (w.heap.size + 1 + 1) (.int .i64 seq) (.slice ao qn cap) (.bool la) (.int .i64 tok) (.int .i64 at') (.bool sn) (.int .i64 dg))
  have HBz := stN7_below HB.out hle2 (.int .i64 seq) (.slice ao qn cap) (.bool la) (.int .i64 tok) (.int .i64 at') (.bool sn) (.int .i64 dg)
  obtain ⟨⟨z0, z1, z2, z3, z4, z5, z6⟩, -⟩ := blk7 hz
  unfold stN7 at z0 z1 z2 z3 z4 z5 z6
  refine bodyPost_ret (v := .tuple #[.agg #[.int .i64 seq, .slice ao qn cap, .bool la, .int .i64 tok, .int .i64 at', .bool sn, .int .i64 dg], .slice none 0 0]) (by simp [results, Tryz.results23, go_sem, z0, z1, z2, z3, z4, z5, z6]) rfl ⟨_, _, [], rfl, KQz.chgs HBz, KFz, rfl, HBz⟩

set_option maxHeartbeats 6400000 in
set_option maxRecDepth 100000 in
theorem lemit_r2 {w : World} {v vt : Value} {ql : List Chg} {view : List Row} (hv : Chgs w v ql) (ht : Tab w vt view) (hs : ShortC ql) (hl : ql.length ≤ 100) (hsh : Short view) (ca cb cd ce seq tok at' dg now : Int) (la sn : Bool) (h1 : Hid (lnMay ⟨ca, cb, cd, ce⟩ ⟨seq, ⟨ql, la⟩, ⟨tok, at'⟩, sn, dg⟩ = true)) (h2 : Hid (diMay view = false)) :
    Calls Tryz.prog 23 #[.agg #[.int .i64 ca, .int .i64 cb, .int .i64 cd, .int .i64 ce], .agg #[.int .i64 seq, v, .bool la, .int .i64 tok, .int .i64 at', .bool sn, .int .i64 dg], vt, .int .i64 now] w (Emitted w ⟨seq, ⟨ql, la⟩, ⟨tok, at'⟩, sn, dg⟩ []) := by
  obtain ⟨qn, hqn⟩ : ∃ n, ql.length = n := ⟨_, rfl⟩
  obtain ⟨ao, cap, rfl⟩ := chgs_shape hv hqn
  have b0 := bl_newZ w (.cells #[.int .i64 ca, .int .i64 cb, .int .i64 cd, .int .i64 ce] 23)
  have b1 := bl_newZ (w.alloc (.cells #[.int .i64 ca, .int .i64 cb, .int .i64 cd, .int .i64 ce] 23)) (.cells #[.int .i64 seq, .slice ao qn cap, .bool la, .int .i64 tok, .int .i64 at', .bool sn, .int .i64 dg] 30)
  have b2 := bl_newZ ((w.alloc (.cells #[.int .i64 ca, .int .i64 cb, .int .i64 cd, .int .i64 ce] 23)).alloc (.cells #[.int .i64 seq, .slice ao qn cap, .bool la, .int .i64 tok, .int .i64 at', .bool sn, .int .i64 dg] 30)) (.cells #[.int .i64 0, .slice none 0 0, .bool false, .int .i64 0, .int .i64 0, .bool false, .int .i64 0] 30)
  have HB := Lib.hid (below2Z (below2Z b0 b1) b2)
  have V := Lib.hid (((hv.later b0).later b1).later b2)
  have T := Lib.hid (((ht.later b0).later b1).later b2)
  have CB := newQ w (.cells #[.int .i64 ca, .int .i64 cb, .int .i64 cd, .int .i64 ce] 23)
  replace CB := upQ CB b1
  replace CB := upQ CB b2
  replace CB := Lib.hid CB
  have LB := newQ (w.alloc (.cells #[.int .i64 ca, .int .i64 cb, .int .i64 cd, .int .i64 ce] 23)) (.cells #[.int .i64 seq, .slice ao qn cap, .bool la, .int .i64 tok, .int .i64 at', .bool sn, .int .i64 dg] 30)
  rw [World.size_alloc] at LB
  replace LB := upQ LB b2
  replace LB := Lib.hid LB
  have RB := newQ ((w.alloc (.cells #[.int .i64 ca, .int .i64 cb, .int .i64 cd, .int .i64 ce] 23)).alloc (.cells #[.int .i64 seq, .slice ao qn cap, .bool la, .int .i64 tok, .int .i64 at', .bool sn, .int .i64 dg] 30)) (.cells #[.int .i64 0, .slice none 0 0, .bool false, .int .i64 0, .int .i64 0, .bool false, .int .i64 0] 30)
  rw [World.size_alloc, World.size_alloc] at RB
  replace RB := Lib.hid RB
  clear b0 b1 b2
  have hle1 : w.heap.size ≤ w.heap.size + 1 := Nat.le_succ _
  have hle2 : w.heap.size ≤ w.heap.size + 1 + 1 := by omega
  have KQ0 : Hid (KQ w (((w.alloc (.cells #[.int .i64 ca, .int .i64 cb, .int .i64 cd, .int .i64 ce] 23)).alloc (.cells #[.int .i64 seq, .slice ao qn cap, .bool la, .int .i64 tok, .int .i64 at', .bool sn, .int .i64 dg] 30)).alloc (.cells #[.int .i64 0, .slice none 0 0, .bool false, .int .i64 0, .int .i64 0, .bool false, .int .i64 0] 30)) (.slice ao qn cap) ql) := Lib.hid (.inl (fun X hX => hv.later hX))
  have HS := Lib.hid hs
  have HH := Lib.hid hsh
  clear hs hsh
  obtain ⟨⟨CBc0, CBc1, CBc2, CBc3⟩, ⟨CBf0, CBf1, CBf2, CBf3⟩⟩ := blk4 CB.out
  obtain ⟨⟨LBc0, LBc1, LBc2, LBc3, LBc4, LBc5, LBc6⟩, ⟨LBf0, LBf1, LBf2, LBf3, LBf4, LBf5, LBf6⟩⟩ := blk7 LB.out
  go_enter Tryz.func23, Tryz.ntmps23
  go_wp2_with fail
  clear CBc0 CBc1 CBc2 CBc3 CBf0 CBf1 CBf2 CBf3 LBc0 LBc1 LBc2 LBc3 LBc4 LBc5 LBc6 LBf0 LBf1 LBf2 LBf3 LBf4 LBf5 LBf6
  refine (lmay_any V.out HS.out hl la sn seq tok at' dg ca cb cd ce h1).mono ?_
  rintro e w4 ⟨rfl, b4⟩
  replace CB := Lib.hid (upQ CB.out b4)
  replace LB := Lib.hid (upQ LB.out b4)
  replace RB := Lib.hid (upQ RB.out b4)
  replace V := Lib.hid (V.out.later b4)
  replace T := Lib.hid (T.out.later b4)
  replace KQ0 := Lib.hid (KQ.later KQ0.out b4)
  replace HB := Lib.hid (below2Z HB.out b4)
  clear b4
  obtain ⟨⟨CBc0, CBc1, CBc2, CBc3⟩, ⟨CBf0, CBf1, CBf2, CBf3⟩⟩ := blk4 CB.out
  obtain ⟨⟨LBc0, LBc1, LBc2, LBc3, LBc4, LBc5, LBc6⟩, ⟨LBf0, LBf1, LBf2, LBf3, LBf4, LBf5, LBf6⟩⟩ := blk7 LB.out
  go_wp2_with fail
  clear CBc0 CBc1 CBc2 CBc3 CBf0 CBf1 CBf2 CBf3 LBc0 LBc1 LBc2 LBc3 LBc4 LBc5 LBc6 LBf0 LBf1 LBf2 LBf3 LBf4 LBf5 LBf6
  refine (dimay_eq T.out HH.out h2).mono ?_
  rintro e w5 ⟨rfl, b5⟩
  replace CB := Lib.hid (upQ CB.out b5)
  replace LB := Lib.hid (upQ LB.out b5)
  replace RB := Lib.hid (upQ RB.out b5)
  replace V := Lib.hid (V.out.later b5)
  replace T := Lib.hid (T.out.later b5)
  replace KQ0 := Lib.hid (KQ.later KQ0.out b5)
  replace HB := Lib.hid (below2Z HB.out b5)
  clear b5
  obtain ⟨⟨LBc0, LBc1, LBc2, LBc3, LBc4, LBc5, LBc6⟩, ⟨LBf0, LBf1, LBf2, LBf3, LBf4, LBf5, LBf6⟩⟩ := blk7 LB.out
  obtain ⟨⟨RBc0, RBc1, RBc2, RBc3, RBc4, RBc5, RBc6⟩, ⟨RBf0, RBf1, RBf2, RBf3, RBf4, RBf5, RBf6⟩⟩ := blk7 RB.out
  go_wp2_with fail
  have hz := stN7_heap RB.out (.int .i64 seq) (.slice ao qn cap) (.bool la) (.int .i64 tok) (.int .i64 at') (.bool sn) (.int .i64 dg)
  have KQz := KQ0.out.past RB.out (by decide) (fun k hk => stN7_far w5 (w.heap.size + 1 + 1) (.int .i64 seq) (.slice ao qn cap) (.bool la) (.int .i64 tok) (.int .i64 at') (.bool sn) (.int .i64 dg) hk)
  have KFz := kf_nil w (stN7 w5 (w.heap.size + 1 + 1) (.int .i64 seq) (.slice ao qn cap) (.bool la) (.int .i64 tok) (.int .i64 at') (.bool sn) (.int .i64 dg))
  have HBz := stN7_below HB.out hle2 (.int .i64 seq) (.slice ao qn cap) (.bool la) (.int .i64 tok) (.int .i64 at') (.bool sn) (.int .i64 dg)
  obtain ⟨⟨z0, z1, z2, z3, z4, z5, z6⟩, -⟩ := blk7 hz
  unfold stN7 at z0 z1 z2 z3 z4 z5 z6
  refine bodyPost_ret (v := .tuple #[.agg #[.int .i64 seq, .slice ao qn cap, .bool la, .int .i64 tok, .int .i64 at', .bool sn, .int .i64 dg], .slice none 0 0]) (by simp [results, Tryz.results23, go_sem, z0, z1, z2, z3, z4, z5, z6]) rfl ⟨_, _, [], rfl, KQz.chgs HBz, KFz, rfl, HBz⟩

set_option maxHeartbeats 6400000 in
set_option maxRecDepth 100000 in
theorem lemit_r3 {w : World} {v vt : Value} {ql : List Chg} {view : List Row} (hv : Chgs w v ql) (ht : Tab w vt view) (hs : ShortC ql) (hl : ql.length ≤ 100) (hsh : Short view) (ca cb cd ce seq tok at' dg now : Int) (la sn : Bool) (h1 : Hid (lnMay ⟨ca, cb, cd, ce⟩ ⟨seq, ⟨ql, la⟩, ⟨tok, at'⟩, sn, dg⟩ = true)) (h2 : Hid (diMay view = true)) (h3 : Hid (pcTime now = false)) :
    Calls Tryz.prog 23 #[.agg #[.int .i64 ca, .int .i64 cb, .int .i64 cd, .int .i64 ce], .agg #[.int .i64 seq, v, .bool la, .int .i64 tok, .int .i64 at', .bool sn, .int .i64 dg], vt, .int .i64 now] w (Emitted w ⟨seq, ⟨ql, la⟩, ⟨tok, at'⟩, sn, dg⟩ []) := by
  obtain ⟨qn, hqn⟩ : ∃ n, ql.length = n := ⟨_, rfl⟩
  obtain ⟨ao, cap, rfl⟩ := chgs_shape hv hqn
  have b0 := bl_newZ w (.cells #[.int .i64 ca, .int .i64 cb, .int .i64 cd, .int .i64 ce] 23)
  have b1 := bl_newZ (w.alloc (.cells #[.int .i64 ca, .int .i64 cb, .int .i64 cd, .int .i64 ce] 23)) (.cells #[.int .i64 seq, .slice ao qn cap, .bool la, .int .i64 tok, .int .i64 at', .bool sn, .int .i64 dg] 30)
  have b2 := bl_newZ ((w.alloc (.cells #[.int .i64 ca, .int .i64 cb, .int .i64 cd, .int .i64 ce] 23)).alloc (.cells #[.int .i64 seq, .slice ao qn cap, .bool la, .int .i64 tok, .int .i64 at', .bool sn, .int .i64 dg] 30)) (.cells #[.int .i64 0, .slice none 0 0, .bool false, .int .i64 0, .int .i64 0, .bool false, .int .i64 0] 30)
  have HB := Lib.hid (below2Z (below2Z b0 b1) b2)
  have V := Lib.hid (((hv.later b0).later b1).later b2)
  have T := Lib.hid (((ht.later b0).later b1).later b2)
  have CB := newQ w (.cells #[.int .i64 ca, .int .i64 cb, .int .i64 cd, .int .i64 ce] 23)
  replace CB := upQ CB b1
  replace CB := upQ CB b2
  replace CB := Lib.hid CB
  have LB := newQ (w.alloc (.cells #[.int .i64 ca, .int .i64 cb, .int .i64 cd, .int .i64 ce] 23)) (.cells #[.int .i64 seq, .slice ao qn cap, .bool la, .int .i64 tok, .int .i64 at', .bool sn, .int .i64 dg] 30)
  rw [World.size_alloc] at LB
  replace LB := upQ LB b2
  replace LB := Lib.hid LB
  have RB := newQ ((w.alloc (.cells #[.int .i64 ca, .int .i64 cb, .int .i64 cd, .int .i64 ce] 23)).alloc (.cells #[.int .i64 seq, .slice ao qn cap, .bool la, .int .i64 tok, .int .i64 at', .bool sn, .int .i64 dg] 30)) (.cells #[.int .i64 0, .slice none 0 0, .bool false, .int .i64 0, .int .i64 0, .bool false, .int .i64 0] 30)
  rw [World.size_alloc, World.size_alloc] at RB
  replace RB := Lib.hid RB
  clear b0 b1 b2
  have hle1 : w.heap.size ≤ w.heap.size + 1 := Nat.le_succ _
  have hle2 : w.heap.size ≤ w.heap.size + 1 + 1 := by omega
  have KQ0 : Hid (KQ w (((w.alloc (.cells #[.int .i64 ca, .int .i64 cb, .int .i64 cd, .int .i64 ce] 23)).alloc (.cells #[.int .i64 seq, .slice ao qn cap, .bool la, .int .i64 tok, .int .i64 at', .bool sn, .int .i64 dg] 30)).alloc (.cells #[.int .i64 0, .slice none 0 0, .bool false, .int .i64 0, .int .i64 0, .bool false, .int .i64 0] 30)) (.slice ao qn cap) ql) := Lib.hid (.inl (fun X hX => hv.later hX))
  have HS := Lib.hid hs
  have HH := Lib.hid hsh
  clear hs hsh
  obtain ⟨⟨CBc0, CBc1, CBc2, CBc3⟩, ⟨CBf0, CBf1, CBf2, CBf3⟩⟩ := blk4 CB.out
  obtain ⟨⟨LBc0, LBc1, LBc2, LBc3, LBc4, LBc5, LBc6⟩, ⟨LBf0, LBf1, LBf2, LBf3, LBf4, LBf5, LBf6⟩⟩ := blk7 LB.out
  go_enter Tryz.func23, Tryz.ntmps23
  go_wp2_with fail
  clear CBc0 CBc1 CBc2 CBc3 CBf0 CBf1 CBf2 CBf3 LBc0 LBc1 LBc2 LBc3 LBc4 LBc5 LBc6 LBf0 LBf1 LBf2 LBf3 LBf4 LBf5 LBf6
  refine (lmay_any V.out HS.out hl la sn seq tok at' dg ca cb cd ce h1).mono ?_
  rintro e w4 ⟨rfl, b4⟩
  replace CB := Lib.hid (upQ CB.out b4)
  replace LB := Lib.hid (upQ LB.out b4)
  replace RB := Lib.hid (upQ RB.out b4)
  replace V := Lib.hid (V.out.later b4)
  replace T := Lib.hid (T.out.later b4)
  replace KQ0 := Lib.hid (KQ.later KQ0.out b4)
  replace HB := Lib.hid (below2Z HB.out b4)
  clear b4
  obtain ⟨⟨CBc0, CBc1, CBc2, CBc3⟩, ⟨CBf0, CBf1, CBf2, CBf3⟩⟩ := blk4 CB.out
  obtain ⟨⟨LBc0, LBc1, LBc2, LBc3, LBc4, LBc5, LBc6⟩, ⟨LBf0, LBf1, LBf2, LBf3, LBf4, LBf5, LBf6⟩⟩ := blk7 LB.out
  go_wp2_with fail
  clear CBc0 CBc1 CBc2 CBc3 CBf0 CBf1 CBf2 CBf3 LBc0 LBc1 LBc2 LBc3 LBc4 LBc5 LBc6 LBf0 LBf1 LBf2 LBf3 LBf4 LBf5 LBf6
  refine (dimay_eq T.out HH.out h2).mono ?_
  rintro e w5 ⟨rfl, b5⟩
  replace CB := Lib.hid (upQ CB.out b5)
  replace LB := Lib.hid (upQ LB.out b5)
  replace RB := Lib.hid (upQ RB.out b5)
  replace V := Lib.hid (V.out.later b5)
  replace T := Lib.hid (T.out.later b5)
  replace KQ0 := Lib.hid (KQ.later KQ0.out b5)
  replace HB := Lib.hid (below2Z HB.out b5)
  clear b5
  obtain ⟨⟨CBc0, CBc1, CBc2, CBc3⟩, ⟨CBf0, CBf1, CBf2, CBf3⟩⟩ := blk4 CB.out
  obtain ⟨⟨LBc0, LBc1, LBc2, LBc3, LBc4, LBc5, LBc6⟩, ⟨LBf0, LBf1, LBf2, LBf3, LBf4, LBf5, LBf6⟩⟩ := blk7 LB.out
  go_wp2_with fail
  clear CBc0 CBc1 CBc2 CBc3 CBf0 CBf1 CBf2 CBf3 LBc0 LBc1 LBc2 LBc3 LBc4 LBc5 LBc6 LBf0 LBf1 LBf2 LBf3 LBf4 LBf5 LBf6
  refine (ltick_any now h3 _).mono ?_
  rintro e w90 ⟨rfl, rfl⟩
  obtain ⟨⟨LBc0, LBc1, LBc2, LBc3, LBc4, LBc5, LBc6⟩, ⟨LBf0, LBf1, LBf2, LBf3, LBf4, LBf5, LBf6⟩⟩ := blk7 LB.out
  obtain ⟨⟨RBc0, RBc1, RBc2, RBc3, RBc4, RBc5, RBc6⟩, ⟨RBf0, RBf1, RBf2, RBf3, RBf4, RBf5, RBf6⟩⟩ := blk7 RB.out
  go_wp2_with fail
  have hz := stN7_heap RB.out (.int .i64 seq) (.slice ao qn cap) (.bool la) (.int .i64 tok) (.int .i64 at') (.bool sn) (.int .i64 dg)
  have KQz := KQ0.out.past RB.out (by decide) (fun k hk => stN7_far w5 (w.heap.size + 1 + 1) (.int .i64 seq) (.slice ao qn cap) (.bool la) (.int .i64 tok) (.int .i64 at') (.bool sn) (.int .i64 dg) hk)
  have KFz := kf_nil w (stN7 w5 (w.heap.size + 1 + 1) (.int .i64 seq) (.slice ao qn cap) (.bool la) (.int .i64 tok) (.int .i64 at') (.bool sn) (.int .i64 dg))
  have HBz := stN7_below HB.out hle2 (.int .i64 seq) (.slice ao qn cap) (.bool la) (.int .i64 tok) (.int .i64 at') (.bool sn) (.int .i64 dg)
  obtain ⟨⟨z0, z1, z2, z3, z4, z5, z6⟩, -⟩ := blk7 hz
  unfold stN7 at z0 z1 z2 z3 z4 z5 z6
  refine bodyPost_ret (v := .tuple #[.agg #[.int .i64 seq, .slice ao qn cap, .bool la, .int .i64 tok, .int .i64 at', .bool sn, .int .i64 dg], .slice none 0 0]) (by simp [results, Tryz.results23, go_sem, z0, z1, z2, z3, z4, z5, z6]) rfl ⟨_, _, [], rfl, KQz.chgs HBz, KFz, rfl, HBz⟩

set_option maxHeartbeats 6400000 in
set_option maxRecDepth 100000 in
theorem lemit_in {w : World} {v vt : Value} {ql : List Chg} {view : List Row} (hv : Chgs w v ql) (ht : Tab w vt view) (hs : ShortC ql) (hl : ql.length ≤ 100) (hsh : Short view) (ca cb cd ce seq tok at' dg now : Int) (la sn : Bool) (h1 : Hid (lnMay ⟨ca, cb, cd, ce⟩ ⟨seq, ⟨ql, la⟩, ⟨tok, at'⟩, sn, dg⟩ = true)) (h2 : Hid (diMay view = true)) (h3 : Hid (pcTime now = true)) {M : Lnk} {fs : List Frm} (hr : Hid (lnRun ⟨ca, cb, cd, ce⟩ view now 65 ⟨seq, ⟨ql, la⟩, ⟨tok, at'⟩, sn, dg⟩ = (M, fs))) :
    Calls Tryz.prog 23 #[.agg #[.int .i64 ca, .int .i64 cb, .int .i64 cd, .int .i64 ce], .agg #[.int .i64 seq, v, .bool la, .int .i64 tok, .int .i64 at', .bool sn, .int .i64 dg], vt, .int .i64 now] w (Emitted w M fs) := by
  obtain ⟨qn, hqn⟩ : ∃ n, ql.length = n := ⟨_, rfl⟩
  obtain ⟨ao, cap, rfl⟩ := chgs_shape hv hqn
  have b0 := bl_newZ w (.cells #[.int .i64 ca, .int .i64 cb, .int .i64 cd, .int .i64 ce] 23)
  have b1 := bl_newZ (w.alloc (.cells #[.int .i64 ca, .int .i64 cb, .int .i64 cd, .int .i64 ce] 23)) (.cells #[.int .i64 seq, .slice ao qn cap, .bool la, .int .i64 tok, .int .i64 at', .bool sn, .int .i64 dg] 30)
  have b2 := bl_newZ ((w.alloc (.cells #[.int .i64 ca, .int .i64 cb, .int .i64 cd, .int .i64 ce] 23)).alloc (.cells #[.int .i64 seq, .slice ao qn cap, .bool la, .int .i64 tok, .int .i64 at', .bool sn, .int .i64 dg] 30)) (.cells #[.int .i64 0, .slice none 0 0, .bool false, .int .i64 0, .int .i64 0, .bool false, .int .i64 0] 30)
  have HB := Lib.hid (below2Z (below2Z b0 b1) b2)
  have V := Lib.hid (((hv.later b0).later b1).later b2)
  have T := Lib.hid (((ht.later b0).later b1).later b2)
  have CB := newQ w (.cells #[.int .i64 ca, .int .i64 cb, .int .i64 cd, .int .i64 ce] 23)
  replace CB := upQ CB b1
  replace CB := upQ CB b2
  replace CB := Lib.hid CB
  have LB := newQ (w.alloc (.cells #[.int .i64 ca, .int .i64 cb, .int .i64 cd, .int .i64 ce] 23)) (.cells #[.int .i64 seq, .slice ao qn cap, .bool la, .int .i64 tok, .int .i64 at', .bool sn, .int .i64 dg] 30)
  rw [World.size_alloc] at LB
  replace LB := upQ LB b2
  replace LB := Lib.hid LB
  have RB := newQ ((w.alloc (.cells #[.int .i64 ca, .int .i64 cb, .int .i64 cd, .int .i64 ce] 23)).alloc (.cells #[.int .i64 seq, .slice ao qn cap, .bool la, .int .i64 tok, .int .i64 at', .bool sn, .int .i64 dg] 30)) (.cells #[.int .i64 0, .slice none 0 0, .bool false, .int .i64 0, .int .i64 0, .bool false, .int .i64 0] 30)
  rw [World.size_alloc, World.size_alloc] at RB
  replace RB := Lib.hid RB
  clear b0 b1 b2
  have hle1 : w.heap.size ≤ w.heap.size + 1 := Nat.le_succ _
  have hle2 : w.heap.size ≤ w.heap.size + 1 + 1 := by omega
  have KQ0 : Hid (KQ w (((w.alloc (.cells #[.int .i64 ca, .int .i64 cb, .int .i64 cd, .int .i64 ce] 23)).alloc (.cells #[.int .i64 seq, .slice ao qn cap, .bool la, .int .i64 tok, .int .i64 at', .bool sn, .int .i64 dg] 30)).alloc (.cells #[.int .i64 0, .slice none 0 0, .bool false, .int .i64 0, .int .i64 0, .bool false, .int .i64 0] 30)) (.slice ao qn cap) ql) := Lib.hid (.inl (fun X hX => hv.later hX))
  have HS := Lib.hid hs
  have HH := Lib.hid hsh
  obtain ⟨vn, hvn⟩ : ∃ n, view.length = n := ⟨_, rfl⟩
  have HVN := Lib.hid hvn
  obtain ⟨ta, tc, rfl⟩ := tab_shapeL ht hvn
  have HT : Hid (∀ X, Below w.heap.size w X → Tab X (.slice ta vn tc) view) := Lib.hid (fun X hX => ht.later hX)
  obtain ⟨hn0, hn1⟩ := pcTime_iff.1 h3.out
  have hvl : view.length ≤ 1000 := by have := (diMay_iff.1 h2.out).1; omega
  have HE0 := Lib.hid (emp_start (view := view) (now := now) h1.out)
  clear hs hsh hv ht hvn hqn
  obtain ⟨⟨CBc0, CBc1, CBc2, CBc3⟩, ⟨CBf0, CBf1, CBf2, CBf3⟩⟩ := blk4 CB.out
  obtain ⟨⟨LBc0, LBc1, LBc2, LBc3, LBc4, LBc5, LBc6⟩, ⟨LBf0, LBf1, LBf2, LBf3, LBf4, LBf5, LBf6⟩⟩ := blk7 LB.out
  go_enter Tryz.func23, Tryz.ntmps23
  go_wp2_with fail
  clear CBc0 CBc1 CBc2 CBc3 CBf0 CBf1 CBf2 CBf3 LBc0 LBc1 LBc2 LBc3 LBc4 LBc5 LBc6 LBf0 LBf1 LBf2 LBf3 LBf4 LBf5 LBf6
  refine (lmay_any V.out HS.out hl la sn seq tok at' dg ca cb cd ce h1).mono ?_
  rintro e w4 ⟨rfl, b4⟩
  replace CB := Lib.hid (upQ CB.out b4)
  replace LB := Lib.hid (upQ LB.out b4)
  replace RB := Lib.hid (upQ RB.out b4)
  replace V := Lib.hid (V.out.later b4)
  replace T := Lib.hid (T.out.later b4)
  replace KQ0 := Lib.hid (KQ.later KQ0.out b4)
  replace HB := Lib.hid (below2Z HB.out b4)
  clear b4
  obtain ⟨⟨CBc0, CBc1, CBc2, CBc3⟩, ⟨CBf0, CBf1, CBf2, CBf3⟩⟩ := blk4 CB.out
  obtain ⟨⟨LBc0, LBc1, LBc2, LBc3, LBc4, LBc5, LBc6⟩, ⟨LBf0, LBf1, LBf2, LBf3, LBf4, LBf5, LBf6⟩⟩ := blk7 LB.out
  go_wp2_with fail
  clear CBc0 CBc1 CBc2 CBc3 CBf0 CBf1 CBf2 CBf3 LBc0 LBc1 LBc2 LBc3 LBc4 LBc5 LBc6 LBf0 LBf1 LBf2 LBf3 LBf4 LBf5 LBf6
  refine (dimay_eq T.out HH.out h2).mono ?_
  rintro e w5 ⟨rfl, b5⟩
  replace CB := Lib.hid (upQ CB.out b5)
  replace LB := Lib.hid (upQ LB.out b5)
  replace RB := Lib.hid (upQ RB.out b5)
  replace V := Lib.hid (V.out.later b5)
  replace T := Lib.hid (T.out.later b5)
  replace KQ0 := Lib.hid (KQ.later KQ0.out b5)
  replace HB := Lib.hid (below2Z HB.out b5)
  clear b5
  obtain ⟨⟨CBc0, CBc1, CBc2, CBc3⟩, ⟨CBf0, CBf1, CBf2, CBf3⟩⟩ := blk4 CB.out
  obtain ⟨⟨LBc0, LBc1, LBc2, LBc3, LBc4, LBc5, LBc6⟩, ⟨LBf0, LBf1, LBf2, LBf3, LBf4, LBf5, LBf6⟩⟩ := blk7 LB.out
  go_wp2_with fail
  clear CBc0 CBc1 CBc2 CBc3 CBf0 CBf1 CBf2 CBf3 LBc0 LBc1 LBc2 LBc3 LBc4 LBc5 LBc6 LBf0 LBf1 LBf2 LBf3 LBf4 LBf5 LBf6
  refine (ltick_any now h3 _).mono ?_
  rintro e w90 ⟨rfl, rfl⟩
  clear V
  clear T
  clear HS hl
  obtain ⟨⟨CBc0, CBc1, CBc2, CBc3⟩, ⟨CBf0, CBf1, CBf2, CBf3⟩⟩ := blk4 CB.out
  have b6 := bl_newZ w5 (.cells #[.int .i64 ca, .int .i64 cb, .int .i64 cd, .int .i64 ce, .slice ta vn tc, .int .i64 now] 77)
  have MB := newQ w5 (.cells #[.int .i64 ca, .int .i64 cb, .int .i64 cd, .int .i64 ce, .slice ta vn tc, .int .i64 now] 77)
  have hMB : w.heap.size ≤ w5.heap.size := HB.out.size
  replace CB := Lib.hid (upQ CB.out b6)
  replace LB := Lib.hid (upQ LB.out b6)
  replace RB := Lib.hid (upQ RB.out b6)
  replace KQ0 := Lib.hid (KQ.later KQ0.out b6)
  replace HB := Lib.hid (below2Z HB.out b6)
  clear b6
  replace MB := Lib.hid MB
  go_upto_region 5 with fail
  clear CBc0 CBc1 CBc2 CBc3 CBf0 CBf1 CBf2 CBf3
  generalize w5.alloc (.cells #[.int .i64 ca, .int .i64 cb, .int .i64 cd, .int .i64 ce, .slice ta vn tc, .int .i64 now] 77) = w7 at CB LB RB MB KQ0 HB ⊢
  have KF0 := Lib.hid (kf_nil w w7)
  generalize w5.heap.size = mbn at MB hMB
  obtain ⟨L0, hL0⟩ : ∃ L : Lnk, L = ⟨seq, ⟨ql, la⟩, ⟨tok, at'⟩, sn, dg⟩ := ⟨_, rfl⟩
  have HR : Hid (lnRun ⟨ca, cb, cd, ce⟩ view now 65 L0 = (M, fs)) := Lib.hid (by rw [hL0]; exact hr.out)
  have HE : Hid (EmP ⟨ca, cb, cd, ce⟩ view now L0 ⟨seq, ⟨ql, la⟩, ⟨tok, at'⟩, sn, dg⟩ 65 []) := Lib.hid (by rw [hL0]; exact HE0.out)
  clear hL0 hr HE0 h1
  go_loopw [11] (fun fr wr => ∃ (seq tok at' dg : Int) (sn la : Bool) (ql : List Chg) (qa : Option Addr) (qn qc : Nat) (ps : List FrS) (fa : Option Addr) (fc n : Nat), fr = .slice fa ps.length fc ∧ Hid (EmP ⟨ca, cb, cd, ce⟩ view now L0 ⟨seq, ⟨ql, la⟩, ⟨tok, at'⟩, sn, dg⟩ n (ps.map FrS.f)) ∧ Hid (wr.heap[w.heap.size]? = some (.cells #[.int .i64 ca, .int .i64 cb, .int .i64 cd, .int .i64 ce] 23 (0, 0))) ∧ Hid (wr.heap[w.heap.size + 1]? = some (.cells #[.int .i64 seq, .slice qa qn qc, .bool la, .int .i64 tok, .int .i64 at', .bool sn, .int .i64 dg] 30 (0, 0))) ∧ Hid (wr.heap[w.heap.size + 1 + 1]? = some (.cells #[.int .i64 0, .slice none 0 0, .bool false, .int .i64 0, .int .i64 0, .bool false, .int .i64 0] 30 (0, 0))) ∧ Hid (wr.heap[mbn]? = some (.cells #[.int .i64 ca, .int .i64 cb, .int .i64 cd, .int .i64 ce, .slice ta vn tc, .int .i64 now] 77 (0, 0))) ∧ Hid (KQ w wr (.slice qa qn qc) ql) ∧ Hid (KF w wr fr ps) ∧ Hid (Below w.heap.size w wr)) (fun fr _ => 70 - slLen fr)
  case atStart => exact ⟨seq, tok, at', dg, sn, la, ql, ao, qn, cap, [], none, 0, 65, rfl, HE, CB, LB, RB, MB, KQ0, KF0, HB⟩
  case round =>
    clear CB LB RB MB KQ0 KF0 HB HE hMB
    obtain ⟨seq, tok, at', dg, sn, la, ql, qa, qn, qc, ps, fa, fc, n, rfl, HE, CB, LB, RB, MB, KQ0, KF0, HB⟩ := hrel
    obtain ⟨hsc, hql, hs0, hs1, hd0, hd1⟩ := lnMay_short HE.out.1
    simp only at hsc hql hs0 hs1 hd0 hd1
    replace hsc := Lib.hid hsc
    have hle3 : w.heap.size ≤ w.heap.size + 1 := Nat.le_succ _
    have hmb := (Array.getElem?_eq_some_iff.1 MB.out).1
    have hwr := HB.out.size
    have HBr := Lib.hid (Below.refl wr.heap.size wr)
    have KFr := KF0
    by_cases hsq : seq < 1099511627776
    case neg =>
      have t1 : decide (seq < 1099511627776) = false := by simp; omega
      obtain ⟨⟨LBc0, LBc1, LBc2, LBc3, LBc4, LBc5, LBc6⟩, ⟨LBf0, LBf1, LBf2, LBf3, LBf4, LBf5, LBf6⟩⟩ := blk7 LB.out
      obtain ⟨⟨RBc0, RBc1, RBc2, RBc3, RBc4, RBc5, RBc6⟩, ⟨RBf0, RBf1, RBf2, RBf3, RBf4, RBf5, RBf6⟩⟩ := blk7 RB.out
      go_upto_region 15 with fail
      clear LBc0 LBc1 LBc2 LBc3 LBc4 LBc5 LBc6 LBf0 LBf1 LBf2 LBf3 LBf4 LBf5 LBf6 RBc0 RBc1 RBc2 RBc3 RBc4 RBc5 RBc6 RBf0 RBf1 RBf2 RBf3 RBf4 RBf5 RBf6 t1
      have hend := emp_end HE.out (stp_seq (by show _ ≤ seq; omega))
      rw [HR.out] at hend
      simp only [Prod.mk.injEq] at hend
      obtain ⟨rfl, rfl⟩ := hend
      clear HE HR
      obtain ⟨⟨LBc0, LBc1, LBc2, LBc3, LBc4, LBc5, LBc6⟩, ⟨LBf0, LBf1, LBf2, LBf3, LBf4, LBf5, LBf6⟩⟩ := blk7 LB.out
      obtain ⟨⟨RBc0, RBc1, RBc2, RBc3, RBc4, RBc5, RBc6⟩, ⟨RBf0, RBf1, RBf2, RBf3, RBf4, RBf5, RBf6⟩⟩ := blk7 RB.out
      go_wp2_with fail
      have hz := stN7_heap RB.out (.int .i64 seq) (.slice qa qn qc) (.bool la) (.int .i64 tok) (.int .i64 at') (.bool sn) (.int .i64 dg)
      have KQz := KQ0.out.past RB.out (by decide) (fun k hk => stN7_far wr (w.heap.size + 1 + 1) (.int .i64 seq) (.slice qa qn qc) (.bool la) (.int .i64 tok) (.int .i64 at') (.bool sn) (.int .i64 dg) hk)
      have KFz := KF0.out.past RB.out (by decide) (by decide) (fun k hk => stN7_far wr (w.heap.size + 1 + 1) (.int .i64 seq) (.slice qa qn qc) (.bool la) (.int .i64 tok) (.int .i64 at') (.bool sn) (.int .i64 dg) hk)
      have HBz := stN7_below HB.out hle2 (.int .i64 seq) (.slice qa qn qc) (.bool la) (.int .i64 tok) (.int .i64 at') (.bool sn) (.int .i64 dg)
      obtain ⟨⟨z0, z1, z2, z3, z4, z5, z6⟩, -⟩ := blk7 hz
      unfold stN7 at z0 z1 z2 z3 z4 z5 z6
      refine bodyPost_ret (v := .tuple #[.agg #[.int .i64 seq, .slice qa qn qc, .bool la, .int .i64 tok, .int .i64 at', .bool sn, .int .i64 dg], .slice fa ps.length fc]) (by simp [results, Tryz.results23, go_sem, z0, z1, z2, z3, z4, z5, z6]) rfl ⟨_, _, ps, rfl, KQz.chgs HBz, KFz, rfl, HBz⟩
    have t1 : decide (seq < 1099511627776) = true := by simp; omega
    have hw1 : IntKind.i64.wrap (seq + 1) = seq + 1 := IntWalk.i64_in _ (by omega)
    obtain ⟨⟨⟨bx, bt⟩, is⟩, hp⟩ : ∃ p, pcTake ⟨ca, cb, cd, ce⟩ ⟨tok, at'⟩ now = p := ⟨_, rfl⟩
    have HP := Lib.hid hp
    clear hp
    cases sn with
    | true =>
      obtain ⟨⟨MBc0, MBc1, MBc2, MBc3, MBc4, MBc5⟩, ⟨MBf0, MBf1, MBf2, MBf3, MBf4, MBf5⟩⟩ := blk6 MB.out
      obtain ⟨⟨LBc0, LBc1, LBc2, LBc3, LBc4, LBc5, LBc6⟩, ⟨LBf0, LBf1, LBf2, LBf3, LBf4, LBf5, LBf6⟩⟩ := blk7 LB.out
      go_wp2_with fail
      clear MBc0 MBc1 MBc2 MBc3 MBc4 MBc5 MBf0 MBf1 MBf2 MBf3 MBf4 MBf5 LBc0 LBc1 LBc2 LBc3 LBc4 LBc5 LBc6 LBf0 LBf1 LBf2 LBf3 LBf4 LBf5 LBf6 t1
      refine (lnext_s (KQ0.out.chgs HB.out) (HT.out _ HB.out) seq tok at' dg ca cb cd ce now la (by omega)).mono ?_
      rintro e w101 ⟨u, rfl, hu, b101⟩
      replace CB := Lib.hid (upQ CB.out b101)
      replace LB := Lib.hid (upQ LB.out b101)
      replace RB := Lib.hid (upQ RB.out b101)
      replace MB := Lib.hid (upQ MB.out b101)
      replace KQ0 := Lib.hid (KQ.later KQ0.out b101)
      replace HBr := Lib.hid (below2Z HBr.out b101)
      replace KF0 := Lib.hid (KF.later KF0.out b101)
      replace HB := Lib.hid (below2Z HB.out b101)
      obtain ⟨ua, uc, rfl⟩ := tab_shapeL hu.tab HVN.out
      have U := Lib.hid (ownR_low hu hwr)
      clear hu
      clear b101
      have hlb := (Array.getElem?_eq_some_iff.1 LB.out).1
      have hrb := (Array.getElem?_eq_some_iff.1 RB.out).1
      have hmm := (Array.getElem?_eq_some_iff.1 MB.out).1
      have hxfr := HBr.out.size
      have b102 := bl_newZ w101 (.cells #[.int .i64 3, .int .i64 0, .bool false, .string ⟨#[]⟩, .int .i64 0, .int .i64 0, .int .i64 0, .string ⟨#[]⟩, .int .u64 0, .slice ua vn uc] 60)
      have XF := newQ w101 (.cells #[.int .i64 3, .int .i64 0, .bool false, .string ⟨#[]⟩, .int .i64 0, .int .i64 0, .int .i64 0, .string ⟨#[]⟩, .int .u64 0, .slice ua vn uc] 60)
      have hXF : w.heap.size ≤ w101.heap.size := HB.out.size
      replace CB := Lib.hid (upQ CB.out b102)
      replace LB := Lib.hid (upQ LB.out b102)
      replace RB := Lib.hid (upQ RB.out b102)
      replace MB := Lib.hid (upQ MB.out b102)
      replace KQ0 := Lib.hid (KQ.later KQ0.out b102)
      replace HBr := Lib.hid (below2Z HBr.out b102)
      replace KF0 := Lib.hid (KF.later KF0.out b102)
      replace U := Lib.hid (OwnR.later U.out b102)
      replace HB := Lib.hid (below2Z HB.out b102)
      clear b102
      replace XF := Lib.hid XF
      have b103 := bl_newZ (w101.alloc (.cells #[.int .i64 3, .int .i64 0, .bool false, .string ⟨#[]⟩, .int .i64 0, .int .i64 0, .int .i64 0, .string ⟨#[]⟩, .int .u64 0, .slice ua vn uc] 60)) (.cells #[.int .i64 seq, .slice none 0 0, .bool false, .int .i64 tok, .int .i64 at', .bool false, .int .i64 now] 30)
      have XL := newQ (w101.alloc (.cells #[.int .i64 3, .int .i64 0, .bool false, .string ⟨#[]⟩, .int .i64 0, .int .i64 0, .int .i64 0, .string ⟨#[]⟩, .int .u64 0, .slice ua vn uc] 60)) (.cells #[.int .i64 seq, .slice none 0 0, .bool false, .int .i64 tok, .int .i64 at', .bool false, .int .i64 now] 30)
      have hXL : w.heap.size ≤ (w101.alloc (.cells #[.int .i64 3, .int .i64 0, .bool false, .string ⟨#[]⟩, .int .i64 0, .int .i64 0, .int .i64 0, .string ⟨#[]⟩, .int .u64 0, .slice ua vn uc] 60)).heap.size := HB.out.size
      rw [World.size_alloc] at XL hXL
      replace CB := Lib.hid (upQ CB.out b103)
      replace LB := Lib.hid (upQ LB.out b103)
      replace RB := Lib.hid (upQ RB.out b103)
      replace MB := Lib.hid (upQ MB.out b103)
      replace XF := Lib.hid (upQ XF.out b103)
      replace KQ0 := Lib.hid (KQ.later KQ0.out b103)
      replace HBr := Lib.hid (below2Z HBr.out b103)
      replace KF0 := Lib.hid (KF.later KF0.out b103)
      replace U := Lib.hid (OwnR.later U.out b103)
      replace HB := Lib.hid (below2Z HB.out b103)
      clear b103
      replace XL := Lib.hid XL
      go_upto_region 8 with fail
      generalize (w101.alloc (.cells #[.int .i64 3, .int .i64 0, .bool false, .string ⟨#[]⟩, .int .i64 0, .int .i64 0, .int .i64 0, .string ⟨#[]⟩, .int .u64 0, .slice ua vn uc] 60)).alloc (.cells #[.int .i64 seq, .slice none 0 0, .bool false, .int .i64 tok, .int .i64 at', .bool false, .int .i64 now] 30) = w104 at CB LB RB MB XF XL KQ0 HBr KF0 U HB ⊢
      obtain ⟨⟨CBc0, CBc1, CBc2, CBc3⟩, ⟨CBf0, CBf1, CBf2, CBf3⟩⟩ := blk4 CB.out
      obtain ⟨⟨LBc0, LBc1, LBc2, LBc3, LBc4, LBc5, LBc6⟩, ⟨LBf0, LBf1, LBf2, LBf3, LBf4, LBf5, LBf6⟩⟩ := blk7 LB.out
      go_wp2_with fail
      clear CBc0 CBc1 CBc2 CBc3 CBf0 CBf1 CBf2 CBf3 LBc0 LBc1 LBc2 LBc3 LBc4 LBc5 LBc6 LBf0 LBf1 LBf2 LBf3 LBf4 LBf5 LBf6
      refine (ptake_any ca cb cd ce tok at' now HP _).mono ?_
      rintro e w105 ⟨rfl, b105⟩
      replace CB := Lib.hid (upQ CB.out b105)
      replace LB := Lib.hid (upQ LB.out b105)
      replace RB := Lib.hid (upQ RB.out b105)
      replace MB := Lib.hid (upQ MB.out b105)
      replace XF := Lib.hid (upQ XF.out b105)
      replace XL := Lib.hid (upQ XL.out b105)
      replace KQ0 := Lib.hid (KQ.later KQ0.out b105)
      replace HBr := Lib.hid (below2Z HBr.out b105)
      replace KF0 := Lib.hid (KF.later KF0.out b105)
      replace U := Lib.hid (OwnR.later U.out b105)
      replace HB := Lib.hid (below2Z HB.out b105)
      clear b105
      have hxl := (Array.getElem?_eq_some_iff.1 XL.out).1
      cases is with
      | false =>
        clear U
        have b156 := bl_newZ w105 (.cells #[.int .i64 bx, .int .i64 bt] 28)
        have XB := newQ w105 (.cells #[.int .i64 bx, .int .i64 bt] 28)
        have hXB : w.heap.size ≤ w105.heap.size := HB.out.size
        replace CB := Lib.hid (upQ CB.out b156)
        replace LB := Lib.hid (upQ LB.out b156)
        replace RB := Lib.hid (upQ RB.out b156)
        replace MB := Lib.hid (upQ MB.out b156)
        replace XF := Lib.hid (upQ XF.out b156)
        replace XL := Lib.hid (upQ XL.out b156)
        replace KQ0 := Lib.hid (KQ.later KQ0.out b156)
        replace HBr := Lib.hid (below2Z HBr.out b156)
        replace KF0 := Lib.hid (KF.later KF0.out b156)
        replace HB := Lib.hid (below2Z HB.out b156)
        clear b156
        replace XB := Lib.hid XB
        go_upto_region 15 with fail
        generalize w105.alloc (.cells #[.int .i64 bx, .int .i64 bt] 28) = w157 at CB LB RB MB XF XL XB KQ0 HBr KF0 HB ⊢
        have hend := emp_end HE.out (stp_tok HP.out)
        rw [HR.out] at hend
        simp only [Prod.mk.injEq] at hend
        obtain ⟨rfl, rfl⟩ := hend
        clear HE HR
        obtain ⟨⟨LBc0, LBc1, LBc2, LBc3, LBc4, LBc5, LBc6⟩, ⟨LBf0, LBf1, LBf2, LBf3, LBf4, LBf5, LBf6⟩⟩ := blk7 LB.out
        obtain ⟨⟨RBc0, RBc1, RBc2, RBc3, RBc4, RBc5, RBc6⟩, ⟨RBf0, RBf1, RBf2, RBf3, RBf4, RBf5, RBf6⟩⟩ := blk7 RB.out
        go_wp2_with fail
        have hz := stN7_heap RB.out (.int .i64 seq) (.slice qa qn qc) (.bool la) (.int .i64 tok) (.int .i64 at') (.bool true) (.int .i64 dg)
        have KQz := KQ0.out.past RB.out (by decide) (fun k hk => stN7_far w157 (w.heap.size + 1 + 1) (.int .i64 seq) (.slice qa qn qc) (.bool la) (.int .i64 tok) (.int .i64 at') (.bool true) (.int .i64 dg) hk)
        have KFz := KF0.out.past RB.out (by decide) (by decide) (fun k hk => stN7_far w157 (w.heap.size + 1 + 1) (.int .i64 seq) (.slice qa qn qc) (.bool la) (.int .i64 tok) (.int .i64 at') (.bool true) (.int .i64 dg) hk)
        have HBz := stN7_below HB.out hle2 (.int .i64 seq) (.slice qa qn qc) (.bool la) (.int .i64 tok) (.int .i64 at') (.bool true) (.int .i64 dg)
        obtain ⟨⟨z0, z1, z2, z3, z4, z5, z6⟩, -⟩ := blk7 hz
        unfold stN7 at z0 z1 z2 z3 z4 z5 z6
        refine bodyPost_ret (v := .tuple #[.agg #[.int .i64 seq, .slice qa qn qc, .bool la, .int .i64 tok, .int .i64 at', .bool true, .int .i64 dg], .slice fa ps.length fc]) (by simp [results, Tryz.results23, go_sem, z0, z1, z2, z3, z4, z5, z6]) rfl ⟨_, _, ps, rfl, KQz.chgs HBz, KFz, rfl, HBz⟩
      | true =>
        obtain ⟨he2, hpl⟩ := emp_step HE.out h2.out h3.out (stp_s hsq HP.out)
        rw [List.length_map] at hpl
        have HE2 := Lib.hid he2
        clear he2 HE HP
        have b106 := bl_newZ w105 (.cells #[.int .i64 bx, .int .i64 bt] 28)
        have XB := newQ w105 (.cells #[.int .i64 bx, .int .i64 bt] 28)
        have hXB : w.heap.size ≤ w105.heap.size := HB.out.size
        replace CB := Lib.hid (upQ CB.out b106)
        replace LB := Lib.hid (upQ LB.out b106)
        replace RB := Lib.hid (upQ RB.out b106)
        replace MB := Lib.hid (upQ MB.out b106)
        replace XF := Lib.hid (upQ XF.out b106)
        replace XL := Lib.hid (upQ XL.out b106)
        replace KQ0 := Lib.hid (KQ.later KQ0.out b106)
        replace HBr := Lib.hid (below2Z HBr.out b106)
        replace KF0 := Lib.hid (KF.later KF0.out b106)
        replace U := Lib.hid (OwnR.later U.out b106)
        replace HB := Lib.hid (below2Z HB.out b106)
        clear b106
        replace XB := Lib.hid XB
        go_upto_region 10 with fail
        generalize w105.alloc (.cells #[.int .i64 bx, .int .i64 bt] 28) = w107 at CB LB RB MB XF XL XB KQ0 HBr KF0 U HB ⊢
        obtain ⟨⟨LBc0, LBc1, LBc2, LBc3, LBc4, LBc5, LBc6⟩, ⟨LBf0, LBf1, LBf2, LBf3, LBf4, LBf5, LBf6⟩⟩ := blk7 LB.out
        obtain ⟨⟨XFc0, XFc1, XFc2, XFc3, XFc4, XFc5, XFc6, XFc7, XFc8, XFc9⟩, ⟨XFf0, XFf1, XFf2, XFf3, XFf4, XFf5, XFf6, XFf7, XFf8, XFf9⟩⟩ := blk10 XF.out
        go_upto_region 11 with fail
        clear LBc0 LBc1 LBc2 LBc3 LBc4 LBc5 LBc6 LBf0 LBf1 LBf2 LBf3 LBf4 LBf5 LBf6 XFc0 XFc1 XFc2 XFc3 XFc4 XFc5 XFc6 XFc7 XFc8 XFc9 XFf0 XFf1 XFf2 XFf3 XFf4 XFf5 XFf6 XFf7 XFf8 XFf9
        have hfar0 : ∀ k, ¬ k = w101.heap.size → (w107.setCell ⟨w101.heap.size, 1, none⟩ (.int .i64 seq)).heap[k]? = w107.heap[k]? := fun k hk => by rw [Below.heap_setCell _ _ _ k hk]
        have CBz : Hid ((w107.setCell ⟨w101.heap.size, 1, none⟩ (.int .i64 seq)).heap[w.heap.size]? = some (.cells #[.int .i64 ca, .int .i64 cb, .int .i64 cd, .int .i64 ce] 23 (0, 0))) := Lib.hid ((hfar0 (w.heap.size) (blk_ne CB.out XF.out (by decide))).trans CB.out)
        have LBz : Hid ((w107.setCell ⟨w101.heap.size, 1, none⟩ (.int .i64 seq)).heap[w.heap.size + 1]? = some (.cells #[.int .i64 seq, .slice qa qn qc, .bool la, .int .i64 tok, .int .i64 at', .bool true, .int .i64 dg] 30 (0, 0))) := Lib.hid ((hfar0 (w.heap.size + 1) (blk_ne LB.out XF.out (by decide))).trans LB.out)
        have RBz : Hid ((w107.setCell ⟨w101.heap.size, 1, none⟩ (.int .i64 seq)).heap[w.heap.size + 1 + 1]? = some (.cells #[.int .i64 0, .slice none 0 0, .bool false, .int .i64 0, .int .i64 0, .bool false, .int .i64 0] 30 (0, 0))) := Lib.hid ((hfar0 (w.heap.size + 1 + 1) (blk_ne RB.out XF.out (by decide))).trans RB.out)
        have MBz : Hid ((w107.setCell ⟨w101.heap.size, 1, none⟩ (.int .i64 seq)).heap[mbn]? = some (.cells #[.int .i64 ca, .int .i64 cb, .int .i64 cd, .int .i64 ce, .slice ta vn tc, .int .i64 now] 77 (0, 0))) := Lib.hid ((hfar0 (mbn) (blk_ne MB.out XF.out (by decide))).trans MB.out)
        have XFz : Hid ((w107.setCell ⟨w101.heap.size, 1, none⟩ (.int .i64 seq)).heap[w101.heap.size]? = some (.cells #[.int .i64 3, .int .i64 seq, .bool false, .string ⟨#[]⟩, .int .i64 0, .int .i64 0, .int .i64 0, .string ⟨#[]⟩, .int .u64 0, .slice ua vn uc] 60 (0, 0))) := Lib.hid (heap_setCell_same _ (w101.heap.size) 1 _ _ (.int .i64 seq) XF.out)
        have XLz : Hid ((w107.setCell ⟨w101.heap.size, 1, none⟩ (.int .i64 seq)).heap[w101.heap.size + 1]? = some (.cells #[.int .i64 seq, .slice none 0 0, .bool false, .int .i64 tok, .int .i64 at', .bool false, .int .i64 now] 30 (0, 0))) := Lib.hid ((hfar0 (w101.heap.size + 1) (blk_ne XL.out XF.out (by decide))).trans XL.out)
        have XBz : Hid ((w107.setCell ⟨w101.heap.size, 1, none⟩ (.int .i64 seq)).heap[w105.heap.size]? = some (.cells #[.int .i64 bx, .int .i64 bt] 28 (0, 0))) := Lib.hid ((hfar0 (w105.heap.size) (blk_ne XB.out XF.out (by decide))).trans XB.out)
        have KQ0z : Hid (KQ w (w107.setCell ⟨w101.heap.size, 1, none⟩ (.int .i64 seq)) (.slice qa qn qc) ql) := Lib.hid (KQ0.out.past XF.out (by decide) hfar0)
        have HBrz : Hid (Below wr.heap.size wr (w107.setCell ⟨w101.heap.size, 1, none⟩ (.int .i64 seq))) := Lib.hid (HBr.out.setCell hxfr _)
        have KF0z : Hid (KF w (w107.setCell ⟨w101.heap.size, 1, none⟩ (.int .i64 seq)) (.slice fa ps.length fc) ps) := Lib.hid (KFr.out.later HBrz.out)
        have Uz : Hid (OwnR (w107.setCell ⟨w101.heap.size, 1, none⟩ (.int .i64 seq)) w.heap.size (.slice ua vn uc) view) := Lib.hid (row_past U.out XF.out (by decide) hfar0)
        have HBz : Hid (Below w.heap.size w (w107.setCell ⟨w101.heap.size, 1, none⟩ (.int .i64 seq))) := Lib.hid (HB.out.setCell hXF _)
        clear CB LB RB MB XF XL XB KQ0 HBr KF0 U HB hfar0
        generalize w107.setCell ⟨w101.heap.size, 1, none⟩ (.int .i64 seq) = w108 at CBz LBz RBz MBz XFz XLz XBz KQ0z HBrz KF0z Uz HBz ⊢
        have CB := CBz
        have LB := LBz
        have RB := RBz
        have MB := MBz
        have XF := XFz
        have XL := XLz
        have XB := XBz
        have KQ0 := KQ0z
        have HBr := HBrz
        have KF0 := KF0z
        have U := Uz
        have HB := HBz
        clear CBz LBz RBz MBz XFz XLz XBz KQ0z HBrz KF0z Uz HBz
        obtain ⟨⟨XFc0, XFc1, XFc2, XFc3, XFc4, XFc5, XFc6, XFc7, XFc8, XFc9⟩, ⟨XFf0, XFf1, XFf2, XFf3, XFf4, XFf5, XFf6, XFf7, XFf8, XFf9⟩⟩ := blk10 XF.out
        have b109 := bl_newZ w108 (.cells #[.int .i64 3, .int .i64 seq, .bool false, .string ⟨#[]⟩, .int .i64 0, .int .i64 0, .int .i64 0, .string ⟨#[]⟩, .int .u64 0, .slice ua vn uc] 60)
        have XA := newQ w108 (.cells #[.int .i64 3, .int .i64 seq, .bool false, .string ⟨#[]⟩, .int .i64 0, .int .i64 0, .int .i64 0, .string ⟨#[]⟩, .int .u64 0, .slice ua vn uc] 60)
        have hXA : w.heap.size ≤ w108.heap.size := HB.out.size
        replace CB := Lib.hid (upQ CB.out b109)
        replace LB := Lib.hid (upQ LB.out b109)
        replace RB := Lib.hid (upQ RB.out b109)
        replace MB := Lib.hid (upQ MB.out b109)
        replace XF := Lib.hid (upQ XF.out b109)
        replace XL := Lib.hid (upQ XL.out b109)
        replace XB := Lib.hid (upQ XB.out b109)
        replace KQ0 := Lib.hid (KQ.later KQ0.out b109)
        replace HBr := Lib.hid (below2Z HBr.out b109)
        replace KF0 := Lib.hid (KF.later KF0.out b109)
        replace U := Lib.hid (OwnR.later U.out b109)
        replace HB := Lib.hid (below2Z HB.out b109)
        clear b109
        replace XA := Lib.hid XA
        have SRC := srcS_new (vals := frVals) (w := w108) (r := (⟨⟨3, seq, false, [], Val.zero, 0, view⟩, ua, vn, uc⟩ : FrS)) (cs := #[.int .i64 3, .int .i64 seq, .bool false, .string ⟨#[]⟩, .int .i64 0, .int .i64 0, .int .i64 0, .string ⟨#[]⟩, .int .u64 0, .slice ua vn uc]) rfl (e := 60) (B := w108.heap.size) rfl _ rfl
        have KTP : KT w (w108.alloc (.cells #[.int .i64 3, .int .i64 seq, .bool false, .string ⟨#[]⟩, .int .i64 0, .int .i64 0, .int .i64 0, .string ⟨#[]⟩, .int .u64 0, .slice ua vn uc] 60)) (⟨⟨3, seq, false, [], Val.zero, 0, view⟩, ua, vn, uc⟩ : FrS) := .inr U.out
        go_wp2_with (at_builtin; go_must (refine wpList_append_fr rfl (.tmp 60) (.tmp 62) rfl w.heap.size _ ps rfl (by exact KF0.out.1) ⟨w108.heap.size, 0, none⟩ (⟨⟨3, seq, false, [], Val.zero, 0, view⟩, ua, vn, uc⟩ : FrS) rfl SRC (by omega) HB.out.size ?_))
        intro fv w110 ho hbl hfar
        have CBz := Lib.hid (blk_app CB.out KF0.out.1 (by decide) hfar)
        have LBz := Lib.hid (blk_app LB.out KF0.out.1 (by decide) hfar)
        have RBz := Lib.hid (blk_app RB.out KF0.out.1 (by decide) hfar)
        have MBz := Lib.hid (blk_app MB.out KF0.out.1 (by decide) hfar)
        have XLz := Lib.hid (blk_app XL.out KF0.out.1 (by decide) hfar)
        have XBz := Lib.hid (blk_app XB.out KF0.out.1 (by decide) hfar)
        have KQ0z := Lib.hid (KQ0.out.app KF0.out.1 hfar)
        have KF0z := Lib.hid (KF0.out.more KTP ho hfar)
        have HBz := Lib.hid (HB.out.trans hbl)
        clear XFc0 XFc1 XFc2 XFc3 XFc4 XFc5 XFc6 XFc7 XFc8 XFc9 XFf0 XFf1 XFf2 XFf3 XFf4 XFf5 XFf6 XFf7 XFf8 XFf9 CB LB RB MB XL XB KQ0 KF0 HB XF XA SRC KTP ho hbl hfar HBr KFr hxfr U
        have CB := CBz
        have LB := LBz
        have RB := RBz
        have MB := MBz
        have XL := XLz
        have XB := XBz
        have KQ0 := KQ0z
        have KF0 := KF0z
        have HB := HBz
        clear CBz LBz RBz MBz XLz XBz KQ0z KF0z HBz
        obtain ⟨fa2, fc2, rfl⟩ := kf_shape KF0.out
        clear KQ0
        have KQ0 : Hid (KQ w w110 (.slice none 0 0) []) := Lib.hid (.inl (fun X _ => chgs_nilL X))
        obtain ⟨⟨XLc0, XLc1, XLc2, XLc3, XLc4, XLc5, XLc6⟩, ⟨XLf0, XLf1, XLf2, XLf3, XLf4, XLf5, XLf6⟩⟩ := blk7 XL.out
        obtain ⟨⟨LBc0, LBc1, LBc2, LBc3, LBc4, LBc5, LBc6⟩, ⟨LBf0, LBf1, LBf2, LBf3, LBf4, LBf5, LBf6⟩⟩ := blk7 LB.out
        go_upto_region 13 with fail
        clear XLc0 XLc1 XLc2 XLc3 XLc4 XLc5 XLc6 XLf0 XLf1 XLf2 XLf3 XLf4 XLf5 XLf6 LBc0 LBc1 LBc2 LBc3 LBc4 LBc5 LBc6 LBf0 LBf1 LBf2 LBf3 LBf4 LBf5 LBf6
        have hfar0 : ∀ k, ¬ k = w.heap.size + 1 → (((((((w110.setCell ⟨w.heap.size + 1, 0, none⟩ (.int .i64 seq)).setCell ⟨w.heap.size + 1, 1, none⟩ (.slice none 0 0)).setCell ⟨w.heap.size + 1, 2, none⟩ (.bool false)).setCell ⟨w.heap.size + 1, 3, none⟩ (.int .i64 tok)).setCell ⟨w.heap.size + 1, 4, none⟩ (.int .i64 at')).setCell ⟨w.heap.size + 1, 5, none⟩ (.bool false)).setCell ⟨w.heap.size + 1, 6, none⟩ (.int .i64 now)).heap[k]? = w110.heap[k]? := fun k hk => by rw [Below.heap_setCell _ _ _ k hk, Below.heap_setCell _ _ _ k hk, Below.heap_setCell _ _ _ k hk, Below.heap_setCell _ _ _ k hk, Below.heap_setCell _ _ _ k hk, Below.heap_setCell _ _ _ k hk, Below.heap_setCell _ _ _ k hk]
        have CBz : Hid ((((((((w110.setCell ⟨w.heap.size + 1, 0, none⟩ (.int .i64 seq)).setCell ⟨w.heap.size + 1, 1, none⟩ (.slice none 0 0)).setCell ⟨w.heap.size + 1, 2, none⟩ (.bool false)).setCell ⟨w.heap.size + 1, 3, none⟩ (.int .i64 tok)).setCell ⟨w.heap.size + 1, 4, none⟩ (.int .i64 at')).setCell ⟨w.heap.size + 1, 5, none⟩ (.bool false)).setCell ⟨w.heap.size + 1, 6, none⟩ (.int .i64 now)).heap[w.heap.size]? = some (.cells #[.int .i64 ca, .int .i64 cb, .int .i64 cd, .int .i64 ce] 23 (0, 0))) := Lib.hid ((hfar0 (w.heap.size) (blk_ne CB.out LB.out (by decide))).trans CB.out)
        have LBz : Hid ((((((((w110.setCell ⟨w.heap.size + 1, 0, none⟩ (.int .i64 seq)).setCell ⟨w.heap.size + 1, 1, none⟩ (.slice none 0 0)).setCell ⟨w.heap.size + 1, 2, none⟩ (.bool false)).setCell ⟨w.heap.size + 1, 3, none⟩ (.int .i64 tok)).setCell ⟨w.heap.size + 1, 4, none⟩ (.int .i64 at')).setCell ⟨w.heap.size + 1, 5, none⟩ (.bool false)).setCell ⟨w.heap.size + 1, 6, none⟩ (.int .i64 now)).heap[w.heap.size + 1]? = some (.cells #[.int .i64 seq, .slice none 0 0, .bool false, .int .i64 tok, .int .i64 at', .bool false, .int .i64 now] 30 (0, 0))) := Lib.hid (heap_setCell_same _ (w.heap.size + 1) 6 _ _ (.int .i64 now) (heap_setCell_same _ (w.heap.size + 1) 5 _ _ (.bool false) (heap_setCell_same _ (w.heap.size + 1) 4 _ _ (.int .i64 at') (heap_setCell_same _ (w.heap.size + 1) 3 _ _ (.int .i64 tok) (heap_setCell_same _ (w.heap.size + 1) 2 _ _ (.bool false) (heap_setCell_same _ (w.heap.size + 1) 1 _ _ (.slice none 0 0) (heap_setCell_same _ (w.heap.size + 1) 0 _ _ (.int .i64 seq) LB.out)))))))
        have RBz : Hid ((((((((w110.setCell ⟨w.heap.size + 1, 0, none⟩ (.int .i64 seq)).setCell ⟨w.heap.size + 1, 1, none⟩ (.slice none 0 0)).setCell ⟨w.heap.size + 1, 2, none⟩ (.bool false)).setCell ⟨w.heap.size + 1, 3, none⟩ (.int .i64 tok)).setCell ⟨w.heap.size + 1, 4, none⟩ (.int .i64 at')).setCell ⟨w.heap.size + 1, 5, none⟩ (.bool false)).setCell ⟨w.heap.size + 1, 6, none⟩ (.int .i64 now)).heap[w.heap.size + 1 + 1]? = some (.cells #[.int .i64 0, .slice none 0 0, .bool false, .int .i64 0, .int .i64 0, .bool false, .int .i64 0] 30 (0, 0))) := Lib.hid ((hfar0 (w.heap.size + 1 + 1) (by omega)).trans RB.out)
        have MBz : Hid ((((((((w110.setCell ⟨w.heap.size + 1, 0, none⟩ (.int .i64 seq)).setCell ⟨w.heap.size + 1, 1, none⟩ (.slice none 0 0)).setCell ⟨w.heap.size + 1, 2, none⟩ (.bool false)).setCell ⟨w.heap.size + 1, 3, none⟩ (.int .i64 tok)).setCell ⟨w.heap.size + 1, 4, none⟩ (.int .i64 at')).setCell ⟨w.heap.size + 1, 5, none⟩ (.bool false)).setCell ⟨w.heap.size + 1, 6, none⟩ (.int .i64 now)).heap[mbn]? = some (.cells #[.int .i64 ca, .int .i64 cb, .int .i64 cd, .int .i64 ce, .slice ta vn tc, .int .i64 now] 77 (0, 0))) := Lib.hid ((hfar0 (mbn) (blk_ne MB.out LB.out (by decide))).trans MB.out)
        have XLz : Hid ((((((((w110.setCell ⟨w.heap.size + 1, 0, none⟩ (.int .i64 seq)).setCell ⟨w.heap.size + 1, 1, none⟩ (.slice none 0 0)).setCell ⟨w.heap.size + 1, 2, none⟩ (.bool false)).setCell ⟨w.heap.size + 1, 3, none⟩ (.int .i64 tok)).setCell ⟨w.heap.size + 1, 4, none⟩ (.int .i64 at')).setCell ⟨w.heap.size + 1, 5, none⟩ (.bool false)).setCell ⟨w.heap.size + 1, 6, none⟩ (.int .i64 now)).heap[w101.heap.size + 1]? = some (.cells #[.int .i64 seq, .slice none 0 0, .bool false, .int .i64 tok, .int .i64 at', .bool false, .int .i64 now] 30 (0, 0))) := Lib.hid ((hfar0 (w101.heap.size + 1) (by omega)).trans XL.out)
        have XBz : Hid ((((((((w110.setCell ⟨w.heap.size + 1, 0, none⟩ (.int .i64 seq)).setCell ⟨w.heap.size + 1, 1, none⟩ (.slice none 0 0)).setCell ⟨w.heap.size + 1, 2, none⟩ (.bool false)).setCell ⟨w.heap.size + 1, 3, none⟩ (.int .i64 tok)).setCell ⟨w.heap.size + 1, 4, none⟩ (.int .i64 at')).setCell ⟨w.heap.size + 1, 5, none⟩ (.bool false)).setCell ⟨w.heap.size + 1, 6, none⟩ (.int .i64 now)).heap[w105.heap.size]? = some (.cells #[.int .i64 bx, .int .i64 bt] 28 (0, 0))) := Lib.hid ((hfar0 (w105.heap.size) (blk_ne XB.out LB.out (by decide))).trans XB.out)
        have KQ0z : Hid (KQ w (((((((w110.setCell ⟨w.heap.size + 1, 0, none⟩ (.int .i64 seq)).setCell ⟨w.heap.size + 1, 1, none⟩ (.slice none 0 0)).setCell ⟨w.heap.size + 1, 2, none⟩ (.bool false)).setCell ⟨w.heap.size + 1, 3, none⟩ (.int .i64 tok)).setCell ⟨w.heap.size + 1, 4, none⟩ (.int .i64 at')).setCell ⟨w.heap.size + 1, 5, none⟩ (.bool false)).setCell ⟨w.heap.size + 1, 6, none⟩ (.int .i64 now)) (.slice none 0 0) []) := Lib.hid (KQ0.out.past LB.out (by decide) hfar0)
        have KF0z : Hid (KF w (((((((w110.setCell ⟨w.heap.size + 1, 0, none⟩ (.int .i64 seq)).setCell ⟨w.heap.size + 1, 1, none⟩ (.slice none 0 0)).setCell ⟨w.heap.size + 1, 2, none⟩ (.bool false)).setCell ⟨w.heap.size + 1, 3, none⟩ (.int .i64 tok)).setCell ⟨w.heap.size + 1, 4, none⟩ (.int .i64 at')).setCell ⟨w.heap.size + 1, 5, none⟩ (.bool false)).setCell ⟨w.heap.size + 1, 6, none⟩ (.int .i64 now)) (.slice fa2 (ps ++ [(⟨⟨3, seq, false, [], Val.zero, 0, view⟩, ua, vn, uc⟩ : FrS)]).length fc2) (ps ++ [(⟨⟨3, seq, false, [], Val.zero, 0, view⟩, ua, vn, uc⟩ : FrS)])) := Lib.hid (KF0.out.past LB.out (by decide) (by decide) hfar0)
        have HBz : Hid (Below w.heap.size w (((((((w110.setCell ⟨w.heap.size + 1, 0, none⟩ (.int .i64 seq)).setCell ⟨w.heap.size + 1, 1, none⟩ (.slice none 0 0)).setCell ⟨w.heap.size + 1, 2, none⟩ (.bool false)).setCell ⟨w.heap.size + 1, 3, none⟩ (.int .i64 tok)).setCell ⟨w.heap.size + 1, 4, none⟩ (.int .i64 at')).setCell ⟨w.heap.size + 1, 5, none⟩ (.bool false)).setCell ⟨w.heap.size + 1, 6, none⟩ (.int .i64 now))) := Lib.hid (((((((HB.out.setCell hle1 _).setCell hle1 _).setCell hle1 _).setCell hle1 _).setCell hle1 _).setCell hle1 _).setCell hle1 _)
        clear CB LB RB MB XL XB KQ0 KF0 HB hfar0
        generalize ((((((w110.setCell ⟨w.heap.size + 1, 0, none⟩ (.int .i64 seq)).setCell ⟨w.heap.size + 1, 1, none⟩ (.slice none 0 0)).setCell ⟨w.heap.size + 1, 2, none⟩ (.bool false)).setCell ⟨w.heap.size + 1, 3, none⟩ (.int .i64 tok)).setCell ⟨w.heap.size + 1, 4, none⟩ (.int .i64 at')).setCell ⟨w.heap.size + 1, 5, none⟩ (.bool false)).setCell ⟨w.heap.size + 1, 6, none⟩ (.int .i64 now) = w111 at CBz LBz RBz MBz XLz XBz KQ0z KF0z HBz ⊢
        have CB := CBz
        have LB := LBz
        have RB := RBz
        have MB := MBz
        have XL := XLz
        have XB := XBz
        have KQ0 := KQ0z
        have KF0 := KF0z
        have HB := HBz
        clear CBz LBz RBz MBz XLz XBz KQ0z KF0z HBz
        clear XL
        obtain ⟨⟨XBc0, XBc1⟩, ⟨XBf0, XBf1⟩⟩ := blk2 XB.out
        obtain ⟨⟨LBc0, LBc1, LBc2, LBc3, LBc4, LBc5, LBc6⟩, ⟨LBf0, LBf1, LBf2, LBf3, LBf4, LBf5, LBf6⟩⟩ := blk7 LB.out
        go_upto_region 14 with fail
        clear XBc0 XBc1 XBf0 XBf1 LBc0 LBc1 LBc2 LBc3 LBc4 LBc5 LBc6 LBf0 LBf1 LBf2 LBf3 LBf4 LBf5 LBf6
        have hfar0 : ∀ k, ¬ k = w.heap.size + 1 → ((w111.setCell ⟨w.heap.size + 1, 3, none⟩ (.int .i64 bx)).setCell ⟨w.heap.size + 1, 4, none⟩ (.int .i64 bt)).heap[k]? = w111.heap[k]? := fun k hk => by rw [Below.heap_setCell _ _ _ k hk, Below.heap_setCell _ _ _ k hk]
        have CBz : Hid (((w111.setCell ⟨w.heap.size + 1, 3, none⟩ (.int .i64 bx)).setCell ⟨w.heap.size + 1, 4, none⟩ (.int .i64 bt)).heap[w.heap.size]? = some (.cells #[.int .i64 ca, .int .i64 cb, .int .i64 cd, .int .i64 ce] 23 (0, 0))) := Lib.hid ((hfar0 (w.heap.size) (blk_ne CB.out LB.out (by decide))).trans CB.out)
        have LBz : Hid (((w111.setCell ⟨w.heap.size + 1, 3, none⟩ (.int .i64 bx)).setCell ⟨w.heap.size + 1, 4, none⟩ (.int .i64 bt)).heap[w.heap.size + 1]? = some (.cells #[.int .i64 seq, .slice none 0 0, .bool false, .int .i64 bx, .int .i64 bt, .bool false, .int .i64 now] 30 (0, 0))) := Lib.hid (heap_setCell_same _ (w.heap.size + 1) 4 _ _ (.int .i64 bt) (heap_setCell_same _ (w.heap.size + 1) 3 _ _ (.int .i64 bx) LB.out))
        have RBz : Hid (((w111.setCell ⟨w.heap.size + 1, 3, none⟩ (.int .i64 bx)).setCell ⟨w.heap.size + 1, 4, none⟩ (.int .i64 bt)).heap[w.heap.size + 1 + 1]? = some (.cells #[.int .i64 0, .slice none 0 0, .bool false, .int .i64 0, .int .i64 0, .bool false, .int .i64 0] 30 (0, 0))) := Lib.hid ((hfar0 (w.heap.size + 1 + 1) (by omega)).trans RB.out)
        have MBz : Hid (((w111.setCell ⟨w.heap.size + 1, 3, none⟩ (.int .i64 bx)).setCell ⟨w.heap.size + 1, 4, none⟩ (.int .i64 bt)).heap[mbn]? = some (.cells #[.int .i64 ca, .int .i64 cb, .int .i64 cd, .int .i64 ce, .slice ta vn tc, .int .i64 now] 77 (0, 0))) := Lib.hid ((hfar0 (mbn) (blk_ne MB.out LB.out (by decide))).trans MB.out)
        have XBz : Hid (((w111.setCell ⟨w.heap.size + 1, 3, none⟩ (.int .i64 bx)).setCell ⟨w.heap.size + 1, 4, none⟩ (.int .i64 bt)).heap[w105.heap.size]? = some (.cells #[.int .i64 bx, .int .i64 bt] 28 (0, 0))) := Lib.hid ((hfar0 (w105.heap.size) (blk_ne XB.out LB.out (by decide))).trans XB.out)
        have KQ0z : Hid (KQ w ((w111.setCell ⟨w.heap.size + 1, 3, none⟩ (.int .i64 bx)).setCell ⟨w.heap.size + 1, 4, none⟩ (.int .i64 bt)) (.slice none 0 0) []) := Lib.hid (KQ0.out.past LB.out (by decide) hfar0)
        have KF0z : Hid (KF w ((w111.setCell ⟨w.heap.size + 1, 3, none⟩ (.int .i64 bx)).setCell ⟨w.heap.size + 1, 4, none⟩ (.int .i64 bt)) (.slice fa2 (ps ++ [(⟨⟨3, seq, false, [], Val.zero, 0, view⟩, ua, vn, uc⟩ : FrS)]).length fc2) (ps ++ [(⟨⟨3, seq, false, [], Val.zero, 0, view⟩, ua, vn, uc⟩ : FrS)])) := Lib.hid (KF0.out.past LB.out (by decide) (by decide) hfar0)
        have HBz : Hid (Below w.heap.size w ((w111.setCell ⟨w.heap.size + 1, 3, none⟩ (.int .i64 bx)).setCell ⟨w.heap.size + 1, 4, none⟩ (.int .i64 bt))) := Lib.hid ((HB.out.setCell hle1 _).setCell hle1 _)
        clear CB LB RB MB XB KQ0 KF0 HB hfar0
        generalize (w111.setCell ⟨w.heap.size + 1, 3, none⟩ (.int .i64 bx)).setCell ⟨w.heap.size + 1, 4, none⟩ (.int .i64 bt) = w112 at CBz LBz RBz MBz XBz KQ0z KF0z HBz ⊢
        have CB := CBz
        have LB := LBz
        have RB := RBz
        have MB := MBz
        have XB := XBz
        have KQ0 := KQ0z
        have KF0 := KF0z
        have HB := HBz
        clear CBz LBz RBz MBz XBz KQ0z KF0z HBz
        clear XB
        obtain ⟨⟨LBc0, LBc1, LBc2, LBc3, LBc4, LBc5, LBc6⟩, ⟨LBf0, LBf1, LBf2, LBf3, LBf4, LBf5, LBf6⟩⟩ := blk7 LB.out
        go_wp2_with fail
        clear LBc0 LBc1 LBc2 LBc3 LBc4 LBc5 LBc6 LBf0 LBf1 LBf2 LBf3 LBf4 LBf5 LBf6
        have hfar0 : ∀ k, ¬ k = w.heap.size + 1 → (w112.setCell ⟨w.heap.size + 1, 0, none⟩ (.int .i64 (seq + 1))).heap[k]? = w112.heap[k]? := fun k hk => by rw [Below.heap_setCell _ _ _ k hk]
        have CBz : Hid ((w112.setCell ⟨w.heap.size + 1, 0, none⟩ (.int .i64 (seq + 1))).heap[w.heap.size]? = some (.cells #[.int .i64 ca, .int .i64 cb, .int .i64 cd, .int .i64 ce] 23 (0, 0))) := Lib.hid ((hfar0 (w.heap.size) (blk_ne CB.out LB.out (by decide))).trans CB.out)
        have LBz : Hid ((w112.setCell ⟨w.heap.size + 1, 0, none⟩ (.int .i64 (seq + 1))).heap[w.heap.size + 1]? = some (.cells #[.int .i64 (seq + 1), .slice none 0 0, .bool false, .int .i64 bx, .int .i64 bt, .bool false, .int .i64 now] 30 (0, 0))) := Lib.hid (heap_setCell_same _ (w.heap.size + 1) 0 _ _ (.int .i64 (seq + 1)) LB.out)
        have RBz : Hid ((w112.setCell ⟨w.heap.size + 1, 0, none⟩ (.int .i64 (seq + 1))).heap[w.heap.size + 1 + 1]? = some (.cells #[.int .i64 0, .slice none 0 0, .bool false, .int .i64 0, .int .i64 0, .bool false, .int .i64 0] 30 (0, 0))) := Lib.hid ((hfar0 (w.heap.size + 1 + 1) (by omega)).trans RB.out)
        have MBz : Hid ((w112.setCell ⟨w.heap.size + 1, 0, none⟩ (.int .i64 (seq + 1))).heap[mbn]? = some (.cells #[.int .i64 ca, .int .i64 cb, .int .i64 cd, .int .i64 ce, .slice ta vn tc, .int .i64 now] 77 (0, 0))) := Lib.hid ((hfar0 (mbn) (blk_ne MB.out LB.out (by decide))).trans MB.out)
        have KQ0z : Hid (KQ w (w112.setCell ⟨w.heap.size + 1, 0, none⟩ (.int .i64 (seq + 1))) (.slice none 0 0) []) := Lib.hid (KQ0.out.past LB.out (by decide) hfar0)
        have KF0z : Hid (KF w (w112.setCell ⟨w.heap.size + 1, 0, none⟩ (.int .i64 (seq + 1))) (.slice fa2 (ps ++ [(⟨⟨3, seq, false, [], Val.zero, 0, view⟩, ua, vn, uc⟩ : FrS)]).length fc2) (ps ++ [(⟨⟨3, seq, false, [], Val.zero, 0, view⟩, ua, vn, uc⟩ : FrS)])) := Lib.hid (KF0.out.past LB.out (by decide) (by decide) hfar0)
        have HBz : Hid (Below w.heap.size w (w112.setCell ⟨w.heap.size + 1, 0, none⟩ (.int .i64 (seq + 1)))) := Lib.hid (HB.out.setCell hle1 _)
        clear CB LB RB MB KQ0 KF0 HB hfar0
        have CB := CBz
        have LB := LBz
        have RB := RBz
        have MB := MBz
        have KQ0 := KQ0z
        have KF0 := KF0z
        have HB := HBz
        clear CBz LBz RBz MBz KQ0z KF0z HBz
        go_roundw
        case rel => exact ⟨seq + 1, bx, bt, now, false, false, [], none, 0, 0, ps ++ [(⟨⟨3, seq, false, [], Val.zero, 0, view⟩, ua, vn, uc⟩ : FrS)], fa2, fc2, n - 1, rfl, Lib.hid (by rw [List.map_append]; exact HE2.out), CB, LB, RB, MB, KQ0, KF0, HB⟩
        case measure => simp [slLen]; omega
    | false =>
      rcases ql with _ | ⟨⟨xc, xo, ⟨xa, xb, xd, xs⟩⟩, r⟩
      case cons =>
        have hrl : r.length < 1000 := by simp only [List.length_cons] at hql; omega
        obtain ⟨rn, hrn⟩ : ∃ n, r.length = n := ⟨_, rfl⟩
        have HRN := Lib.hid hrn
        clear hrn hql
        obtain ⟨⟨MBc0, MBc1, MBc2, MBc3, MBc4, MBc5⟩, ⟨MBf0, MBf1, MBf2, MBf3, MBf4, MBf5⟩⟩ := blk6 MB.out
        obtain ⟨⟨LBc0, LBc1, LBc2, LBc3, LBc4, LBc5, LBc6⟩, ⟨LBf0, LBf1, LBf2, LBf3, LBf4, LBf5, LBf6⟩⟩ := blk7 LB.out
        go_wp2_with fail
        clear MBc0 MBc1 MBc2 MBc3 MBc4 MBc5 MBf0 MBf1 MBf2 MBf3 MBf4 MBf5 LBc0 LBc1 LBc2 LBc3 LBc4 LBc5 LBc6 LBf0 LBf1 LBf2 LBf3 LBf4 LBf5 LBf6 t1
        refine (lnext_d (KQ0.out.chgs HB.out) (HT.out _ HB.out) seq tok at' dg ca cb cd ce now la rfl hrl).mono ?_
        rintro e w101 ⟨u, rfl, hu, b101⟩
        replace CB := Lib.hid (upQ CB.out b101)
        replace LB := Lib.hid (upQ LB.out b101)
        replace RB := Lib.hid (upQ RB.out b101)
        replace MB := Lib.hid (upQ MB.out b101)
        replace KQ0 := Lib.hid (KQ.later KQ0.out b101)
        replace HBr := Lib.hid (below2Z HBr.out b101)
        replace KF0 := Lib.hid (KF.later KF0.out b101)
        replace HB := Lib.hid (below2Z HB.out b101)
        obtain ⟨a2, c2, rfl⟩ := ownQ_shapeL hu HRN.out
        have QN : Hid (KQ w _ _ r) := Lib.hid (.inr (ownS_low hu hwr))
        clear hu
        clear b101
        have hlb := (Array.getElem?_eq_some_iff.1 LB.out).1
        have hrb := (Array.getElem?_eq_some_iff.1 RB.out).1
        have hmm := (Array.getElem?_eq_some_iff.1 MB.out).1
        have hxfr := HBr.out.size
        have b102 := bl_newZ w101 (.cells #[.int .i64 1, .int .i64 0, .bool xo, .string ⟨xc.toArray⟩, .int .i64 xa, .int .i64 xb, .int .i64 xd, .string ⟨xs.toArray⟩, .int .u64 0, .slice none 0 0] 60)
        have XF := newQ w101 (.cells #[.int .i64 1, .int .i64 0, .bool xo, .string ⟨xc.toArray⟩, .int .i64 xa, .int .i64 xb, .int .i64 xd, .string ⟨xs.toArray⟩, .int .u64 0, .slice none 0 0] 60)
        have hXF : w.heap.size ≤ w101.heap.size := HB.out.size
        replace CB := Lib.hid (upQ CB.out b102)
        replace LB := Lib.hid (upQ LB.out b102)
        replace RB := Lib.hid (upQ RB.out b102)
        replace MB := Lib.hid (upQ MB.out b102)
        replace KQ0 := Lib.hid (KQ.later KQ0.out b102)
        replace HBr := Lib.hid (below2Z HBr.out b102)
        replace KF0 := Lib.hid (KF.later KF0.out b102)
        replace QN := Lib.hid (KQ.later QN.out b102)
        replace HB := Lib.hid (below2Z HB.out b102)
        clear b102
        replace XF := Lib.hid XF
        have b103 := bl_newZ (w101.alloc (.cells #[.int .i64 1, .int .i64 0, .bool xo, .string ⟨xc.toArray⟩, .int .i64 xa, .int .i64 xb, .int .i64 xd, .string ⟨xs.toArray⟩, .int .u64 0, .slice none 0 0] 60)) (.cells #[.int .i64 seq, .slice a2 rn c2, .bool la, .int .i64 tok, .int .i64 at', .bool false, .int .i64 dg] 30)
        have XL := newQ (w101.alloc (.cells #[.int .i64 1, .int .i64 0, .bool xo, .string ⟨xc.toArray⟩, .int .i64 xa, .int .i64 xb, .int .i64 xd, .string ⟨xs.toArray⟩, .int .u64 0, .slice none 0 0] 60)) (.cells #[.int .i64 seq, .slice a2 rn c2, .bool la, .int .i64 tok, .int .i64 at', .bool false, .int .i64 dg] 30)
        have hXL : w.heap.size ≤ (w101.alloc (.cells #[.int .i64 1, .int .i64 0, .bool xo, .string ⟨xc.toArray⟩, .int .i64 xa, .int .i64 xb, .int .i64 xd, .string ⟨xs.toArray⟩, .int .u64 0, .slice none 0 0] 60)).heap.size := HB.out.size
        rw [World.size_alloc] at XL hXL
        replace CB := Lib.hid (upQ CB.out b103)
        replace LB := Lib.hid (upQ LB.out b103)
        replace RB := Lib.hid (upQ RB.out b103)
        replace MB := Lib.hid (upQ MB.out b103)
        replace XF := Lib.hid (upQ XF.out b103)
        replace KQ0 := Lib.hid (KQ.later KQ0.out b103)
        replace HBr := Lib.hid (below2Z HBr.out b103)
        replace KF0 := Lib.hid (KF.later KF0.out b103)
        replace QN := Lib.hid (KQ.later QN.out b103)
        replace HB := Lib.hid (below2Z HB.out b103)
        clear b103
        replace XL := Lib.hid XL
        go_upto_region 8 with fail
        generalize (w101.alloc (.cells #[.int .i64 1, .int .i64 0, .bool xo, .string ⟨xc.toArray⟩, .int .i64 xa, .int .i64 xb, .int .i64 xd, .string ⟨xs.toArray⟩, .int .u64 0, .slice none 0 0] 60)).alloc (.cells #[.int .i64 seq, .slice a2 rn c2, .bool la, .int .i64 tok, .int .i64 at', .bool false, .int .i64 dg] 30) = w104 at CB LB RB MB XF XL KQ0 HBr KF0 QN HB ⊢
        obtain ⟨⟨CBc0, CBc1, CBc2, CBc3⟩, ⟨CBf0, CBf1, CBf2, CBf3⟩⟩ := blk4 CB.out
        obtain ⟨⟨LBc0, LBc1, LBc2, LBc3, LBc4, LBc5, LBc6⟩, ⟨LBf0, LBf1, LBf2, LBf3, LBf4, LBf5, LBf6⟩⟩ := blk7 LB.out
        go_wp2_with fail
        clear CBc0 CBc1 CBc2 CBc3 CBf0 CBf1 CBf2 CBf3 LBc0 LBc1 LBc2 LBc3 LBc4 LBc5 LBc6 LBf0 LBf1 LBf2 LBf3 LBf4 LBf5 LBf6
        refine (ptake_any ca cb cd ce tok at' now HP _).mono ?_
        rintro e w105 ⟨rfl, b105⟩
        replace CB := Lib.hid (upQ CB.out b105)
        replace LB := Lib.hid (upQ LB.out b105)
        replace RB := Lib.hid (upQ RB.out b105)
        replace MB := Lib.hid (upQ MB.out b105)
        replace XF := Lib.hid (upQ XF.out b105)
        replace XL := Lib.hid (upQ XL.out b105)
        replace KQ0 := Lib.hid (KQ.later KQ0.out b105)
        replace HBr := Lib.hid (below2Z HBr.out b105)
        replace KF0 := Lib.hid (KF.later KF0.out b105)
        replace QN := Lib.hid (KQ.later QN.out b105)
        replace HB := Lib.hid (below2Z HB.out b105)
        clear b105
        have hxl := (Array.getElem?_eq_some_iff.1 XL.out).1
        cases is with
        | false =>
          clear QN
          have b156 := bl_newZ w105 (.cells #[.int .i64 bx, .int .i64 bt] 28)
          have XB := newQ w105 (.cells #[.int .i64 bx, .int .i64 bt] 28)
          have hXB : w.heap.size ≤ w105.heap.size := HB.out.size
          replace CB := Lib.hid (upQ CB.out b156)
          replace LB := Lib.hid (upQ LB.out b156)
          replace RB := Lib.hid (upQ RB.out b156)
          replace MB := Lib.hid (upQ MB.out b156)
          replace XF := Lib.hid (upQ XF.out b156)
          replace XL := Lib.hid (upQ XL.out b156)
          replace KQ0 := Lib.hid (KQ.later KQ0.out b156)
          replace HBr := Lib.hid (below2Z HBr.out b156)
          replace KF0 := Lib.hid (KF.later KF0.out b156)
          replace HB := Lib.hid (below2Z HB.out b156)
          clear b156
          replace XB := Lib.hid XB
          go_upto_region 15 with fail
          generalize w105.alloc (.cells #[.int .i64 bx, .int .i64 bt] 28) = w157 at CB LB RB MB XF XL XB KQ0 HBr KF0 HB ⊢
          have hend := emp_end HE.out (stp_tok HP.out)
          rw [HR.out] at hend
          simp only [Prod.mk.injEq] at hend
          obtain ⟨rfl, rfl⟩ := hend
          clear HE HR
          obtain ⟨⟨LBc0, LBc1, LBc2, LBc3, LBc4, LBc5, LBc6⟩, ⟨LBf0, LBf1, LBf2, LBf3, LBf4, LBf5, LBf6⟩⟩ := blk7 LB.out
          obtain ⟨⟨RBc0, RBc1, RBc2, RBc3, RBc4, RBc5, RBc6⟩, ⟨RBf0, RBf1, RBf2, RBf3, RBf4, RBf5, RBf6⟩⟩ := blk7 RB.out
          go_wp2_with fail
          have hz := stN7_heap RB.out (.int .i64 seq) (.slice qa qn qc) (.bool la) (.int .i64 tok) (.int .i64 at') (.bool false) (.int .i64 dg)
          have KQz := KQ0.out.past RB.out (by decide) (fun k hk => stN7_far w157 (w.heap.size + 1 + 1) (.int .i64 seq) (.slice qa qn qc) (.bool la) (.int .i64 tok) (.int .i64 at') (.bool false) (.int .i64 dg) hk)
          have KFz := KF0.out.past RB.out (by decide) (by decide) (fun k hk => stN7_far w157 (w.heap.size + 1 + 1) (.int .i64 seq) (.slice qa qn qc) (.bool la) (.int .i64 tok) (.int .i64 at') (.bool false) (.int .i64 dg) hk)
          have HBz := stN7_below HB.out hle2 (.int .i64 seq) (.slice qa qn qc) (.bool la) (.int .i64 tok) (.int .i64 at') (.bool false) (.int .i64 dg)
          obtain ⟨⟨z0, z1, z2, z3, z4, z5, z6⟩, -⟩ := blk7 hz
          unfold stN7 at z0 z1 z2 z3 z4 z5 z6
          refine bodyPost_ret (v := .tuple #[.agg #[.int .i64 seq, .slice qa qn qc, .bool la, .int .i64 tok, .int .i64 at', .bool false, .int .i64 dg], .slice fa ps.length fc]) (by simp [results, Tryz.results23, go_sem, z0, z1, z2, z3, z4, z5, z6]) rfl ⟨_, _, ps, rfl, KQz.chgs HBz, KFz, rfl, HBz⟩
        | true =>
          obtain ⟨he2, hpl⟩ := emp_step HE.out h2.out h3.out (stp_d hsq HP.out)
          rw [List.length_map] at hpl
          have HE2 := Lib.hid he2
          clear he2 HE HP
          have b106 := bl_newZ w105 (.cells #[.int .i64 bx, .int .i64 bt] 28)
          have XB := newQ w105 (.cells #[.int .i64 bx, .int .i64 bt] 28)
          have hXB : w.heap.size ≤ w105.heap.size := HB.out.size
          replace CB := Lib.hid (upQ CB.out b106)
          replace LB := Lib.hid (upQ LB.out b106)
          replace RB := Lib.hid (upQ RB.out b106)
          replace MB := Lib.hid (upQ MB.out b106)
          replace XF := Lib.hid (upQ XF.out b106)
          replace XL := Lib.hid (upQ XL.out b106)
          replace KQ0 := Lib.hid (KQ.later KQ0.out b106)
          replace HBr := Lib.hid (below2Z HBr.out b106)
          replace KF0 := Lib.hid (KF.later KF0.out b106)
          replace QN := Lib.hid (KQ.later QN.out b106)
          replace HB := Lib.hid (below2Z HB.out b106)
          clear b106
          replace XB := Lib.hid XB
          go_upto_region 10 with fail
          generalize w105.alloc (.cells #[.int .i64 bx, .int .i64 bt] 28) = w107 at CB LB RB MB XF XL XB KQ0 HBr KF0 QN HB ⊢
          obtain ⟨⟨LBc0, LBc1, LBc2, LBc3, LBc4, LBc5, LBc6⟩, ⟨LBf0, LBf1, LBf2, LBf3, LBf4, LBf5, LBf6⟩⟩ := blk7 LB.out
          obtain ⟨⟨XFc0, XFc1, XFc2, XFc3, XFc4, XFc5, XFc6, XFc7, XFc8, XFc9⟩, ⟨XFf0, XFf1, XFf2, XFf3, XFf4, XFf5, XFf6, XFf7, XFf8, XFf9⟩⟩ := blk10 XF.out
          go_upto_region 11 with fail
          clear LBc0 LBc1 LBc2 LBc3 LBc4 LBc5 LBc6 LBf0 LBf1 LBf2 LBf3 LBf4 LBf5 LBf6 XFc0 XFc1 XFc2 XFc3 XFc4 XFc5 XFc6 XFc7 XFc8 XFc9 XFf0 XFf1 XFf2 XFf3 XFf4 XFf5 XFf6 XFf7 XFf8 XFf9
          have hfar0 : ∀ k, ¬ k = w101.heap.size → (w107.setCell ⟨w101.heap.size, 1, none⟩ (.int .i64 seq)).heap[k]? = w107.heap[k]? := fun k hk => by rw [Below.heap_setCell _ _ _ k hk]
          have CBz : Hid ((w107.setCell ⟨w101.heap.size, 1, none⟩ (.int .i64 seq)).heap[w.heap.size]? = some (.cells #[.int .i64 ca, .int .i64 cb, .int .i64 cd, .int .i64 ce] 23 (0, 0))) := Lib.hid ((hfar0 (w.heap.size) (blk_ne CB.out XF.out (by decide))).trans CB.out)
          have LBz : Hid ((w107.setCell ⟨w101.heap.size, 1, none⟩ (.int .i64 seq)).heap[w.heap.size + 1]? = some (.cells #[.int .i64 seq, .slice qa qn qc, .bool la, .int .i64 tok, .int .i64 at', .bool false, .int .i64 dg] 30 (0, 0))) := Lib.hid ((hfar0 (w.heap.size + 1) (blk_ne LB.out XF.out (by decide))).trans LB.out)
          have RBz : Hid ((w107.setCell ⟨w101.heap.size, 1, none⟩ (.int .i64 seq)).heap[w.heap.size + 1 + 1]? = some (.cells #[.int .i64 0, .slice none 0 0, .bool false, .int .i64 0, .int .i64 0, .bool false, .int .i64 0] 30 (0, 0))) := Lib.hid ((hfar0 (w.heap.size + 1 + 1) (blk_ne RB.out XF.out (by decide))).trans RB.out)
          have MBz : Hid ((w107.setCell ⟨w101.heap.size, 1, none⟩ (.int .i64 seq)).heap[mbn]? = some (.cells #[.int .i64 ca, .int .i64 cb, .int .i64 cd, .int .i64 ce, .slice ta vn tc, .int .i64 now] 77 (0, 0))) := Lib.hid ((hfar0 (mbn) (blk_ne MB.out XF.out (by decide))).trans MB.out)
          have XFz : Hid ((w107.setCell ⟨w101.heap.size, 1, none⟩ (.int .i64 seq)).heap[w101.heap.size]? = some (.cells #[.int .i64 1, .int .i64 seq, .bool xo, .string ⟨xc.toArray⟩, .int .i64 xa, .int .i64 xb, .int .i64 xd, .string ⟨xs.toArray⟩, .int .u64 0, .slice none 0 0] 60 (0, 0))) := Lib.hid (heap_setCell_same _ (w101.heap.size) 1 _ _ (.int .i64 seq) XF.out)
          have XLz : Hid ((w107.setCell ⟨w101.heap.size, 1, none⟩ (.int .i64 seq)).heap[w101.heap.size + 1]? = some (.cells #[.int .i64 seq, .slice a2 rn c2, .bool la, .int .i64 tok, .int .i64 at', .bool false, .int .i64 dg] 30 (0, 0))) := Lib.hid ((hfar0 (w101.heap.size + 1) (blk_ne XL.out XF.out (by decide))).trans XL.out)
          have XBz : Hid ((w107.setCell ⟨w101.heap.size, 1, none⟩ (.int .i64 seq)).heap[w105.heap.size]? = some (.cells #[.int .i64 bx, .int .i64 bt] 28 (0, 0))) := Lib.hid ((hfar0 (w105.heap.size) (blk_ne XB.out XF.out (by decide))).trans XB.out)
          have KQ0z : Hid (KQ w (w107.setCell ⟨w101.heap.size, 1, none⟩ (.int .i64 seq)) (.slice qa qn qc) (⟨xc, xo, ⟨xa, xb, xd, xs⟩⟩ :: r)) := Lib.hid (KQ0.out.past XF.out (by decide) hfar0)
          have HBrz : Hid (Below wr.heap.size wr (w107.setCell ⟨w101.heap.size, 1, none⟩ (.int .i64 seq))) := Lib.hid (HBr.out.setCell hxfr _)
          have KF0z : Hid (KF w (w107.setCell ⟨w101.heap.size, 1, none⟩ (.int .i64 seq)) (.slice fa ps.length fc) ps) := Lib.hid (KFr.out.later HBrz.out)
          have QNz : Hid (KQ w (w107.setCell ⟨w101.heap.size, 1, none⟩ (.int .i64 seq)) (.slice a2 rn c2) r) := Lib.hid (QN.out.past XF.out (by decide) hfar0)
          have HBz : Hid (Below w.heap.size w (w107.setCell ⟨w101.heap.size, 1, none⟩ (.int .i64 seq))) := Lib.hid (HB.out.setCell hXF _)
          clear CB LB RB MB XF XL XB KQ0 HBr KF0 QN HB hfar0
          generalize w107.setCell ⟨w101.heap.size, 1, none⟩ (.int .i64 seq) = w108 at CBz LBz RBz MBz XFz XLz XBz KQ0z HBrz KF0z QNz HBz ⊢
          have CB := CBz
          have LB := LBz
          have RB := RBz
          have MB := MBz
          have XF := XFz
          have XL := XLz
          have XB := XBz
          have KQ0 := KQ0z
          have HBr := HBrz
          have KF0 := KF0z
          have QN := QNz
          have HB := HBz
          clear CBz LBz RBz MBz XFz XLz XBz KQ0z HBrz KF0z QNz HBz
          obtain ⟨⟨XFc0, XFc1, XFc2, XFc3, XFc4, XFc5, XFc6, XFc7, XFc8, XFc9⟩, ⟨XFf0, XFf1, XFf2, XFf3, XFf4, XFf5, XFf6, XFf7, XFf8, XFf9⟩⟩ := blk10 XF.out
          have b109 := bl_newZ w108 (.cells #[.int .i64 1, .int .i64 seq, .bool xo, .string ⟨xc.toArray⟩, .int .i64 xa, .int .i64 xb, .int .i64 xd, .string ⟨xs.toArray⟩, .int .u64 0, .slice none 0 0] 60)
          have XA := newQ w108 (.cells #[.int .i64 1, .int .i64 seq, .bool xo, .string ⟨xc.toArray⟩, .int .i64 xa, .int .i64 xb, .int .i64 xd, .string ⟨xs.toArray⟩, .int .u64 0, .slice none 0 0] 60)
          have hXA : w.heap.size ≤ w108.heap.size := HB.out.size
          replace CB := Lib.hid (upQ CB.out b109)
          replace LB := Lib.hid (upQ LB.out b109)
          replace RB := Lib.hid (upQ RB.out b109)
          replace MB := Lib.hid (upQ MB.out b109)
          replace XF := Lib.hid (upQ XF.out b109)
          replace XL := Lib.hid (upQ XL.out b109)
          replace XB := Lib.hid (upQ XB.out b109)
          replace KQ0 := Lib.hid (KQ.later KQ0.out b109)
          replace HBr := Lib.hid (below2Z HBr.out b109)
          replace KF0 := Lib.hid (KF.later KF0.out b109)
          replace QN := Lib.hid (KQ.later QN.out b109)
          replace HB := Lib.hid (below2Z HB.out b109)
          clear b109
          replace XA := Lib.hid XA
          have SRC := srcS_new (vals := frVals) (w := w108) (r := (⟨⟨1, seq, xo, xc, ⟨xa, xb, xd, xs⟩, 0, []⟩, none, 0, 0⟩ : FrS)) (cs := #[.int .i64 1, .int .i64 seq, .bool xo, .string ⟨xc.toArray⟩, .int .i64 xa, .int .i64 xb, .int .i64 xd, .string ⟨xs.toArray⟩, .int .u64 0, .slice none 0 0]) rfl (e := 60) (B := w108.heap.size) rfl _ rfl
          have KTP : KT w (w108.alloc (.cells #[.int .i64 1, .int .i64 seq, .bool xo, .string ⟨xc.toArray⟩, .int .i64 xa, .int .i64 xb, .int .i64 xd, .string ⟨xs.toArray⟩, .int .u64 0, .slice none 0 0] 60)) (⟨⟨1, seq, xo, xc, ⟨xa, xb, xd, xs⟩, 0, []⟩, none, 0, 0⟩ : FrS) := .inl ⟨rfl, rfl⟩
          go_wp2_with (at_builtin; go_must (refine wpList_append_fr rfl (.tmp 60) (.tmp 62) rfl w.heap.size _ ps rfl (by exact KF0.out.1) ⟨w108.heap.size, 0, none⟩ (⟨⟨1, seq, xo, xc, ⟨xa, xb, xd, xs⟩, 0, []⟩, none, 0, 0⟩ : FrS) rfl SRC (by omega) HB.out.size ?_))
          intro fv w110 ho hbl hfar
          have CBz := Lib.hid (blk_app CB.out KF0.out.1 (by decide) hfar)
          have LBz := Lib.hid (blk_app LB.out KF0.out.1 (by decide) hfar)
          have RBz := Lib.hid (blk_app RB.out KF0.out.1 (by decide) hfar)
          have MBz := Lib.hid (blk_app MB.out KF0.out.1 (by decide) hfar)
          have XLz := Lib.hid (blk_app XL.out KF0.out.1 (by decide) hfar)
          have XBz := Lib.hid (blk_app XB.out KF0.out.1 (by decide) hfar)
          have KQ0z := Lib.hid (KQ0.out.app KF0.out.1 hfar)
          have KF0z := Lib.hid (KF0.out.more KTP ho hfar)
          have HBz := Lib.hid (HB.out.trans hbl)
          have QNz := Lib.hid (QN.out.app KF0.out.1 hfar)
          clear XFc0 XFc1 XFc2 XFc3 XFc4 XFc5 XFc6 XFc7 XFc8 XFc9 XFf0 XFf1 XFf2 XFf3 XFf4 XFf5 XFf6 XFf7 XFf8 XFf9 CB LB RB MB XL XB KQ0 KF0 HB QN XF XA SRC KTP ho hbl hfar HBr KFr hxfr
          have CB := CBz
          have LB := LBz
          have RB := RBz
          have MB := MBz
          have XL := XLz
          have XB := XBz
          have KQ0 := KQ0z
          have KF0 := KF0z
          have HB := HBz
          have QN := QNz
          clear CBz LBz RBz MBz XLz XBz KQ0z KF0z HBz QNz
          obtain ⟨fa2, fc2, rfl⟩ := kf_shape KF0.out
          clear KQ0
          have KQ0 := QN
          clear QN
          obtain ⟨⟨XLc0, XLc1, XLc2, XLc3, XLc4, XLc5, XLc6⟩, ⟨XLf0, XLf1, XLf2, XLf3, XLf4, XLf5, XLf6⟩⟩ := blk7 XL.out
          obtain ⟨⟨LBc0, LBc1, LBc2, LBc3, LBc4, LBc5, LBc6⟩, ⟨LBf0, LBf1, LBf2, LBf3, LBf4, LBf5, LBf6⟩⟩ := blk7 LB.out
          go_upto_region 13 with fail
          clear XLc0 XLc1 XLc2 XLc3 XLc4 XLc5 XLc6 XLf0 XLf1 XLf2 XLf3 XLf4 XLf5 XLf6 LBc0 LBc1 LBc2 LBc3 LBc4 LBc5 LBc6 LBf0 LBf1 LBf2 LBf3 LBf4 LBf5 LBf6
          have hfar0 : ∀ k, ¬ k = w.heap.size + 1 → (((((((w110.setCell ⟨w.heap.size + 1, 0, none⟩ (.int .i64 seq)).setCell ⟨w.heap.size + 1, 1, none⟩ (.slice a2 rn c2)).setCell ⟨w.heap.size + 1, 2, none⟩ (.bool la)).setCell ⟨w.heap.size + 1, 3, none⟩ (.int .i64 tok)).setCell ⟨w.heap.size + 1, 4, none⟩ (.int .i64 at')).setCell ⟨w.heap.size + 1, 5, none⟩ (.bool false)).setCell ⟨w.heap.size + 1, 6, none⟩ (.int .i64 dg)).heap[k]? = w110.heap[k]? := fun k hk => by rw [Below.heap_setCell _ _ _ k hk, Below.heap_setCell _ _ _ k hk, Below.heap_setCell _ _ _ k hk, Below.heap_setCell _ _ _ k hk, Below.heap_setCell _ _ _ k hk, Below.heap_setCell _ _ _ k hk, Below.heap_setCell _ _ _ k hk]
          have CBz : Hid ((((((((w110.setCell ⟨w.heap.size + 1, 0, none⟩ (.int .i64 seq)).setCell ⟨w.heap.size + 1, 1, none⟩ (.slice a2 rn c2)).setCell ⟨w.heap.size + 1, 2, none⟩ (.bool la)).setCell ⟨w.heap.size + 1, 3, none⟩ (.int .i64 tok)).setCell ⟨w.heap.size + 1, 4, none⟩ (.int .i64 at')).setCell ⟨w.heap.size + 1, 5, none⟩ (.bool false)).setCell ⟨w.heap.size + 1, 6, none⟩ (.int .i64 dg)).heap[w.heap.size]? = some (.cells #[.int .i64 ca, .int .i64 cb, .int .i64 cd, .int .i64 ce] 23 (0, 0))) := Lib.hid ((hfar0 (w.heap.size) (blk_ne CB.out LB.out (by decide))).trans CB.out)
          have LBz : Hid ((((((((w110.setCell ⟨w.heap.size + 1, 0, none⟩ (.int .i64 seq)).setCell ⟨w.heap.size + 1, 1, none⟩ (.slice a2 rn c2)).setCell ⟨w.heap.size + 1, 2, none⟩ (.bool la)).setCell ⟨w.heap.size + 1, 3, none⟩ (.int .i64 tok)).setCell ⟨w.heap.size + 1, 4, none⟩ (.int .i64 at')).setCell ⟨w.heap.size + 1, 5, none⟩ (.bool false)).setCell ⟨w.heap.size + 1, 6, none⟩ (.int .i64 dg)).heap[w.heap.size + 1]? = some (.cells #[.int .i64 seq, .slice a2 rn c2, .bool la, .int .i64 tok, .int .i64 at', .bool false, .int .i64 dg] 30 (0, 0))) := Lib.hid (heap_setCell_same _ (w.heap.size + 1) 6 _ _ (.int .i64 dg) (heap_setCell_same _ (w.heap.size + 1) 5 _ _ (.bool false) (heap_setCell_same _ (w.heap.size + 1) 4 _ _ (.int .i64 at') (heap_setCell_same _ (w.heap.size + 1) 3 _ _ (.int .i64 tok) (heap_setCell_same _ (w.heap.size + 1) 2 _ _ (.bool la) (heap_setCell_same _ (w.heap.size + 1) 1 _ _ (.slice a2 rn c2) (heap_setCell_same _ (w.heap.size + 1) 0 _ _ (.int .i64 seq) LB.out)))))))
          have RBz : Hid ((((((((w110.setCell ⟨w.heap.size + 1, 0, none⟩ (.int .i64 seq)).setCell ⟨w.heap.size + 1, 1, none⟩ (.slice a2 rn c2)).setCell ⟨w.heap.size + 1, 2, none⟩ (.bool la)).setCell ⟨w.heap.size + 1, 3, none⟩ (.int .i64 tok)).setCell ⟨w.heap.size + 1, 4, none⟩ (.int .i64 at')).setCell ⟨w.heap.size + 1, 5, none⟩ (.bool false)).setCell ⟨w.heap.size + 1, 6, none⟩ (.int .i64 dg)).heap[w.heap.size + 1 + 1]? = some (.cells #[.int .i64 0, .slice none 0 0, .bool false, .int .i64 0, .int .i64 0, .bool false, .int .i64 0] 30 (0, 0))) := Lib.hid ((hfar0 (w.heap.size + 1 + 1) (by omega)).trans RB.out)
          have MBz : Hid ((((((((w110.setCell ⟨w.heap.size + 1, 0, none⟩ (.int .i64 seq)).setCell ⟨w.heap.size + 1, 1, none⟩ (.slice a2 rn c2)).setCell ⟨w.heap.size + 1, 2, none⟩ (.bool la)).setCell ⟨w.heap.size + 1, 3, none⟩ (.int .i64 tok)).setCell ⟨w.heap.size + 1, 4, none⟩ (.int .i64 at')).setCell ⟨w.heap.size + 1, 5, none⟩ (.bool false)).setCell ⟨w.heap.size + 1, 6, none⟩ (.int .i64 dg)).heap[mbn]? = some (.cells #[.int .i64 ca, .int .i64 cb, .int .i64 cd, .int .i64 ce, .slice ta vn tc, .int .i64 now] 77 (0, 0))) := Lib.hid ((hfar0 (mbn) (blk_ne MB.out LB.out (by decide))).trans MB.out)
          have XLz : Hid ((((((((w110.setCell ⟨w.heap.size + 1, 0, none⟩ (.int .i64 seq)).setCell ⟨w.heap.size + 1, 1, none⟩ (.slice a2 rn c2)).setCell ⟨w.heap.size + 1, 2, none⟩ (.bool la)).setCell ⟨w.heap.size + 1, 3, none⟩ (.int .i64 tok)).setCell ⟨w.heap.size + 1, 4, none⟩ (.int .i64 at')).setCell ⟨w.heap.size + 1, 5, none⟩ (.bool false)).setCell ⟨w.heap.size + 1, 6, none⟩ (.int .i64 dg)).heap[w101.heap.size + 1]? = some (.cells #[.int .i64 seq, .slice a2 rn c2, .bool la, .int .i64 tok, .int .i64 at', .bool false, .int .i64 dg] 30 (0, 0))) := Lib.hid ((hfar0 (w101.heap.size + 1) (by omega)).trans XL.out)
          have XBz : Hid ((((((((w110.setCell ⟨w.heap.size + 1, 0, none⟩ (.int .i64 seq)).setCell ⟨w.heap.size + 1, 1, none⟩ (.slice a2 rn c2)).setCell ⟨w.heap.size + 1, 2, none⟩ (.bool la)).setCell ⟨w.heap.size + 1, 3, none⟩ (.int .i64 tok)).setCell ⟨w.heap.size + 1, 4, none⟩ (.int .i64 at')).setCell ⟨w.heap.size + 1, 5, none⟩ (.bool false)).setCell ⟨w.heap.size + 1, 6, none⟩ (.int .i64 dg)).heap[w105.heap.size]? = some (.cells #[.int .i64 bx, .int .i64 bt] 28 (0, 0))) := Lib.hid ((hfar0 (w105.heap.size) (blk_ne XB.out LB.out (by decide))).trans XB.out)
          have KQ0z : Hid (KQ w (((((((w110.setCell ⟨w.heap.size + 1, 0, none⟩ (.int .i64 seq)).setCell ⟨w.heap.size + 1, 1, none⟩ (.slice a2 rn c2)).setCell ⟨w.heap.size + 1, 2, none⟩ (.bool la)).setCell ⟨w.heap.size + 1, 3, none⟩ (.int .i64 tok)).setCell ⟨w.heap.size + 1, 4, none⟩ (.int .i64 at')).setCell ⟨w.heap.size + 1, 5, none⟩ (.bool false)).setCell ⟨w.heap.size + 1, 6, none⟩ (.int .i64 dg)) (.slice a2 rn c2) r) := Lib.hid (KQ0.out.past LB.out (by decide) hfar0)
          have KF0z : Hid (KF w (((((((w110.setCell ⟨w.heap.size + 1, 0, none⟩ (.int .i64 seq)).setCell ⟨w.heap.size + 1, 1, none⟩ (.slice a2 rn c2)).setCell ⟨w.heap.size + 1, 2, none⟩ (.bool la)).setCell ⟨w.heap.size + 1, 3, none⟩ (.int .i64 tok)).setCell ⟨w.heap.size + 1, 4, none⟩ (.int .i64 at')).setCell ⟨w.heap.size + 1, 5, none⟩ (.bool false)).setCell ⟨w.heap.size + 1, 6, none⟩ (.int .i64 dg)) (.slice fa2 (ps ++ [(⟨⟨1, seq, xo, xc, ⟨xa, xb, xd, xs⟩, 0, []⟩, none, 0, 0⟩ : FrS)]).length fc2) (ps ++ [(⟨⟨1, seq, xo, xc, ⟨xa, xb, xd, xs⟩, 0, []⟩, none, 0, 0⟩ : FrS)])) := Lib.hid (KF0.out.past LB.out (by decide) (by decide) hfar0)
          have HBz : Hid (Below w.heap.size w (((((((w110.setCell ⟨w.heap.size + 1, 0, none⟩ (.int .i64 seq)).setCell ⟨w.heap.size + 1, 1, none⟩ (.slice a2 rn c2)).setCell ⟨w.heap.size + 1, 2, none⟩ (.bool la)).setCell ⟨w.heap.size + 1, 3, none⟩ (.int .i64 tok)).setCell ⟨w.heap.size + 1, 4, none⟩ (.int .i64 at')).setCell ⟨w.heap.size + 1, 5, none⟩ (.bool false)).setCell ⟨w.heap.size + 1, 6, none⟩ (.int .i64 dg))) := Lib.hid (((((((HB.out.setCell hle1 _).setCell hle1 _).setCell hle1 _).setCell hle1 _).setCell hle1 _).setCell hle1 _).setCell hle1 _)
          clear CB LB RB MB XL XB KQ0 KF0 HB hfar0
          generalize ((((((w110.setCell ⟨w.heap.size + 1, 0, none⟩ (.int .i64 seq)).setCell ⟨w.heap.size + 1, 1, none⟩ (.slice a2 rn c2)).setCell ⟨w.heap.size + 1, 2, none⟩ (.bool la)).setCell ⟨w.heap.size + 1, 3, none⟩ (.int .i64 tok)).setCell ⟨w.heap.size + 1, 4, none⟩ (.int .i64 at')).setCell ⟨w.heap.size + 1, 5, none⟩ (.bool false)).setCell ⟨w.heap.size + 1, 6, none⟩ (.int .i64 dg) = w111 at CBz LBz RBz MBz XLz XBz KQ0z KF0z HBz ⊢
          have CB := CBz
          have LB := LBz
          have RB := RBz
          have MB := MBz
          have XL := XLz
          have XB := XBz
          have KQ0 := KQ0z
          have KF0 := KF0z
          have HB := HBz
          clear CBz LBz RBz MBz XLz XBz KQ0z KF0z HBz
          clear XL
          obtain ⟨⟨XBc0, XBc1⟩, ⟨XBf0, XBf1⟩⟩ := blk2 XB.out
          obtain ⟨⟨LBc0, LBc1, LBc2, LBc3, LBc4, LBc5, LBc6⟩, ⟨LBf0, LBf1, LBf2, LBf3, LBf4, LBf5, LBf6⟩⟩ := blk7 LB.out
          go_upto_region 14 with fail
          clear XBc0 XBc1 XBf0 XBf1 LBc0 LBc1 LBc2 LBc3 LBc4 LBc5 LBc6 LBf0 LBf1 LBf2 LBf3 LBf4 LBf5 LBf6
          have hfar0 : ∀ k, ¬ k = w.heap.size + 1 → ((w111.setCell ⟨w.heap.size + 1, 3, none⟩ (.int .i64 bx)).setCell ⟨w.heap.size + 1, 4, none⟩ (.int .i64 bt)).heap[k]? = w111.heap[k]? := fun k hk => by rw [Below.heap_setCell _ _ _ k hk, Below.heap_setCell _ _ _ k hk]
          have CBz : Hid (((w111.setCell ⟨w.heap.size + 1, 3, none⟩ (.int .i64 bx)).setCell ⟨w.heap.size + 1, 4, none⟩ (.int .i64 bt)).heap[w.heap.size]? = some (.cells #[.int .i64 ca, .int .i64 cb, .int .i64 cd, .int .i64 ce] 23 (0, 0))) := Lib.hid ((hfar0 (w.heap.size) (blk_ne CB.out LB.out (by decide))).trans CB.out)
          have LBz : Hid (((w111.setCell ⟨w.heap.size + 1, 3, none⟩ (.int .i64 bx)).setCell ⟨w.heap.size + 1, 4, none⟩ (.int .i64 bt)).heap[w.heap.size + 1]? = some (.cells #[.int .i64 seq, .slice a2 rn c2, .bool la, .int .i64 bx, .int .i64 bt, .bool false, .int .i64 dg] 30 (0, 0))) := Lib.hid (heap_setCell_same _ (w.heap.size + 1) 4 _ _ (.int .i64 bt) (heap_setCell_same _ (w.heap.size + 1) 3 _ _ (.int .i64 bx) LB.out))
          have RBz : Hid (((w111.setCell ⟨w.heap.size + 1, 3, none⟩ (.int .i64 bx)).setCell ⟨w.heap.size + 1, 4, none⟩ (.int .i64 bt)).heap[w.heap.size + 1 + 1]? = some (.cells #[.int .i64 0, .slice none 0 0, .bool false, .int .i64 0, .int .i64 0, .bool false, .int .i64 0] 30 (0, 0))) := Lib.hid ((hfar0 (w.heap.size + 1 + 1) (by omega)).trans RB.out)
          have MBz : Hid (((w111.setCell ⟨w.heap.size + 1, 3, none⟩ (.int .i64 bx)).setCell ⟨w.heap.size + 1, 4, none⟩ (.int .i64 bt)).heap[mbn]? = some (.cells #[.int .i64 ca, .int .i64 cb, .int .i64 cd, .int .i64 ce, .slice ta vn tc, .int .i64 now] 77 (0, 0))) := Lib.hid ((hfar0 (mbn) (blk_ne MB.out LB.out (by decide))).trans MB.out)
          have XBz : Hid (((w111.setCell ⟨w.heap.size + 1, 3, none⟩ (.int .i64 bx)).setCell ⟨w.heap.size + 1, 4, none⟩ (.int .i64 bt)).heap[w105.heap.size]? = some (.cells #[.int .i64 bx, .int .i64 bt] 28 (0, 0))) := Lib.hid ((hfar0 (w105.heap.size) (blk_ne XB.out LB.out (by decide))).trans XB.out)
          have KQ0z : Hid (KQ w ((w111.setCell ⟨w.heap.size + 1, 3, none⟩ (.int .i64 bx)).setCell ⟨w.heap.size + 1, 4, none⟩ (.int .i64 bt)) (.slice a2 rn c2) r) := Lib.hid (KQ0.out.past LB.out (by decide) hfar0)
          have KF0z : Hid (KF w ((w111.setCell ⟨w.heap.size + 1, 3, none⟩ (.int .i64 bx)).setCell ⟨w.heap.size + 1, 4, none⟩ (.int .i64 bt)) (.slice fa2 (ps ++ [(⟨⟨1, seq, xo, xc, ⟨xa, xb, xd, xs⟩, 0, []⟩, none, 0, 0⟩ : FrS)]).length fc2) (ps ++ [(⟨⟨1, seq, xo, xc, ⟨xa, xb, xd, xs⟩, 0, []⟩, none, 0, 0⟩ : FrS)])) := Lib.hid (KF0.out.past LB.out (by decide) (by decide) hfar0)
          have HBz : Hid (Below w.heap.size w ((w111.setCell ⟨w.heap.size + 1, 3, none⟩ (.int .i64 bx)).setCell ⟨w.heap.size + 1, 4, none⟩ (.int .i64 bt))) := Lib.hid ((HB.out.setCell hle1 _).setCell hle1 _)
          clear CB LB RB MB XB KQ0 KF0 HB hfar0
          generalize (w111.setCell ⟨w.heap.size + 1, 3, none⟩ (.int .i64 bx)).setCell ⟨w.heap.size + 1, 4, none⟩ (.int .i64 bt) = w112 at CBz LBz RBz MBz XBz KQ0z KF0z HBz ⊢
          have CB := CBz
          have LB := LBz
          have RB := RBz
          have MB := MBz
          have XB := XBz
          have KQ0 := KQ0z
          have KF0 := KF0z
          have HB := HBz
          clear CBz LBz RBz MBz XBz KQ0z KF0z HBz
          clear XB
          obtain ⟨⟨LBc0, LBc1, LBc2, LBc3, LBc4, LBc5, LBc6⟩, ⟨LBf0, LBf1, LBf2, LBf3, LBf4, LBf5, LBf6⟩⟩ := blk7 LB.out
          go_wp2_with fail
          clear LBc0 LBc1 LBc2 LBc3 LBc4 LBc5 LBc6 LBf0 LBf1 LBf2 LBf3 LBf4 LBf5 LBf6
          have hfar0 : ∀ k, ¬ k = w.heap.size + 1 → (w112.setCell ⟨w.heap.size + 1, 0, none⟩ (.int .i64 (seq + 1))).heap[k]? = w112.heap[k]? := fun k hk => by rw [Below.heap_setCell _ _ _ k hk]
          have CBz : Hid ((w112.setCell ⟨w.heap.size + 1, 0, none⟩ (.int .i64 (seq + 1))).heap[w.heap.size]? = some (.cells #[.int .i64 ca, .int .i64 cb, .int .i64 cd, .int .i64 ce] 23 (0, 0))) := Lib.hid ((hfar0 (w.heap.size) (blk_ne CB.out LB.out (by decide))).trans CB.out)
          have LBz : Hid ((w112.setCell ⟨w.heap.size + 1, 0, none⟩ (.int .i64 (seq + 1))).heap[w.heap.size + 1]? = some (.cells #[.int .i64 (seq + 1), .slice a2 rn c2, .bool la, .int .i64 bx, .int .i64 bt, .bool false, .int .i64 dg] 30 (0, 0))) := Lib.hid (heap_setCell_same _ (w.heap.size + 1) 0 _ _ (.int .i64 (seq + 1)) LB.out)
          have RBz : Hid ((w112.setCell ⟨w.heap.size + 1, 0, none⟩ (.int .i64 (seq + 1))).heap[w.heap.size + 1 + 1]? = some (.cells #[.int .i64 0, .slice none 0 0, .bool false, .int .i64 0, .int .i64 0, .bool false, .int .i64 0] 30 (0, 0))) := Lib.hid ((hfar0 (w.heap.size + 1 + 1) (by omega)).trans RB.out)
          have MBz : Hid ((w112.setCell ⟨w.heap.size + 1, 0, none⟩ (.int .i64 (seq + 1))).heap[mbn]? = some (.cells #[.int .i64 ca, .int .i64 cb, .int .i64 cd, .int .i64 ce, .slice ta vn tc, .int .i64 now] 77 (0, 0))) := Lib.hid ((hfar0 (mbn) (blk_ne MB.out LB.out (by decide))).trans MB.out)
          have KQ0z : Hid (KQ w (w112.setCell ⟨w.heap.size + 1, 0, none⟩ (.int .i64 (seq + 1))) (.slice a2 rn c2) r) := Lib.hid (KQ0.out.past LB.out (by decide) hfar0)
          have KF0z : Hid (KF w (w112.setCell ⟨w.heap.size + 1, 0, none⟩ (.int .i64 (seq + 1))) (.slice fa2 (ps ++ [(⟨⟨1, seq, xo, xc, ⟨xa, xb, xd, xs⟩, 0, []⟩, none, 0, 0⟩ : FrS)]).length fc2) (ps ++ [(⟨⟨1, seq, xo, xc, ⟨xa, xb, xd, xs⟩, 0, []⟩, none, 0, 0⟩ : FrS)])) := Lib.hid (KF0.out.past LB.out (by decide) (by decide) hfar0)
          have HBz : Hid (Below w.heap.size w (w112.setCell ⟨w.heap.size + 1, 0, none⟩ (.int .i64 (seq + 1)))) := Lib.hid (HB.out.setCell hle1 _)
          clear CB LB RB MB KQ0 KF0 HB hfar0
          have CB := CBz
          have LB := LBz
          have RB := RBz
          have MB := MBz
          have KQ0 := KQ0z
          have KF0 := KF0z
          have HB := HBz
          clear CBz LBz RBz MBz KQ0z KF0z HBz
          go_roundw
          case rel => exact ⟨seq + 1, bx, bt, dg, false, la, r, a2, rn, c2, ps ++ [(⟨⟨1, seq, xo, xc, ⟨xa, xb, xd, xs⟩, 0, []⟩, none, 0, 0⟩ : FrS)], fa2, fc2, n - 1, rfl, Lib.hid (by rw [List.map_append]; exact HE2.out), CB, LB, RB, MB, KQ0, KF0, HB⟩
          case measure => simp [slLen]; omega
      case nil =>
        by_cases hdue : now - dg < ce
        case neg =>
          have HDUE : Hid (ce ≤ now - dg) := Lib.hid (Int.not_lt.1 hdue)
          obtain ⟨⟨MBc0, MBc1, MBc2, MBc3, MBc4, MBc5⟩, ⟨MBf0, MBf1, MBf2, MBf3, MBf4, MBf5⟩⟩ := blk6 MB.out
          obtain ⟨⟨LBc0, LBc1, LBc2, LBc3, LBc4, LBc5, LBc6⟩, ⟨LBf0, LBf1, LBf2, LBf3, LBf4, LBf5, LBf6⟩⟩ := blk7 LB.out
          go_wp2_with fail
          clear MBc0 MBc1 MBc2 MBc3 MBc4 MBc5 MBf0 MBf1 MBf2 MBf3 MBf4 MBf5 LBc0 LBc1 LBc2 LBc3 LBc4 LBc5 LBc6 LBf0 LBf1 LBf2 LBf3 LBf4 LBf5 LBf6 t1
          refine (lnext_g (KQ0.out.chgs HB.out) (HT.out _ HB.out) seq tok at' dg ca cb cd ce now la rfl hn0 hn1 hd0 hd1 (Int.not_lt.2 HDUE.out) HH.out hvl).mono ?_
          rintro e w101 ⟨rfl, b101⟩
          replace CB := Lib.hid (upQ CB.out b101)
          replace LB := Lib.hid (upQ LB.out b101)
          replace RB := Lib.hid (upQ RB.out b101)
          replace MB := Lib.hid (upQ MB.out b101)
          replace KQ0 := Lib.hid (KQ.later KQ0.out b101)
          replace HBr := Lib.hid (below2Z HBr.out b101)
          replace KF0 := Lib.hid (KF.later KF0.out b101)
          replace HB := Lib.hid (below2Z HB.out b101)
          clear b101
          have hlb := (Array.getElem?_eq_some_iff.1 LB.out).1
          have hrb := (Array.getElem?_eq_some_iff.1 RB.out).1
          have hmm := (Array.getElem?_eq_some_iff.1 MB.out).1
          have hxfr := HBr.out.size
          have b102 := bl_newZ w101 (.cells #[.int .i64 2, .int .i64 0, .bool false, .string ⟨#[]⟩, .int .i64 0, .int .i64 0, .int .i64 0, .string ⟨#[]⟩, .int .u64 (diSum view), .slice none 0 0] 60)
          have XF := newQ w101 (.cells #[.int .i64 2, .int .i64 0, .bool false, .string ⟨#[]⟩, .int .i64 0, .int .i64 0, .int .i64 0, .string ⟨#[]⟩, .int .u64 (diSum view), .slice none 0 0] 60)
          have hXF : w.heap.size ≤ w101.heap.size := HB.out.size
          replace CB := Lib.hid (upQ CB.out b102)
          replace LB := Lib.hid (upQ LB.out b102)
          replace RB := Lib.hid (upQ RB.out b102)
          replace MB := Lib.hid (upQ MB.out b102)
          replace KQ0 := Lib.hid (KQ.later KQ0.out b102)
          replace HBr := Lib.hid (below2Z HBr.out b102)
          replace KF0 := Lib.hid (KF.later KF0.out b102)
          replace HB := Lib.hid (below2Z HB.out b102)
          clear b102
          replace XF := Lib.hid XF
          have b103 := bl_newZ (w101.alloc (.cells #[.int .i64 2, .int .i64 0, .bool false, .string ⟨#[]⟩, .int .i64 0, .int .i64 0, .int .i64 0, .string ⟨#[]⟩, .int .u64 (diSum view), .slice none 0 0] 60)) (.cells #[.int .i64 seq, .slice qa qn qc, .bool la, .int .i64 tok, .int .i64 at', .bool false, .int .i64 now] 30)
          have XL := newQ (w101.alloc (.cells #[.int .i64 2, .int .i64 0, .bool false, .string ⟨#[]⟩, .int .i64 0, .int .i64 0, .int .i64 0, .string ⟨#[]⟩, .int .u64 (diSum view), .slice none 0 0] 60)) (.cells #[.int .i64 seq, .slice qa qn qc, .bool la, .int .i64 tok, .int .i64 at', .bool false, .int .i64 now] 30)
          have hXL : w.heap.size ≤ (w101.alloc (.cells #[.int .i64 2, .int .i64 0, .bool false, .string ⟨#[]⟩, .int .i64 0, .int .i64 0, .int .i64 0, .string ⟨#[]⟩, .int .u64 (diSum view), .slice none 0 0] 60)).heap.size := HB.out.size
          rw [World.size_alloc] at XL hXL
          replace CB := Lib.hid (upQ CB.out b103)
          replace LB := Lib.hid (upQ LB.out b103)
          replace RB := Lib.hid (upQ RB.out b103)
          replace MB := Lib.hid (upQ MB.out b103)
          replace XF := Lib.hid (upQ XF.out b103)
          replace KQ0 := Lib.hid (KQ.later KQ0.out b103)
          replace HBr := Lib.hid (below2Z HBr.out b103)
          replace KF0 := Lib.hid (KF.later KF0.out b103)
          replace HB := Lib.hid (below2Z HB.out b103)
          clear b103
          replace XL := Lib.hid XL
          go_upto_region 8 with fail
          generalize (w101.alloc (.cells #[.int .i64 2, .int .i64 0, .bool false, .string ⟨#[]⟩, .int .i64 0, .int .i64 0, .int .i64 0, .string ⟨#[]⟩, .int .u64 (diSum view), .slice none 0 0] 60)).alloc (.cells #[.int .i64 seq, .slice qa qn qc, .bool la, .int .i64 tok, .int .i64 at', .bool false, .int .i64 now] 30) = w104 at CB LB RB MB XF XL KQ0 HBr KF0 HB ⊢
          obtain ⟨⟨CBc0, CBc1, CBc2, CBc3⟩, ⟨CBf0, CBf1, CBf2, CBf3⟩⟩ := blk4 CB.out
          obtain ⟨⟨LBc0, LBc1, LBc2, LBc3, LBc4, LBc5, LBc6⟩, ⟨LBf0, LBf1, LBf2, LBf3, LBf4, LBf5, LBf6⟩⟩ := blk7 LB.out
          go_wp2_with fail
          clear CBc0 CBc1 CBc2 CBc3 CBf0 CBf1 CBf2 CBf3 LBc0 LBc1 LBc2 LBc3 LBc4 LBc5 LBc6 LBf0 LBf1 LBf2 LBf3 LBf4 LBf5 LBf6
          refine (ptake_any ca cb cd ce tok at' now HP _).mono ?_
          rintro e w105 ⟨rfl, b105⟩
          replace CB := Lib.hid (upQ CB.out b105)
          replace LB := Lib.hid (upQ LB.out b105)
          replace RB := Lib.hid (upQ RB.out b105)
          replace MB := Lib.hid (upQ MB.out b105)
          replace XF := Lib.hid (upQ XF.out b105)
          replace XL := Lib.hid (upQ XL.out b105)
          replace KQ0 := Lib.hid (KQ.later KQ0.out b105)
          replace HBr := Lib.hid (below2Z HBr.out b105)
          replace KF0 := Lib.hid (KF.later KF0.out b105)
          replace HB := Lib.hid (below2Z HB.out b105)
          clear b105
          have hxl := (Array.getElem?_eq_some_iff.1 XL.out).1
          cases is with
          | false =>
            have b156 := bl_newZ w105 (.cells #[.int .i64 bx, .int .i64 bt] 28)
            have XB := newQ w105 (.cells #[.int .i64 bx, .int .i64 bt] 28)
            have hXB : w.heap.size ≤ w105.heap.size := HB.out.size
            replace CB := Lib.hid (upQ CB.out b156)
            replace LB := Lib.hid (upQ LB.out b156)
            replace RB := Lib.hid (upQ RB.out b156)
            replace MB := Lib.hid (upQ MB.out b156)
            replace XF := Lib.hid (upQ XF.out b156)
            replace XL := Lib.hid (upQ XL.out b156)
            replace KQ0 := Lib.hid (KQ.later KQ0.out b156)
            replace HBr := Lib.hid (below2Z HBr.out b156)
            replace KF0 := Lib.hid (KF.later KF0.out b156)
            replace HB := Lib.hid (below2Z HB.out b156)
            clear b156
            replace XB := Lib.hid XB
            go_upto_region 15 with fail
            generalize w105.alloc (.cells #[.int .i64 bx, .int .i64 bt] 28) = w157 at CB LB RB MB XF XL XB KQ0 HBr KF0 HB ⊢
            have hend := emp_end HE.out (stp_tok HP.out)
            rw [HR.out] at hend
            simp only [Prod.mk.injEq] at hend
            obtain ⟨rfl, rfl⟩ := hend
            clear HE HR
            obtain ⟨⟨LBc0, LBc1, LBc2, LBc3, LBc4, LBc5, LBc6⟩, ⟨LBf0, LBf1, LBf2, LBf3, LBf4, LBf5, LBf6⟩⟩ := blk7 LB.out
            obtain ⟨⟨RBc0, RBc1, RBc2, RBc3, RBc4, RBc5, RBc6⟩, ⟨RBf0, RBf1, RBf2, RBf3, RBf4, RBf5, RBf6⟩⟩ := blk7 RB.out
            go_wp2_with fail
            have hz := stN7_heap RB.out (.int .i64 seq) (.slice qa qn qc) (.bool la) (.int .i64 tok) (.int .i64 at') (.bool false) (.int .i64 dg)
            have KQz := KQ0.out.past RB.out (by decide) (fun k hk => stN7_far w157 (w.heap.size + 1 + 1) (.int .i64 seq) (.slice qa qn qc) (.bool la) (.int .i64 tok) (.int .i64 at') (.bool false) (.int .i64 dg) hk)
            have KFz := KF0.out.past RB.out (by decide) (by decide) (fun k hk => stN7_far w157 (w.heap.size + 1 + 1) (.int .i64 seq) (.slice qa qn qc) (.bool la) (.int .i64 tok) (.int .i64 at') (.bool false) (.int .i64 dg) hk)
            have HBz := stN7_below HB.out hle2 (.int .i64 seq) (.slice qa qn qc) (.bool la) (.int .i64 tok) (.int .i64 at') (.bool false) (.int .i64 dg)
            obtain ⟨⟨z0, z1, z2, z3, z4, z5, z6⟩, -⟩ := blk7 hz
            unfold stN7 at z0 z1 z2 z3 z4 z5 z6
            refine bodyPost_ret (v := .tuple #[.agg #[.int .i64 seq, .slice qa qn qc, .bool la, .int .i64 tok, .int .i64 at', .bool false, .int .i64 dg], .slice fa ps.length fc]) (by simp [results, Tryz.results23, go_sem, z0, z1, z2, z3, z4, z5, z6]) rfl ⟨_, _, ps, rfl, KQz.chgs HBz, KFz, rfl, HBz⟩
          | true =>
            obtain ⟨he2, hpl⟩ := emp_step HE.out h2.out h3.out (stp_g hsq (Int.not_lt.2 HDUE.out) HP.out)
            rw [List.length_map] at hpl
            have HE2 := Lib.hid he2
            clear he2 HE HP
            have b106 := bl_newZ w105 (.cells #[.int .i64 bx, .int .i64 bt] 28)
            have XB := newQ w105 (.cells #[.int .i64 bx, .int .i64 bt] 28)
            have hXB : w.heap.size ≤ w105.heap.size := HB.out.size
            replace CB := Lib.hid (upQ CB.out b106)
            replace LB := Lib.hid (upQ LB.out b106)
            replace RB := Lib.hid (upQ RB.out b106)
            replace MB := Lib.hid (upQ MB.out b106)
            replace XF := Lib.hid (upQ XF.out b106)
            replace XL := Lib.hid (upQ XL.out b106)
            replace KQ0 := Lib.hid (KQ.later KQ0.out b106)
            replace HBr := Lib.hid (below2Z HBr.out b106)
            replace KF0 := Lib.hid (KF.later KF0.out b106)
            replace HB := Lib.hid (below2Z HB.out b106)
            clear b106
            replace XB := Lib.hid XB
            go_upto_region 10 with fail
            generalize w105.alloc (.cells #[.int .i64 bx, .int .i64 bt] 28) = w107 at CB LB RB MB XF XL XB KQ0 HBr KF0 HB ⊢
            obtain ⟨⟨LBc0, LBc1, LBc2, LBc3, LBc4, LBc5, LBc6⟩, ⟨LBf0, LBf1, LBf2, LBf3, LBf4, LBf5, LBf6⟩⟩ := blk7 LB.out
            obtain ⟨⟨XFc0, XFc1, XFc2, XFc3, XFc4, XFc5, XFc6, XFc7, XFc8, XFc9⟩, ⟨XFf0, XFf1, XFf2, XFf3, XFf4, XFf5, XFf6, XFf7, XFf8, XFf9⟩⟩ := blk10 XF.out
            go_upto_region 11 with fail
            clear LBc0 LBc1 LBc2 LBc3 LBc4 LBc5 LBc6 LBf0 LBf1 LBf2 LBf3 LBf4 LBf5 LBf6 XFc0 XFc1 XFc2 XFc3 XFc4 XFc5 XFc6 XFc7 XFc8 XFc9 XFf0 XFf1 XFf2 XFf3 XFf4 XFf5 XFf6 XFf7 XFf8 XFf9
            have hfar0 : ∀ k, ¬ k = w101.heap.size → (w107.setCell ⟨w101.heap.size, 1, none⟩ (.int .i64 seq)).heap[k]? = w107.heap[k]? := fun k hk => by rw [Below.heap_setCell _ _ _ k hk]
            have CBz : Hid ((w107.setCell ⟨w101.heap.size, 1, none⟩ (.int .i64 seq)).heap[w.heap.size]? = some (.cells #[.int .i64 ca, .int .i64 cb, .int .i64 cd, .int .i64 ce] 23 (0, 0))) := Lib.hid ((hfar0 (w.heap.size) (blk_ne CB.out XF.out (by decide))).trans CB.out)
            have LBz : Hid ((w107.setCell ⟨w101.heap.size, 1, none⟩ (.int .i64 seq)).heap[w.heap.size + 1]? = some (.cells #[.int .i64 seq, .slice qa qn qc, .bool la, .int .i64 tok, .int .i64 at', .bool false, .int .i64 dg] 30 (0, 0))) := Lib.hid ((hfar0 (w.heap.size + 1) (blk_ne LB.out XF.out (by decide))).trans LB.out)
            have RBz : Hid ((w107.setCell ⟨w101.heap.size, 1, none⟩ (.int .i64 seq)).heap[w.heap.size + 1 + 1]? = some (.cells #[.int .i64 0, .slice none 0 0, .bool false, .int .i64 0, .int .i64 0, .bool false, .int .i64 0] 30 (0, 0))) := Lib.hid ((hfar0 (w.heap.size + 1 + 1) (blk_ne RB.out XF.out (by decide))).trans RB.out)
            have MBz : Hid ((w107.setCell ⟨w101.heap.size, 1, none⟩ (.int .i64 seq)).heap[mbn]? = some (.cells #[.int .i64 ca, .int .i64 cb, .int .i64 cd, .int .i64 ce, .slice ta vn tc, .int .i64 now] 77 (0, 0))) := Lib.hid ((hfar0 (mbn) (blk_ne MB.out XF.out (by decide))).trans MB.out)
            have XFz : Hid ((w107.setCell ⟨w101.heap.size, 1, none⟩ (.int .i64 seq)).heap[w101.heap.size]? = some (.cells #[.int .i64 2, .int .i64 seq, .bool false, .string ⟨#[]⟩, .int .i64 0, .int .i64 0, .int .i64 0, .string ⟨#[]⟩, .int .u64 (diSum view), .slice none 0 0] 60 (0, 0))) := Lib.hid (heap_setCell_same _ (w101.heap.size) 1 _ _ (.int .i64 seq) XF.out)
            have XLz : Hid ((w107.setCell ⟨w101.heap.size, 1, none⟩ (.int .i64 seq)).heap[w101.heap.size + 1]? = some (.cells #[.int .i64 seq, .slice qa qn qc, .bool la, .int .i64 tok, .int .i64 at', .bool false, .int .i64 now] 30 (0, 0))) := Lib.hid ((hfar0 (w101.heap.size + 1) (blk_ne XL.out XF.out (by decide))).trans XL.out)
            have XBz : Hid ((w107.setCell ⟨w101.heap.size, 1, none⟩ (.int .i64 seq)).heap[w105.heap.size]? = some (.cells #[.int .i64 bx, .int .i64 bt] 28 (0, 0))) := Lib.hid ((hfar0 (w105.heap.size) (blk_ne XB.out XF.out (by decide))).trans XB.out)
            have KQ0z : Hid (KQ w (w107.setCell ⟨w101.heap.size, 1, none⟩ (.int .i64 seq)) (.slice qa qn qc) []) := Lib.hid (KQ0.out.past XF.out (by decide) hfar0)
            have HBrz : Hid (Below wr.heap.size wr (w107.setCell ⟨w101.heap.size, 1, none⟩ (.int .i64 seq))) := Lib.hid (HBr.out.setCell hxfr _)
            have KF0z : Hid (KF w (w107.setCell ⟨w101.heap.size, 1, none⟩ (.int .i64 seq)) (.slice fa ps.length fc) ps) := Lib.hid (KFr.out.later HBrz.out)
            have HBz : Hid (Below w.heap.size w (w107.setCell ⟨w101.heap.size, 1, none⟩ (.int .i64 seq))) := Lib.hid (HB.out.setCell hXF _)
            clear CB LB RB MB XF XL XB KQ0 HBr KF0 HB hfar0
            generalize w107.setCell ⟨w101.heap.size, 1, none⟩ (.int .i64 seq) = w108 at CBz LBz RBz MBz XFz XLz XBz KQ0z HBrz KF0z HBz ⊢
            have CB := CBz
            have LB := LBz
            have RB := RBz
            have MB := MBz
            have XF := XFz
            have XL := XLz
            have XB := XBz
            have KQ0 := KQ0z
            have HBr := HBrz
            have KF0 := KF0z
            have HB := HBz
            clear CBz LBz RBz MBz XFz XLz XBz KQ0z HBrz KF0z HBz
            obtain ⟨⟨XFc0, XFc1, XFc2, XFc3, XFc4, XFc5, XFc6, XFc7, XFc8, XFc9⟩, ⟨XFf0, XFf1, XFf2, XFf3, XFf4, XFf5, XFf6, XFf7, XFf8, XFf9⟩⟩ := blk10 XF.out
            have b109 := bl_newZ w108 (.cells #[.int .i64 2, .int .i64 seq, .bool false, .string ⟨#[]⟩, .int .i64 0, .int .i64 0, .int .i64 0, .string ⟨#[]⟩, .int .u64 (diSum view), .slice none 0 0] 60)
            have XA := newQ w108 (.cells #[.int .i64 2, .int .i64 seq, .bool false, .string ⟨#[]⟩, .int .i64 0, .int .i64 0, .int .i64 0, .string ⟨#[]⟩, .int .u64 (diSum view), .slice none 0 0] 60)
            have hXA : w.heap.size ≤ w108.heap.size := HB.out.size
            replace CB := Lib.hid (upQ CB.out b109)
            replace LB := Lib.hid (upQ LB.out b109)
            replace RB := Lib.hid (upQ RB.out b109)
            replace MB := Lib.hid (upQ MB.out b109)
            replace XF := Lib.hid (upQ XF.out b109)
            replace XL := Lib.hid (upQ XL.out b109)
            replace XB := Lib.hid (upQ XB.out b109)
            replace KQ0 := Lib.hid (KQ.later KQ0.out b109)
            replace HBr := Lib.hid (below2Z HBr.out b109)
            replace KF0 := Lib.hid (KF.later KF0.out b109)
            replace HB := Lib.hid (below2Z HB.out b109)
            clear b109
            replace XA := Lib.hid XA
            have SRC := srcS_new (vals := frVals) (w := w108) (r := (⟨⟨2, seq, false, [], Val.zero, diSum view, []⟩, none, 0, 0⟩ : FrS)) (cs := #[.int .i64 2, .int .i64 seq, .bool false, .string ⟨#[]⟩, .int .i64 0, .int .i64 0, .int .i64 0, .string ⟨#[]⟩, .int .u64 (diSum view), .slice none 0 0]) rfl (e := 60) (B := w108.heap.size) rfl _ rfl
            have KTP : KT w (w108.alloc (.cells #[.int .i64 2, .int .i64 seq, .bool false, .string ⟨#[]⟩, .int .i64 0, .int .i64 0, .int .i64 0, .string ⟨#[]⟩, .int .u64 (diSum view), .slice none 0 0] 60)) (⟨⟨2, seq, false, [], Val.zero, diSum view, []⟩, none, 0, 0⟩ : FrS) := .inl ⟨rfl, rfl⟩
            go_wp2_with (at_builtin; go_must (refine wpList_append_fr rfl (.tmp 60) (.tmp 62) rfl w.heap.size _ ps rfl (by exact KF0.out.1) ⟨w108.heap.size, 0, none⟩ (⟨⟨2, seq, false, [], Val.zero, diSum view, []⟩, none, 0, 0⟩ : FrS) rfl SRC (by omega) HB.out.size ?_))
            intro fv w110 ho hbl hfar
            have CBz := Lib.hid (blk_app CB.out KF0.out.1 (by decide) hfar)
            have LBz := Lib.hid (blk_app LB.out KF0.out.1 (by decide) hfar)
            have RBz := Lib.hid (blk_app RB.out KF0.out.1 (by decide) hfar)
            have MBz := Lib.hid (blk_app MB.out KF0.out.1 (by decide) hfar)
            have XLz := Lib.hid (blk_app XL.out KF0.out.1 (by decide) hfar)
            have XBz := Lib.hid (blk_app XB.out KF0.out.1 (by decide) hfar)
            have KQ0z := Lib.hid (KQ0.out.app KF0.out.1 hfar)
            have KF0z := Lib.hid (KF0.out.more KTP ho hfar)
            have HBz := Lib.hid (HB.out.trans hbl)
            clear XFc0 XFc1 XFc2 XFc3 XFc4 XFc5 XFc6 XFc7 XFc8 XFc9 XFf0 XFf1 XFf2 XFf3 XFf4 XFf5 XFf6 XFf7 XFf8 XFf9 CB LB RB MB XL XB KQ0 KF0 HB XF XA SRC KTP ho hbl hfar HBr KFr hxfr
            have CB := CBz
            have LB := LBz
            have RB := RBz
            have MB := MBz
            have XL := XLz
            have XB := XBz
            have KQ0 := KQ0z
            have KF0 := KF0z
            have HB := HBz
            clear CBz LBz RBz MBz XLz XBz KQ0z KF0z HBz
            obtain ⟨fa2, fc2, rfl⟩ := kf_shape KF0.out
            obtain ⟨⟨XLc0, XLc1, XLc2, XLc3, XLc4, XLc5, XLc6⟩, ⟨XLf0, XLf1, XLf2, XLf3, XLf4, XLf5, XLf6⟩⟩ := blk7 XL.out
            obtain ⟨⟨LBc0, LBc1, LBc2, LBc3, LBc4, LBc5, LBc6⟩, ⟨LBf0, LBf1, LBf2, LBf3, LBf4, LBf5, LBf6⟩⟩ := blk7 LB.out
            go_upto_region 13 with fail
            clear XLc0 XLc1 XLc2 XLc3 XLc4 XLc5 XLc6 XLf0 XLf1 XLf2 XLf3 XLf4 XLf5 XLf6 LBc0 LBc1 LBc2 LBc3 LBc4 LBc5 LBc6 LBf0 LBf1 LBf2 LBf3 LBf4 LBf5 LBf6
            have hfar0 : ∀ k, ¬ k = w.heap.size + 1 → (((((((w110.setCell ⟨w.heap.size + 1, 0, none⟩ (.int .i64 seq)).setCell ⟨w.heap.size + 1, 1, none⟩ (.slice qa qn qc)).setCell ⟨w.heap.size + 1, 2, none⟩ (.bool la)).setCell ⟨w.heap.size + 1, 3, none⟩ (.int .i64 tok)).setCell ⟨w.heap.size + 1, 4, none⟩ (.int .i64 at')).setCell ⟨w.heap.size + 1, 5, none⟩ (.bool false)).setCell ⟨w.heap.size + 1, 6, none⟩ (.int .i64 now)).heap[k]? = w110.heap[k]? := fun k hk => by rw [Below.heap_setCell _ _ _ k hk, Below.heap_setCell _ _ _ k hk, Below.heap_setCell _ _ _ k hk, Below.heap_setCell _ _ _ k hk, Below.heap_setCell _ _ _ k hk, Below.heap_setCell _ _ _ k hk, Below.heap_setCell _ _ _ k hk]
            have CBz : Hid ((((((((w110.setCell ⟨w.heap.size + 1, 0, none⟩ (.int .i64 seq)).setCell ⟨w.heap.size + 1, 1, none⟩ (.slice qa qn qc)).setCell ⟨w.heap.size + 1, 2, none⟩ (.bool la)).setCell ⟨w.heap.size + 1, 3, none⟩ (.int .i64 tok)).setCell ⟨w.heap.size + 1, 4, none⟩ (.int .i64 at')).setCell ⟨w.heap.size + 1, 5, none⟩ (.bool false)).setCell ⟨w.heap.size + 1, 6, none⟩ (.int .i64 now)).heap[w.heap.size]? = some (.cells #[.int .i64 ca, .int .i64 cb, .int .i64 cd, .int .i64 ce] 23 (0, 0))) := Lib.hid ((hfar0 (w.heap.size) (blk_ne CB.out LB.out (by decide))).trans CB.out)
            have LBz : Hid ((((((((w110.setCell ⟨w.heap.size + 1, 0, none⟩ (.int .i64 seq)).setCell ⟨w.heap.size + 1, 1, none⟩ (.slice qa qn qc)).setCell ⟨w.heap.size + 1, 2, none⟩ (.bool la)).setCell ⟨w.heap.size + 1, 3, none⟩ (.int .i64 tok)).setCell ⟨w.heap.size + 1, 4, none⟩ (.int .i64 at')).setCell ⟨w.heap.size + 1, 5, none⟩ (.bool false)).setCell ⟨w.heap.size + 1, 6, none⟩ (.int .i64 now)).heap[w.heap.size + 1]? = some (.cells #[.int .i64 seq, .slice qa qn qc, .bool la, .int .i64 tok, .int .i64 at', .bool false, .int .i64 now] 30 (0, 0))) := Lib.hid (heap_setCell_same _ (w.heap.size + 1) 6 _ _ (.int .i64 now) (heap_setCell_same _ (w.heap.size + 1) 5 _ _ (.bool false) (heap_setCell_same _ (w.heap.size + 1) 4 _ _ (.int .i64 at') (heap_setCell_same _ (w.heap.size + 1) 3 _ _ (.int .i64 tok) (heap_setCell_same _ (w.heap.size + 1) 2 _ _ (.bool la) (heap_setCell_same _ (w.heap.size + 1) 1 _ _ (.slice qa qn qc) (heap_setCell_same _ (w.heap.size + 1) 0 _ _ (.int .i64 seq) LB.out)))))))
            have RBz : Hid ((((((((w110.setCell ⟨w.heap.size + 1, 0, none⟩ (.int .i64 seq)).setCell ⟨w.heap.size + 1, 1, none⟩ (.slice qa qn qc)).setCell ⟨w.heap.size + 1, 2, none⟩ (.bool la)).setCell ⟨w.heap.size + 1, 3, none⟩ (.int .i64 tok)).setCell ⟨w.heap.size + 1, 4, none⟩ (.int .i64 at')).setCell ⟨w.heap.size + 1, 5, none⟩ (.bool false)).setCell ⟨w.heap.size + 1, 6, none⟩ (.int .i64 now)).heap[w.heap.size + 1 + 1]? = some (.cells #[.int .i64 0, .slice none 0 0, .bool false, .int .i64 0, .int .i64 0, .bool false, .int .i64 0] 30 (0, 0))) := Lib.hid ((hfar0 (w.heap.size + 1 + 1) (by omega)).trans RB.out)
            have MBz : Hid ((((((((w110.setCell ⟨w.heap.size + 1, 0, none⟩ (.int .i64 seq)).setCell ⟨w.heap.size + 1, 1, none⟩ (.slice qa qn qc)).setCell ⟨w.heap.size + 1, 2, none⟩ (.bool la)).setCell ⟨w.heap.size + 1, 3, none⟩ (.int .i64 tok)).setCell ⟨w.heap.size + 1, 4, none⟩ (.int .i64 at')).setCell ⟨w.heap.size + 1, 5, none⟩ (.bool false)).setCell ⟨w.heap.size + 1, 6, none⟩ (.int .i64 now)).heap[mbn]? = some (.cells #[.int .i64 ca, .int .i64 cb, .int .i64 cd, .int .i64 ce, .slice ta vn tc, .int .i64 now] 77 (0, 0))) := Lib.hid ((hfar0 (mbn) (blk_ne MB.out LB.out (by decide))).trans MB.out)
            have XLz : Hid ((((((((w110.setCell ⟨w.heap.size + 1, 0, none⟩ (.int .i64 seq)).setCell ⟨w.heap.size + 1, 1, none⟩ (.slice qa qn qc)).setCell ⟨w.heap.size + 1, 2, none⟩ (.bool la)).setCell ⟨w.heap.size + 1, 3, none⟩ (.int .i64 tok)).setCell ⟨w.heap.size + 1, 4, none⟩ (.int .i64 at')).setCell ⟨w.heap.size + 1, 5, none⟩ (.bool false)).setCell ⟨w.heap.size + 1, 6, none⟩ (.int .i64 now)).heap[w101.heap.size + 1]? = some (.cells #[.int .i64 seq, .slice qa qn qc, .bool la, .int .i64 tok, .int .i64 at', .bool false, .int .i64 now] 30 (0, 0))) := Lib.hid ((hfar0 (w101.heap.size + 1) (by omega)).trans XL.out)
            have XBz : Hid ((((((((w110.setCell ⟨w.heap.size + 1, 0, none⟩ (.int .i64 seq)).setCell ⟨w.heap.size + 1, 1, none⟩ (.slice qa qn qc)).setCell ⟨w.heap.size + 1, 2, none⟩ (.bool la)).setCell ⟨w.heap.size + 1, 3, none⟩ (.int .i64 tok)).setCell ⟨w.heap.size + 1, 4, none⟩ (.int .i64 at')).setCell ⟨w.heap.size + 1, 5, none⟩ (.bool false)).setCell ⟨w.heap.size + 1, 6, none⟩ (.int .i64 now)).heap[w105.heap.size]? = some (.cells #[.int .i64 bx, .int .i64 bt] 28 (0, 0))) := Lib.hid ((hfar0 (w105.heap.size) (blk_ne XB.out LB.out (by decide))).trans XB.out)
            have KQ0z : Hid (KQ w (((((((w110.setCell ⟨w.heap.size + 1, 0, none⟩ (.int .i64 seq)).setCell ⟨w.heap.size + 1, 1, none⟩ (.slice qa qn qc)).setCell ⟨w.heap.size + 1, 2, none⟩ (.bool la)).setCell ⟨w.heap.size + 1, 3, none⟩ (.int .i64 tok)).setCell ⟨w.heap.size + 1, 4, none⟩ (.int .i64 at')).setCell ⟨w.heap.size + 1, 5, none⟩ (.bool false)).setCell ⟨w.heap.size + 1, 6, none⟩ (.int .i64 now)) (.slice qa qn qc) []) := Lib.hid (KQ0.out.past LB.out (by decide) hfar0)
            have KF0z : Hid (KF w (((((((w110.setCell ⟨w.heap.size + 1, 0, none⟩ (.int .i64 seq)).setCell ⟨w.heap.size + 1, 1, none⟩ (.slice qa qn qc)).setCell ⟨w.heap.size + 1, 2, none⟩ (.bool la)).setCell ⟨w.heap.size + 1, 3, none⟩ (.int .i64 tok)).setCell ⟨w.heap.size + 1, 4, none⟩ (.int .i64 at')).setCell ⟨w.heap.size + 1, 5, none⟩ (.bool false)).setCell ⟨w.heap.size + 1, 6, none⟩ (.int .i64 now)) (.slice fa2 (ps ++ [(⟨⟨2, seq, false, [], Val.zero, diSum view, []⟩, none, 0, 0⟩ : FrS)]).length fc2) (ps ++ [(⟨⟨2, seq, false, [], Val.zero, diSum view, []⟩, none, 0, 0⟩ : FrS)])) := Lib.hid (KF0.out.past LB.out (by decide) (by decide) hfar0)
            have HBz : Hid (Below w.heap.size w (((((((w110.setCell ⟨w.heap.size + 1, 0, none⟩ (.int .i64 seq)).setCell ⟨w.heap.size + 1, 1, none⟩ (.slice qa qn qc)).setCell ⟨w.heap.size + 1, 2, none⟩ (.bool la)).setCell ⟨w.heap.size + 1, 3, none⟩ (.int .i64 tok)).setCell ⟨w.heap.size + 1, 4, none⟩ (.int .i64 at')).setCell ⟨w.heap.size + 1, 5, none⟩ (.bool false)).setCell ⟨w.heap.size + 1, 6, none⟩ (.int .i64 now))) := Lib.hid (((((((HB.out.setCell hle1 _).setCell hle1 _).setCell hle1 _).setCell hle1 _).setCell hle1 _).setCell hle1 _).setCell hle1 _)
            clear CB LB RB MB XL XB KQ0 KF0 HB hfar0
            generalize ((((((w110.setCell ⟨w.heap.size + 1, 0, none⟩ (.int .i64 seq)).setCell ⟨w.heap.size + 1, 1, none⟩ (.slice qa qn qc)).setCell ⟨w.heap.size + 1, 2, none⟩ (.bool la)).setCell ⟨w.heap.size + 1, 3, none⟩ (.int .i64 tok)).setCell ⟨w.heap.size + 1, 4, none⟩ (.int .i64 at')).setCell ⟨w.heap.size + 1, 5, none⟩ (.bool false)).setCell ⟨w.heap.size + 1, 6, none⟩ (.int .i64 now) = w111 at CBz LBz RBz MBz XLz XBz KQ0z KF0z HBz ⊢
            have CB := CBz
            have LB := LBz
            have RB := RBz
            have MB := MBz
            have XL := XLz
            have XB := XBz
            have KQ0 := KQ0z
            have KF0 := KF0z
            have HB := HBz
            clear CBz LBz RBz MBz XLz XBz KQ0z KF0z HBz
            clear XL
            obtain ⟨⟨XBc0, XBc1⟩, ⟨XBf0, XBf1⟩⟩ := blk2 XB.out
            obtain ⟨⟨LBc0, LBc1, LBc2, LBc3, LBc4, LBc5, LBc6⟩, ⟨LBf0, LBf1, LBf2, LBf3, LBf4, LBf5, LBf6⟩⟩ := blk7 LB.out
            go_upto_region 14 with fail
            clear XBc0 XBc1 XBf0 XBf1 LBc0 LBc1 LBc2 LBc3 LBc4 LBc5 LBc6 LBf0 LBf1 LBf2 LBf3 LBf4 LBf5 LBf6
            have hfar0 : ∀ k, ¬ k = w.heap.size + 1 → ((w111.setCell ⟨w.heap.size + 1, 3, none⟩ (.int .i64 bx)).setCell ⟨w.heap.size + 1, 4, none⟩ (.int .i64 bt)).heap[k]? = w111.heap[k]? := fun k hk => by rw [Below.heap_setCell _ _ _ k hk, Below.heap_setCell _ _ _ k hk]
            have CBz : Hid (((w111.setCell ⟨w.heap.size + 1, 3, none⟩ (.int .i64 bx)).setCell ⟨w.heap.size + 1, 4, none⟩ (.int .i64 bt)).heap[w.heap.size]? = some (.cells #[.int .i64 ca, .int .i64 cb, .int .i64 cd, .int .i64 ce] 23 (0, 0))) := Lib.hid ((hfar0 (w.heap.size) (blk_ne CB.out LB.out (by decide))).trans CB.out)
            have LBz : Hid (((w111.setCell ⟨w.heap.size + 1, 3, none⟩ (.int .i64 bx)).setCell ⟨w.heap.size + 1, 4, none⟩ (.int .i64 bt)).heap[w.heap.size + 1]? = some (.cells #[.int .i64 seq, .slice qa qn qc, .bool la, .int .i64 bx, .int .i64 bt, .bool false, .int .i64 now] 30 (0, 0))) := Lib.hid (heap_setCell_same _ (w.heap.size + 1) 4 _ _ (.int .i64 bt) (heap_setCell_same _ (w.heap.size + 1) 3 _ _ (.int .i64 bx) LB.out))
            have RBz : Hid (((w111.setCell ⟨w.heap.size + 1, 3, none⟩ (.int .i64 bx)).setCell ⟨w.heap.size + 1, 4, none⟩ (.int .i64 bt)).heap[w.heap.size + 1 + 1]? = some (.cells #[.int .i64 0, .slice none 0 0, .bool false, .int .i64 0, .int .i64 0, .bool false, .int .i64 0] 30 (0, 0))) := Lib.hid ((hfar0 (w.heap.size + 1 + 1) (by omega)).trans RB.out)
            have MBz : Hid (((w111.setCell ⟨w.heap.size + 1, 3, none⟩ (.int .i64 bx)).setCell ⟨w.heap.size + 1, 4, none⟩ (.int .i64 bt)).heap[mbn]? = some (.cells #[.int .i64 ca, .int .i64 cb, .int .i64 cd, .int .i64 ce, .slice ta vn tc, .int .i64 now] 77 (0, 0))) := Lib.hid ((hfar0 (mbn) (blk_ne MB.out LB.out (by decide))).trans MB.out)
            have XBz : Hid (((w111.setCell ⟨w.heap.size + 1, 3, none⟩ (.int .i64 bx)).setCell ⟨w.heap.size + 1, 4, none⟩ (.int .i64 bt)).heap[w105.heap.size]? = some (.cells #[.int .i64 bx, .int .i64 bt] 28 (0, 0))) := Lib.hid ((hfar0 (w105.heap.size) (blk_ne XB.out LB.out (by decide))).trans XB.out)
            have KQ0z : Hid (KQ w ((w111.setCell ⟨w.heap.size + 1, 3, none⟩ (.int .i64 bx)).setCell ⟨w.heap.size + 1, 4, none⟩ (.int .i64 bt)) (.slice qa qn qc) []) := Lib.hid (KQ0.out.past LB.out (by decide) hfar0)
            have KF0z : Hid (KF w ((w111.setCell ⟨w.heap.size + 1, 3, none⟩ (.int .i64 bx)).setCell ⟨w.heap.size + 1, 4, none⟩ (.int .i64 bt)) (.slice fa2 (ps ++ [(⟨⟨2, seq, false, [], Val.zero, diSum view, []⟩, none, 0, 0⟩ : FrS)]).length fc2) (ps ++ [(⟨⟨2, seq, false, [], Val.zero, diSum view, []⟩, none, 0, 0⟩ : FrS)])) := Lib.hid (KF0.out.past LB.out (by decide) (by decide) hfar0)
            have HBz : Hid (Below w.heap.size w ((w111.setCell ⟨w.heap.size + 1, 3, none⟩ (.int .i64 bx)).setCell ⟨w.heap.size + 1, 4, none⟩ (.int .i64 bt))) := Lib.hid ((HB.out.setCell hle1 _).setCell hle1 _)
            clear CB LB RB MB XB KQ0 KF0 HB hfar0
            generalize (w111.setCell ⟨w.heap.size + 1, 3, none⟩ (.int .i64 bx)).setCell ⟨w.heap.size + 1, 4, none⟩ (.int .i64 bt) = w112 at CBz LBz RBz MBz XBz KQ0z KF0z HBz ⊢
            have CB := CBz
            have LB := LBz
            have RB := RBz
            have MB := MBz
            have XB := XBz
            have KQ0 := KQ0z
            have KF0 := KF0z
            have HB := HBz
            clear CBz LBz RBz MBz XBz KQ0z KF0z HBz
            clear XB
            obtain ⟨⟨LBc0, LBc1, LBc2, LBc3, LBc4, LBc5, LBc6⟩, ⟨LBf0, LBf1, LBf2, LBf3, LBf4, LBf5, LBf6⟩⟩ := blk7 LB.out
            go_wp2_with fail
            clear LBc0 LBc1 LBc2 LBc3 LBc4 LBc5 LBc6 LBf0 LBf1 LBf2 LBf3 LBf4 LBf5 LBf6
            have hfar0 : ∀ k, ¬ k = w.heap.size + 1 → (w112.setCell ⟨w.heap.size + 1, 0, none⟩ (.int .i64 (seq + 1))).heap[k]? = w112.heap[k]? := fun k hk => by rw [Below.heap_setCell _ _ _ k hk]
            have CBz : Hid ((w112.setCell ⟨w.heap.size + 1, 0, none⟩ (.int .i64 (seq + 1))).heap[w.heap.size]? = some (.cells #[.int .i64 ca, .int .i64 cb, .int .i64 cd, .int .i64 ce] 23 (0, 0))) := Lib.hid ((hfar0 (w.heap.size) (blk_ne CB.out LB.out (by decide))).trans CB.out)
            have LBz : Hid ((w112.setCell ⟨w.heap.size + 1, 0, none⟩ (.int .i64 (seq + 1))).heap[w.heap.size + 1]? = some (.cells #[.int .i64 (seq + 1), .slice qa qn qc, .bool la, .int .i64 bx, .int .i64 bt, .bool false, .int .i64 now] 30 (0, 0))) := Lib.hid (heap_setCell_same _ (w.heap.size + 1) 0 _ _ (.int .i64 (seq + 1)) LB.out)
            have RBz : Hid ((w112.setCell ⟨w.heap.size + 1, 0, none⟩ (.int .i64 (seq + 1))).heap[w.heap.size + 1 + 1]? = some (.cells #[.int .i64 0, .slice none 0 0, .bool false, .int .i64 0, .int .i64 0, .bool false, .int .i64 0] 30 (0, 0))) := Lib.hid ((hfar0 (w.heap.size + 1 + 1) (by omega)).trans RB.out)
            have MBz : Hid ((w112.setCell ⟨w.heap.size + 1, 0, none⟩ (.int .i64 (seq + 1))).heap[mbn]? = some (.cells #[.int .i64 ca, .int .i64 cb, .int .i64 cd, .int .i64 ce, .slice ta vn tc, .int .i64 now] 77 (0, 0))) := Lib.hid ((hfar0 (mbn) (blk_ne MB.out LB.out (by decide))).trans MB.out)
            have KQ0z : Hid (KQ w (w112.setCell ⟨w.heap.size + 1, 0, none⟩ (.int .i64 (seq + 1))) (.slice qa qn qc) []) := Lib.hid (KQ0.out.past LB.out (by decide) hfar0)
            have KF0z : Hid (KF w (w112.setCell ⟨w.heap.size + 1, 0, none⟩ (.int .i64 (seq + 1))) (.slice fa2 (ps ++ [(⟨⟨2, seq, false, [], Val.zero, diSum view, []⟩, none, 0, 0⟩ : FrS)]).length fc2) (ps ++ [(⟨⟨2, seq, false, [], Val.zero, diSum view, []⟩, none, 0, 0⟩ : FrS)])) := Lib.hid (KF0.out.past LB.out (by decide) (by decide) hfar0)
            have HBz : Hid (Below w.heap.size w (w112.setCell ⟨w.heap.size + 1, 0, none⟩ (.int .i64 (seq + 1)))) := Lib.hid (HB.out.setCell hle1 _)
            clear CB LB RB MB KQ0 KF0 HB hfar0
            have CB := CBz
            have LB := LBz
            have RB := RBz
            have MB := MBz
            have KQ0 := KQ0z
            have KF0 := KF0z
            have HB := HBz
            clear CBz LBz RBz MBz KQ0z KF0z HBz
            go_roundw
            case rel => exact ⟨seq + 1, bx, bt, now, false, la, [], qa, qn, qc, ps ++ [(⟨⟨2, seq, false, [], Val.zero, diSum view, []⟩, none, 0, 0⟩ : FrS)], fa2, fc2, n - 1, rfl, Lib.hid (by rw [List.map_append]; exact HE2.out), CB, LB, RB, MB, KQ0, KF0, HB⟩
            case measure => simp [slLen]; omega
        case pos =>
          have HDUE := Lib.hid hdue
          obtain ⟨⟨MBc0, MBc1, MBc2, MBc3, MBc4, MBc5⟩, ⟨MBf0, MBf1, MBf2, MBf3, MBf4, MBf5⟩⟩ := blk6 MB.out
          obtain ⟨⟨LBc0, LBc1, LBc2, LBc3, LBc4, LBc5, LBc6⟩, ⟨LBf0, LBf1, LBf2, LBf3, LBf4, LBf5, LBf6⟩⟩ := blk7 LB.out
          go_wp2_with fail
          clear MBc0 MBc1 MBc2 MBc3 MBc4 MBc5 MBf0 MBf1 MBf2 MBf3 MBf4 MBf5 LBc0 LBc1 LBc2 LBc3 LBc4 LBc5 LBc6 LBf0 LBf1 LBf2 LBf3 LBf4 LBf5 LBf6 t1
          refine (lnext_n (KQ0.out.chgs HB.out) (HT.out _ HB.out) seq tok at' dg ca cb cd ce now la rfl hn0 hn1 hd0 hd1 HDUE.out).mono ?_
          rintro e w101 ⟨rfl, b101⟩
          replace CB := Lib.hid (upQ CB.out b101)
          replace LB := Lib.hid (upQ LB.out b101)
          replace RB := Lib.hid (upQ RB.out b101)
          replace MB := Lib.hid (upQ MB.out b101)
          replace KQ0 := Lib.hid (KQ.later KQ0.out b101)
          replace HBr := Lib.hid (below2Z HBr.out b101)
          replace KF0 := Lib.hid (KF.later KF0.out b101)
          replace HB := Lib.hid (below2Z HB.out b101)
          clear b101
          have hxfr := HBr.out.size
          have b102 := bl_newZ w101 (.cells #[.int .i64 0, .int .i64 0, .bool false, .string ⟨#[]⟩, .int .i64 0, .int .i64 0, .int .i64 0, .string ⟨#[]⟩, .int .u64 0, .slice none 0 0] 60)
          have XF := newQ w101 (.cells #[.int .i64 0, .int .i64 0, .bool false, .string ⟨#[]⟩, .int .i64 0, .int .i64 0, .int .i64 0, .string ⟨#[]⟩, .int .u64 0, .slice none 0 0] 60)
          have hXF : w.heap.size ≤ w101.heap.size := HB.out.size
          replace CB := Lib.hid (upQ CB.out b102)
          replace LB := Lib.hid (upQ LB.out b102)
          replace RB := Lib.hid (upQ RB.out b102)
          replace MB := Lib.hid (upQ MB.out b102)
          replace KQ0 := Lib.hid (KQ.later KQ0.out b102)
          replace HBr := Lib.hid (below2Z HBr.out b102)
          replace KF0 := Lib.hid (KF.later KF0.out b102)
          replace HB := Lib.hid (below2Z HB.out b102)
          clear b102
          replace XF := Lib.hid XF
          have b103 := bl_newZ (w101.alloc (.cells #[.int .i64 0, .int .i64 0, .bool false, .string ⟨#[]⟩, .int .i64 0, .int .i64 0, .int .i64 0, .string ⟨#[]⟩, .int .u64 0, .slice none 0 0] 60)) (.cells #[.int .i64 seq, .slice qa qn qc, .bool la, .int .i64 tok, .int .i64 at', .bool false, .int .i64 dg] 30)
          have XL := newQ (w101.alloc (.cells #[.int .i64 0, .int .i64 0, .bool false, .string ⟨#[]⟩, .int .i64 0, .int .i64 0, .int .i64 0, .string ⟨#[]⟩, .int .u64 0, .slice none 0 0] 60)) (.cells #[.int .i64 seq, .slice qa qn qc, .bool la, .int .i64 tok, .int .i64 at', .bool false, .int .i64 dg] 30)
          have hXL : w.heap.size ≤ (w101.alloc (.cells #[.int .i64 0, .int .i64 0, .bool false, .string ⟨#[]⟩, .int .i64 0, .int .i64 0, .int .i64 0, .string ⟨#[]⟩, .int .u64 0, .slice none 0 0] 60)).heap.size := HB.out.size
          rw [World.size_alloc] at XL hXL
          replace CB := Lib.hid (upQ CB.out b103)
          replace LB := Lib.hid (upQ LB.out b103)
          replace RB := Lib.hid (upQ RB.out b103)
          replace MB := Lib.hid (upQ MB.out b103)
          replace XF := Lib.hid (upQ XF.out b103)
          replace KQ0 := Lib.hid (KQ.later KQ0.out b103)
          replace HBr := Lib.hid (below2Z HBr.out b103)
          replace KF0 := Lib.hid (KF.later KF0.out b103)
          replace HB := Lib.hid (below2Z HB.out b103)
          clear b103
          replace XL := Lib.hid XL
          go_upto_region 15 with fail
          generalize (w101.alloc (.cells #[.int .i64 0, .int .i64 0, .bool false, .string ⟨#[]⟩, .int .i64 0, .int .i64 0, .int .i64 0, .string ⟨#[]⟩, .int .u64 0, .slice none 0 0] 60)).alloc (.cells #[.int .i64 seq, .slice qa qn qc, .bool la, .int .i64 tok, .int .i64 at', .bool false, .int .i64 dg] 30) = w104 at CB LB RB MB XF XL KQ0 HBr KF0 HB ⊢
          have hend := emp_end HE.out (stp_n HDUE.out)
          rw [HR.out] at hend
          simp only [Prod.mk.injEq] at hend
          obtain ⟨rfl, rfl⟩ := hend
          clear HE HR
          obtain ⟨⟨LBc0, LBc1, LBc2, LBc3, LBc4, LBc5, LBc6⟩, ⟨LBf0, LBf1, LBf2, LBf3, LBf4, LBf5, LBf6⟩⟩ := blk7 LB.out
          obtain ⟨⟨RBc0, RBc1, RBc2, RBc3, RBc4, RBc5, RBc6⟩, ⟨RBf0, RBf1, RBf2, RBf3, RBf4, RBf5, RBf6⟩⟩ := blk7 RB.out
          go_wp2_with fail
          have hz := stN7_heap RB.out (.int .i64 seq) (.slice qa qn qc) (.bool la) (.int .i64 tok) (.int .i64 at') (.bool false) (.int .i64 dg)
          have KQz := KQ0.out.past RB.out (by decide) (fun k hk => stN7_far w104 (w.heap.size + 1 + 1) (.int .i64 seq) (.slice qa qn qc) (.bool la) (.int .i64 tok) (.int .i64 at') (.bool false) (.int .i64 dg) hk)
          have KFz := KF0.out.past RB.out (by decide) (by decide) (fun k hk => stN7_far w104 (w.heap.size + 1 + 1) (.int .i64 seq) (.slice qa qn qc) (.bool la) (.int .i64 tok) (.int .i64 at') (.bool false) (.int .i64 dg) hk)
          have HBz := stN7_below HB.out hle2 (.int .i64 seq) (.slice qa qn qc) (.bool la) (.int .i64 tok) (.int .i64 at') (.bool false) (.int .i64 dg)
          obtain ⟨⟨z0, z1, z2, z3, z4, z5, z6⟩, -⟩ := blk7 hz
          unfold stN7 at z0 z1 z2 z3 z4 z5 z6
          refine bodyPost_ret (v := .tuple #[.agg #[.int .i64 seq, .slice qa qn qc, .bool la, .int .i64 tok, .int .i64 at', .bool false, .int .i64 dg], .slice fa ps.length fc]) (by simp [results, Tryz.results23, go_sem, z0, z1, z2, z3, z4, z5, z6]) rfl ⟨_, _, ps, rfl, KQz.chgs HBz, KFz, rfl, HBz⟩

/-- P18.3. -/
theorem lemit_any {w : World} {v vt : Value} {ql : List Chg} {view : List Row} (hv : Chgs w v ql) (ht : Tab w vt view) (hs : ShortC ql) (hl : ql.length ≤ 100) (hsh : Short view) (ca cb cd ce seq tok at' dg now : Int) (la sn : Bool) {M : Lnk} {fs : List Frm} (hr : Hid (lnEmit ⟨ca, cb, cd, ce⟩ ⟨seq, ⟨ql, la⟩, ⟨tok, at'⟩, sn, dg⟩ view now = (M, fs))) :
    Calls Tryz.prog 23 #[.agg #[.int .i64 ca, .int .i64 cb, .int .i64 cd, .int .i64 ce], .agg #[.int .i64 seq, v, .bool la, .int .i64 tok, .int .i64 at', .bool sn, .int .i64 dg], vt, .int .i64 now] w (Emitted w M fs) := by
  have hr' := hr.out
  unfold lnEmit at hr'
  cases h1 : lnMay ⟨ca, cb, cd, ce⟩ ⟨seq, ⟨ql, la⟩, ⟨tok, at'⟩, sn, dg⟩ with
  | false =>
    rw [h1] at hr'
    simp only [Bool.false_and, Bool.false_eq_true, if_false, Prod.mk.injEq] at hr'
    obtain ⟨rfl, rfl⟩ := hr'
    exact lemit_r1 hv ht hs hl hsh ca cb cd ce seq tok at' dg now la sn (Lib.hid h1)
  | true =>
    cases h2 : diMay view with
    | false =>
      rw [h1, h2] at hr'
      simp only [Bool.false_and, Bool.and_false, Bool.false_eq_true, if_false, Prod.mk.injEq] at hr'
      obtain ⟨rfl, rfl⟩ := hr'
      exact lemit_r2 hv ht hs hl hsh ca cb cd ce seq tok at' dg now la sn (Lib.hid h1) (Lib.hid h2)
    | true =>
      cases h3 : pcTime now with
      | false =>
        rw [h1, h2, h3] at hr'
        simp only [Bool.and_false, Bool.false_eq_true, if_false, Prod.mk.injEq] at hr'
        obtain ⟨rfl, rfl⟩ := hr'
        exact lemit_r3 hv ht hs hl hsh ca cb cd ce seq tok at' dg now la sn (Lib.hid h1) (Lib.hid h2) (Lib.hid h3)
      | true =>
        rw [h1, h2, h3] at hr'
        simp only [Bool.and_true, if_true] at hr'
        exact lemit_in hv ht hs hl hsh ca cb cd ce seq tok at' dg now la sn (Lib.hid h1) (Lib.hid h2) (Lib.hid h3) (Lib.hid hr')


end Go.Proofs.YtndicdomdndjaaaGreat

end

section

/-
  LAYER 16, THE DOCUMENT's: what may be, levels, what is taken, waits.
-/
namespace Go.Proofs.YtndicdomdndjaaaGreat
open Go.RowKit

set_option maxHeartbeats 1600000 in
set_option maxRecDepth 100000 in
theorem rptime_any (n : Int) (w : World) :
    Calls Tryz.prog 27 #[.int .i64 n] w fun e w' => e = .returned (.bool (pcTime n)) ∧ w = w' := by
  unfold pcTime
  cases h1 : decide (0 ≤ n)
  · go_enter Tryz.func27, Tryz.ntmps27
    go_wp2_with fail
    go_ret
    exact ⟨rfl, rfl⟩
  · go_enter Tryz.func27, Tryz.ntmps27
    go_wp2_with fail
    go_ret
    exact ⟨rfl, rfl⟩

set_option maxHeartbeats 1600000 in
set_option maxRecDepth 100000 in
theorem rpmay_any (a b d e : Int) {r : Bool} (h : Hid (pcMay ⟨a, b, d, e⟩ = r)) (w : World) :
    Calls Tryz.prog 59 #[.agg #[.int .i64 a, .int .i64 b, .int .i64 d, .int .i64 e]] w fun e w' => e = .returned (.bool r) ∧ Below w.heap.size w w' := by
  have B0 := Lib.hid (bl_newZ w (.cells #[.int .i64 a, .int .i64 b, .int .i64 d, .int .i64 e] 23))
  have HR := h.out
  unfold pcMay at HR
  simp only at HR
  clear h
  cases t0 : decide (1 ≤ a) with
  | false =>
    rw [t0] at HR
    obtain rfl : false = r := HR
    go_enter Tryz.func59, Tryz.ntmps59
    go_wp2_with fail
    go_ret
    exact ⟨rfl, B0.out⟩
  | true =>
    cases t1 : decide (a ≤ 16) with
    | false =>
      rw [t0, t1] at HR
      obtain rfl : false = r := HR
      go_enter Tryz.func59, Tryz.ntmps59
      go_wp2_with fail
      go_ret
      exact ⟨rfl, B0.out⟩
    | true =>
      cases t2 : decide (1 ≤ b) with
      | false =>
        rw [t0, t1, t2] at HR
        obtain rfl : false = r := HR
        go_enter Tryz.func59, Tryz.ntmps59
        go_wp2_with fail
        go_ret
        exact ⟨rfl, B0.out⟩
      | true =>
        cases t3 : decide (b ≤ 64) with
        | false =>
          rw [t0, t1, t2, t3] at HR
          obtain rfl : false = r := HR
          go_enter Tryz.func59, Tryz.ntmps59
          go_wp2_with fail
          go_ret
          exact ⟨rfl, B0.out⟩
        | true =>
          cases t4 : decide (1 ≤ d) with
          | false =>
            rw [t0, t1, t2, t3, t4] at HR
            obtain rfl : false = r := HR
            go_enter Tryz.func59, Tryz.ntmps59
            go_wp2_with fail
            go_ret
            exact ⟨rfl, B0.out⟩
          | true =>
            cases t5 : decide (d ≤ 16) with
            | false =>
              rw [t0, t1, t2, t3, t4, t5] at HR
              obtain rfl : false = r := HR
              go_enter Tryz.func59, Tryz.ntmps59
              go_wp2_with fail
              go_ret
              exact ⟨rfl, B0.out⟩
            | true =>
              cases t6 : decide (1 ≤ e) with
              | false =>
                rw [t0, t1, t2, t3, t4, t5, t6] at HR
                obtain rfl : false = r := HR
                go_enter Tryz.func59, Tryz.ntmps59
                go_wp2_with fail
                go_ret
                exact ⟨rfl, B0.out⟩
              | true =>
                cases t7 : decide (e ≤ 1000) with
                | false =>
                  rw [t0, t1, t2, t3, t4, t5, t6, t7] at HR
                  obtain rfl : false = r := HR
                  go_enter Tryz.func59, Tryz.ntmps59
                  go_wp2_with fail
                  go_ret
                  exact ⟨rfl, B0.out⟩
                | true =>
                  rw [t0, t1, t2, t3, t4, t5, t6, t7] at HR
                  obtain rfl : true = r := HR
                  go_enter Tryz.func59, Tryz.ntmps59
                  go_wp2_with fail
                  go_ret
                  exact ⟨rfl, B0.out⟩

set_option maxHeartbeats 1600000 in
set_option maxRecDepth 100000 in
theorem rpnew_any (a b d e now : Int) {x y : Int} {n : Nat} (h : Hid (pcNew ⟨a, b, d, e⟩ now = (⟨x, y⟩, n))) (w : World) :
    Calls Tryz.prog 36 #[.agg #[.int .i64 a, .int .i64 b, .int .i64 d, .int .i64 e], .int .i64 now] w fun e w' => e = .returned (.tuple #[.agg #[.int .i64 x, .int .i64 y], .int .i64 (n : Int)]) ∧ Below w.heap.size w w' := by
  have HB := Lib.hid (below2Z (bl_newZ w (.cells #[.int .i64 a, .int .i64 b, .int .i64 d, .int .i64 e] 23)) (bl_newZ _ (.cells #[.int .i64 0, .int .i64 0] 28)))
  have K0 := Lib.hid ((cellsAt_made (w := w) (cs := #[.int .i64 a, .int .i64 b, .int .i64 d, .int .i64 e]) (vs := [.int .i64 a, .int .i64 b, .int .i64 d, .int .i64 e]) rfl 23 rfl).later (bl_newZ _ (.cells #[.int .i64 0, .int .i64 0] 28)))
  have K2 := Lib.hid (boxR_at (w.alloc (.cells #[.int .i64 a, .int .i64 b, .int .i64 d, .int .i64 e] 23)) (B := w.heap.size + 1) (by simp))
  have FZ := Lib.hid (boxR_free (w.alloc (.cells #[.int .i64 a, .int .i64 b, .int .i64 d, .int .i64 e] 23)) (B := w.heap.size + 1) (by simp))
  obtain ⟨q1, h1⟩ : ∃ q, pcMay ⟨a, b, d, e⟩ = q := ⟨_, rfl⟩
  have H1 := Lib.hid (rpmay_any a b d e (Lib.hid h1))
  have H2 := Lib.hid (rptime_any now)
  obtain ⟨q2, h2⟩ : ∃ q, pcTime now = q := ⟨_, rfl⟩
  rw [h2] at H2
  have HR := h.out
  unfold pcNew at HR
  rw [h1, h2] at HR
  clear h h1 h2
  cases q1 with
  | false =>
    simp at HR
    obtain ⟨⟨rfl, rfl⟩, rfl⟩ := HR
    go_enter Tryz.func36, Tryz.ntmps36
    go_wp2_with fail
    refine (H1.out _).mono ?_
    rintro e w1 ⟨rfl, b1⟩
    have fz := free_later (World.block_lt_of_cell? _ _ (K2.out 0 _ rfl)) FZ.out b1
    replace K0 := Lib.hid (K0.out.later b1)
    replace K2 := Lib.hid (K2.out.later b1)
    replace FZ := Lib.hid fz
    replace HB := Lib.hid (below2Z HB.out b1)
    clear fz b1
    obtain ⟨c0, c1, c2, c3⟩ := cells4P K0.out
    obtain ⟨z0, z1⟩ := cells2P K2.out
    have f0 := FZ.out 0
    have f1 := FZ.out 1
    go_wp2_with fail
    obtain ⟨r0, r1⟩ := set2_get w1 (w.heap.size + 1) (.int .i64 0) (.int .i64 0) z0 z1
    have hB := set2_below HB.out (w.heap.size + 1) (by omega) (.int .i64 0) (.int .i64 0)
    show bodyPost _ _ _ _ _ (setMany w1 [(⟨w.heap.size + 1, 0, none⟩, .int .i64 0), (⟨w.heap.size + 1, 1, none⟩, .int .i64 0)])
    exact bodyPost_ret (v := .tuple #[.agg #[.int .i64 0, .int .i64 0], .int .i64 1]) (by simp [results, Tryz.results36, go_sem, r0, r1]) rfl ⟨rfl, hB⟩
  | true =>
    cases q2 with
    | false =>
      simp at HR
      obtain ⟨⟨rfl, rfl⟩, rfl⟩ := HR
      go_enter Tryz.func36, Tryz.ntmps36
      go_wp2_with fail
      refine (H1.out _).mono ?_
      rintro e w1 ⟨rfl, b1⟩
      have fz := free_later (World.block_lt_of_cell? _ _ (K2.out 0 _ rfl)) FZ.out b1
      replace K0 := Lib.hid (K0.out.later b1)
      replace K2 := Lib.hid (K2.out.later b1)
      replace FZ := Lib.hid fz
      replace HB := Lib.hid (below2Z HB.out b1)
      clear fz b1
      obtain ⟨c0, c1, c2, c3⟩ := cells4P K0.out
      obtain ⟨z0, z1⟩ := cells2P K2.out
      have f0 := FZ.out 0
      have f1 := FZ.out 1
      go_wp2_with fail
      refine (H2.out _).mono ?_
      rintro e w2 ⟨rfl, rfl⟩
      go_wp2_with fail
      obtain ⟨r0, r1⟩ := set2_get w1 (w.heap.size + 1) (.int .i64 0) (.int .i64 0) z0 z1
      have hB := set2_below HB.out (w.heap.size + 1) (by omega) (.int .i64 0) (.int .i64 0)
      show bodyPost _ _ _ _ _ (setMany w1 [(⟨w.heap.size + 1, 0, none⟩, .int .i64 0), (⟨w.heap.size + 1, 1, none⟩, .int .i64 0)])
      exact bodyPost_ret (v := .tuple #[.agg #[.int .i64 0, .int .i64 0], .int .i64 1]) (by simp [results, Tryz.results36, go_sem, r0, r1]) rfl ⟨rfl, hB⟩
    | true =>
      simp at HR
      obtain ⟨⟨rfl, rfl⟩, rfl⟩ := HR
      go_enter Tryz.func36, Tryz.ntmps36
      go_wp2_with fail
      refine (H1.out _).mono ?_
      rintro e w1 ⟨rfl, b1⟩
      have fz := free_later (World.block_lt_of_cell? _ _ (K2.out 0 _ rfl)) FZ.out b1
      replace K0 := Lib.hid (K0.out.later b1)
      replace K2 := Lib.hid (K2.out.later b1)
      replace FZ := Lib.hid fz
      replace HB := Lib.hid (below2Z HB.out b1)
      clear fz b1
      obtain ⟨c0, c1, c2, c3⟩ := cells4P K0.out
      obtain ⟨z0, z1⟩ := cells2P K2.out
      have f0 := FZ.out 0
      have f1 := FZ.out 1
      go_wp2_with fail
      refine (H2.out _).mono ?_
      rintro e w2 ⟨rfl, rfl⟩
      go_wp2_with fail
      obtain ⟨r0, r1⟩ := set2_get w1 (w.heap.size + 1) (.int .i64 b) (.int .i64 now) z0 z1
      have hB := set2_below HB.out (w.heap.size + 1) (by omega) (.int .i64 b) (.int .i64 now)
      show bodyPost _ _ _ _ _ (setMany w1 [(⟨w.heap.size + 1, 0, none⟩, .int .i64 b), (⟨w.heap.size + 1, 1, none⟩, .int .i64 now)])
      exact bodyPost_ret (v := .tuple #[.agg #[.int .i64 b, .int .i64 now], .int .i64 0]) (by simp [results, Tryz.results36, go_sem, r0, r1]) rfl ⟨rfl, hB⟩

theorem pcOne_split (a b d e tok at' : Int) : pcOne ⟨a, b, d, e⟩ ⟨tok, at'⟩ = (pcMay ⟨a, b, d, e⟩ && (decide (0 ≤ tok) && (decide (tok ≤ b) && pcTime at'))) := rfl

set_option maxHeartbeats 1600000 in
set_option maxRecDepth 100000 in
theorem rpone_any (a b d e tok at' : Int) {r : Bool} (h : Hid (pcOne ⟨a, b, d, e⟩ ⟨tok, at'⟩ = r)) (w : World) :
    Calls Tryz.prog 42 #[.agg #[.int .i64 a, .int .i64 b, .int .i64 d, .int .i64 e], .agg #[.int .i64 tok, .int .i64 at']] w fun e w' => e = .returned (.bool r) ∧ Below w.heap.size w w' := by
  have HB := Lib.hid (boxes_below w a b d e tok at')
  have K0 := Lib.hid (boxes_cfg w a b d e tok at')
  have K1 := Lib.hid (boxes_bkt w a b d e tok at')
  have HR := h.out
  rw [pcOne_split] at HR
  obtain ⟨q1, h1⟩ : ∃ q, pcMay ⟨a, b, d, e⟩ = q := ⟨_, rfl⟩
  have H1 := Lib.hid (rpmay_any a b d e (Lib.hid h1))
  have H2 := Lib.hid (rptime_any at')
  obtain ⟨q2, h2⟩ : ∃ q, pcTime at' = q := ⟨_, rfl⟩
  rw [h2] at H2 HR
  rw [h1] at HR
  clear h h1 h2
  cases q1 with
  | false =>
    obtain rfl : false = r := HR
    go_enter Tryz.func42, Tryz.ntmps42
    go_wp2_with fail
    refine (H1.out _).mono ?_
    rintro e w1 ⟨rfl, b1⟩
    replace K0 := Lib.hid (K0.out.later b1)
    replace K1 := Lib.hid (K1.out.later b1)
    replace HB := Lib.hid (below2Z HB.out b1)
    obtain ⟨c0, c1, c2, c3⟩ := cells4P K0.out
    obtain ⟨d0, d1⟩ := cells2P K1.out
    clear b1
    go_wp2_with fail
    go_ret
    exact ⟨rfl, HB.out⟩
  | true =>
    cases t1 : decide (0 ≤ tok) with
    | false =>
      rw [t1] at HR
      obtain rfl : false = r := HR
      go_enter Tryz.func42, Tryz.ntmps42
      go_wp2_with fail
      refine (H1.out _).mono ?_
      rintro e w1 ⟨rfl, b1⟩
      replace K0 := Lib.hid (K0.out.later b1)
      replace K1 := Lib.hid (K1.out.later b1)
      replace HB := Lib.hid (below2Z HB.out b1)
      obtain ⟨c0, c1, c2, c3⟩ := cells4P K0.out
      obtain ⟨d0, d1⟩ := cells2P K1.out
      clear b1
      go_wp2_with fail
      go_ret
      exact ⟨rfl, HB.out⟩
    | true =>
      cases t2 : decide (tok ≤ b) with
      | false =>
        rw [t1, t2] at HR
        obtain rfl : false = r := HR
        go_enter Tryz.func42, Tryz.ntmps42
        go_wp2_with fail
        refine (H1.out _).mono ?_
        rintro e w1 ⟨rfl, b1⟩
        replace K0 := Lib.hid (K0.out.later b1)
        replace K1 := Lib.hid (K1.out.later b1)
        replace HB := Lib.hid (below2Z HB.out b1)
        obtain ⟨c0, c1, c2, c3⟩ := cells4P K0.out
        obtain ⟨d0, d1⟩ := cells2P K1.out
        clear b1
        go_wp2_with fail
        go_ret
        exact ⟨rfl, HB.out⟩
      | true =>
        rw [t1, t2] at HR
        replace HR : q2 = r := by rw [← HR]; rfl
        subst HR
        go_enter Tryz.func42, Tryz.ntmps42
        go_wp2_with fail
        refine (H1.out _).mono ?_
        rintro e w1 ⟨rfl, b1⟩
        replace K0 := Lib.hid (K0.out.later b1)
        replace K1 := Lib.hid (K1.out.later b1)
        replace HB := Lib.hid (below2Z HB.out b1)
        obtain ⟨c0, c1, c2, c3⟩ := cells4P K0.out
        obtain ⟨d0, d1⟩ := cells2P K1.out
        clear b1
        go_wp2_with fail
        refine (H2.out _).mono ?_
        rintro e w2 ⟨rfl, rfl⟩
        go_wp2_with fail
        go_ret
        exact ⟨rfl, HB.out⟩

set_option maxHeartbeats 1600000 in
set_option maxRecDepth 100000 in
theorem rplevel_any (a b d e tok at' now : Int) {r : Int} (h : Hid (pcLevel ⟨a, b, d, e⟩ ⟨tok, at'⟩ now = r)) (w : World) :
    Calls Tryz.prog 28 #[.agg #[.int .i64 a, .int .i64 b, .int .i64 d, .int .i64 e], .agg #[.int .i64 tok, .int .i64 at'], .int .i64 now] w fun e w' => e = .returned (.int .i64 r) ∧ Below w.heap.size w w' := by
  have HB := Lib.hid (boxes_below w a b d e tok at')
  have K0 := Lib.hid (boxes_cfg w a b d e tok at')
  have K1 := Lib.hid (boxes_bkt w a b d e tok at')
  have HR := h.out
  unfold pcLevel at HR
  clear h
  obtain ⟨q1, h1⟩ : ∃ q, pcOne ⟨a, b, d, e⟩ ⟨tok, at'⟩ = q := ⟨_, rfl⟩
  obtain ⟨q2, h2⟩ : ∃ q, pcTime now = q := ⟨_, rfl⟩
  have H1 := Lib.hid (rpone_any a b d e tok at' (Lib.hid h1))
  have H2 := Lib.hid (rptime_any now)
  rw [h2] at H2
  rw [h1, h2] at HR
  cases q1 with
  | false =>
    simp at HR
    subst HR
    clear h1 h2
    go_enter Tryz.func28, Tryz.ntmps28
    go_wp2_with fail
    refine (H1.out _).mono ?_
    rintro e w1 ⟨rfl, b1⟩
    replace K0 := Lib.hid (K0.out.later b1)
    replace K1 := Lib.hid (K1.out.later b1)
    replace HB := Lib.hid (below2Z HB.out b1)
    clear b1
    go_wp2_with fail
    go_ret
    exact ⟨rfl, HB.out⟩
  | true =>
    cases q2 with
    | false =>
      simp at HR
      subst HR
      clear h1 h2
      go_enter Tryz.func28, Tryz.ntmps28
      go_wp2_with fail
      refine (H1.out _).mono ?_
      rintro e w1 ⟨rfl, b1⟩
      replace K0 := Lib.hid (K0.out.later b1)
      replace K1 := Lib.hid (K1.out.later b1)
      replace HB := Lib.hid (below2Z HB.out b1)
      clear b1
      go_wp2_with fail
      refine (H2.out _).mono ?_
      rintro e w2 ⟨rfl, rfl⟩
      go_wp2_with fail
      go_ret
      exact ⟨rfl, HB.out⟩
    | true =>
      simp only [Bool.and_self, if_true] at HR
      obtain ⟨hm, o1, o2, o3, o4⟩ := pcOne_iff.1 h1
      obtain ⟨_, _, m1, m2, m3, m4, _, _⟩ := pcMay_iff.1 hm
      obtain ⟨s1, s2⟩ := pcTime_iff.1 h2
      simp only at o1 o2 o3 o4 m1 m2 m3 m4
      unfold pcLev at HR
      simp only at HR
      by_cases hn : now ≤ at'
      · rw [if_pos hn] at HR
        subst HR
        have t1 : decide (now ≤ at') = true := by simpa using hn
        clear h1 h2 hm o1 o2 o3 o4 m1 m2 m3 m4 s1 s2 hn
        go_enter Tryz.func28, Tryz.ntmps28
        go_wp2_with fail
        refine (H1.out _).mono ?_
        rintro e w1 ⟨rfl, b1⟩
        replace K0 := Lib.hid (K0.out.later b1)
        replace K1 := Lib.hid (K1.out.later b1)
        replace HB := Lib.hid (below2Z HB.out b1)
        obtain ⟨c0, c1, c2, c3⟩ := cells4P K0.out
        obtain ⟨d0, d1⟩ := cells2P K1.out
        clear b1
        go_wp2_with fail
        refine (H2.out _).mono ?_
        rintro e w2 ⟨rfl, rfl⟩
        go_wp2_with fail
        go_ret
        exact ⟨rfl, HB.out⟩
      · rw [if_neg hn] at HR
        subst HR
        have t1 : decide (now ≤ at') = false := by simpa using hn
        have hp : 0 ≤ (now - at') * d ∧ (now - at') * d ≤ 1099511627776 * 16 := ⟨Int.mul_nonneg (by omega) (by omega), Int.mul_le_mul (by omega) m4 (by omega) (by omega)⟩
        have w1' : IntKind.i64.wrap (now - at') = now - at' := IntWalk.i64_in _ (by omega)
        have w2' : IntKind.i64.wrap ((now - at') * d) = (now - at') * d := IntWalk.i64_in _ (by omega)
        have w3' : IntKind.i64.wrap (tok + (now - at') * d) = tok + (now - at') * d := IntWalk.i64_in _ (by omega)
        clear h1 h2 hm o1 o2 o3 o4 m1 m2 m3 m4 s1 s2 hn hp
        go_enter Tryz.func28, Tryz.ntmps28
        go_wp2_with fail
        refine (H1.out _).mono ?_
        rintro e w1 ⟨rfl, b1⟩
        replace K0 := Lib.hid (K0.out.later b1)
        replace K1 := Lib.hid (K1.out.later b1)
        replace HB := Lib.hid (below2Z HB.out b1)
        obtain ⟨c0, c1, c2, c3⟩ := cells4P K0.out
        obtain ⟨d0, d1⟩ := cells2P K1.out
        clear b1
        go_wp2_with fail
        refine (H2.out _).mono ?_
        rintro e w2 ⟨rfl, rfl⟩
        go_wp2_with fail
        go_ret
        exact ⟨rfl, HB.out⟩

end Go.Proofs.YtndicdomdndjaaaGreat

end

section

/-
  LAYER 18: the document's New, May, Push, Ask, Quiet, Same, Few.
-/
namespace Go.Proofs.YtndicdomdndjaaaGreat
open Go.RowKit

set_option linter.unusedSimpArgs false

set_option maxHeartbeats 3200000 in
set_option maxRecDepth 100000 in
theorem rlask_any (seq tok at' dg : Int) (ao : Option Addr) (n cap : Nat) (la sn : Bool) (w : World) :
    Calls Tryz.prog 21 #[.agg #[.int .i64 seq, .slice ao n cap, .bool la, .int .i64 tok, .int .i64 at', .bool sn, .int .i64 dg]] w fun e w' => e = .returned (.agg #[.int .i64 seq, .slice none 0 0, .bool false, .int .i64 tok, .int .i64 at', .bool true, .int .i64 dg]) ∧ Below w.heap.size w w' := by
  have b0 := bl_newZ w (.cells #[.int .i64 seq, .slice ao n cap, .bool la, .int .i64 tok, .int .i64 at', .bool sn, .int .i64 dg] 30)
  have b1 := bl_newZ (w.alloc (.cells #[.int .i64 seq, .slice ao n cap, .bool la, .int .i64 tok, .int .i64 at', .bool sn, .int .i64 dg] 30)) (.cells #[.int .i64 0, .slice none 0 0, .bool false, .int .i64 0, .int .i64 0, .bool false, .int .i64 0] 30)
  have HB := Lib.hid (below2Z b0 b1)
  have LB := newQ w (.cells #[.int .i64 seq, .slice ao n cap, .bool la, .int .i64 tok, .int .i64 at', .bool sn, .int .i64 dg] 30)
  replace LB := upQ LB b1
  replace LB := Lib.hid LB
  have RB := newQ (w.alloc (.cells #[.int .i64 seq, .slice ao n cap, .bool la, .int .i64 tok, .int .i64 at', .bool sn, .int .i64 dg] 30)) (.cells #[.int .i64 0, .slice none 0 0, .bool false, .int .i64 0, .int .i64 0, .bool false, .int .i64 0] 30)
  rw [World.size_alloc] at RB
  replace RB := Lib.hid RB
  clear b0 b1
  obtain ⟨⟨LBc0, LBc1, LBc2, LBc3, LBc4, LBc5, LBc6⟩, ⟨LBf0, LBf1, LBf2, LBf3, LBf4, LBf5, LBf6⟩⟩ := blk7 LB.out
  obtain ⟨⟨RBc0, RBc1, RBc2, RBc3, RBc4, RBc5, RBc6⟩, ⟨RBf0, RBf1, RBf2, RBf3, RBf4, RBf5, RBf6⟩⟩ := blk7 RB.out
  go_enter Tryz.func21, Tryz.ntmps21
  go_wp2_with fail
  refine bodyPost_ret (v := .agg #[.int .i64 seq, .slice none 0 0, .bool false, .int .i64 tok, .int .i64 at', .bool true, .int .i64 dg]) (by simp [results, Tryz.results21, go_sem]) rfl ⟨rfl, ?_⟩
  exact ((Below.refl _ _).alloc (Nat.le_refl _) _).alloc (by simp) _

set_option maxHeartbeats 3200000 in
set_option maxRecDepth 100000 in
theorem rlnew_a (ca cb cd ce now : Int) {bx bt : Int} (hr : Hid (pcNew ⟨ca, cb, cd, ce⟩ now = (⟨bx, bt⟩, 0))) (w : World) :
    Calls Tryz.prog 12 #[.agg #[.int .i64 ca, .int .i64 cb, .int .i64 cd, .int .i64 ce], .int .i64 now] w fun e w' => e = .returned (.tuple #[.agg #[.int .i64 0, .slice none 0 0, .bool false, .int .i64 bx, .int .i64 bt, .bool true, .int .i64 now], .int .i64 0]) ∧ Below w.heap.size w w' := by
  have HR := hr
  have b0 := bl_newZ w (.cells #[.int .i64 ca, .int .i64 cb, .int .i64 cd, .int .i64 ce] 23)
  have b1 := bl_newZ (w.alloc (.cells #[.int .i64 ca, .int .i64 cb, .int .i64 cd, .int .i64 ce] 23)) (.cells #[.int .i64 0, .slice none 0 0, .bool false, .int .i64 0, .int .i64 0, .bool false, .int .i64 0] 30)
  have HB := Lib.hid (below2Z b0 b1)
  have CB := newQ w (.cells #[.int .i64 ca, .int .i64 cb, .int .i64 cd, .int .i64 ce] 23)
  replace CB := upQ CB b1
  replace CB := Lib.hid CB
  have RB := newQ (w.alloc (.cells #[.int .i64 ca, .int .i64 cb, .int .i64 cd, .int .i64 ce] 23)) (.cells #[.int .i64 0, .slice none 0 0, .bool false, .int .i64 0, .int .i64 0, .bool false, .int .i64 0] 30)
  rw [World.size_alloc] at RB
  replace RB := Lib.hid RB
  clear b0 b1
  clear hr
  obtain ⟨⟨CBc0, CBc1, CBc2, CBc3⟩, ⟨CBf0, CBf1, CBf2, CBf3⟩⟩ := blk4 CB.out
  obtain ⟨⟨RBc0, RBc1, RBc2, RBc3, RBc4, RBc5, RBc6⟩, ⟨RBf0, RBf1, RBf2, RBf3, RBf4, RBf5, RBf6⟩⟩ := blk7 RB.out
  go_enter Tryz.func12, Tryz.ntmps12
  go_wp2_with fail
  clear CBc0 CBc1 CBc2 CBc3 CBf0 CBf1 CBf2 CBf3 RBc0 RBc1 RBc2 RBc3 RBc4 RBc5 RBc6 RBf0 RBf1 RBf2 RBf3 RBf4 RBf5 RBf6
  refine (rpnew_any ca cb cd ce now HR _).mono ?_
  rintro e w3 ⟨rfl, b3⟩
  replace CB := Lib.hid (upQ CB.out b3)
  replace RB := Lib.hid (upQ RB.out b3)
  replace HB := Lib.hid (below2Z HB.out b3)
  clear b3
  have b4 := bl_newZ w3 (.cells #[.int .i64 bx, .int .i64 bt] 28)
  have BB := newQ w3 (.cells #[.int .i64 bx, .int .i64 bt] 28)
  have hBB : w.heap.size ≤ w3.heap.size := HB.out.size
  replace CB := Lib.hid (upQ CB.out b4)
  replace RB := Lib.hid (upQ RB.out b4)
  replace HB := Lib.hid (below2Z HB.out b4)
  clear b4
  replace BB := Lib.hid BB
  go_upto_region 2 with fail
  generalize w3.alloc (.cells #[.int .i64 bx, .int .i64 bt] 28) = w5 at CB RB BB HB ⊢
  obtain ⟨⟨CBc0, CBc1, CBc2, CBc3⟩, ⟨CBf0, CBf1, CBf2, CBf3⟩⟩ := blk4 CB.out
  obtain ⟨⟨RBc0, RBc1, RBc2, RBc3, RBc4, RBc5, RBc6⟩, ⟨RBf0, RBf1, RBf2, RBf3, RBf4, RBf5, RBf6⟩⟩ := blk7 RB.out
  obtain ⟨⟨BBc0, BBc1⟩, ⟨BBf0, BBf1⟩⟩ := blk2 BB.out
  have hle : w.heap.size ≤ w.heap.size + 1 := by omega
  go_wp2_with fail
  have hz := stN7_heap RB.out (.int .i64 0) (.slice none 0 0) (.bool false) (.int .i64 bx) (.int .i64 bt) (.bool true) (.int .i64 now)
  obtain ⟨⟨z0, z1, z2, z3, z4, z5, z6⟩, -⟩ := blk7 hz
  unfold stN7 at z0 z1 z2 z3 z4 z5 z6
  refine bodyPost_ret (v := .tuple #[.agg #[.int .i64 0, .slice none 0 0, .bool false, .int .i64 bx, .int .i64 bt, .bool true, .int .i64 now], .int .i64 0]) (by simp [results, Tryz.results12, go_sem, z0, z1, z2, z3, z4, z5, z6]) rfl ⟨rfl, ?_⟩
  exact ((((((HB.out.setCell hle _).setCell hle _).setCell hle _).setCell hle _).setCell hle _).setCell hle _).setCell hle _

set_option maxHeartbeats 3200000 in
set_option maxRecDepth 100000 in
theorem rlnew_b (ca cb cd ce now : Int) {bx bt : Int} {n : Nat} (hn : 0 < n) (hr : Hid (pcNew ⟨ca, cb, cd, ce⟩ now = (⟨bx, bt⟩, n))) (w : World) :
    Calls Tryz.prog 12 #[.agg #[.int .i64 ca, .int .i64 cb, .int .i64 cd, .int .i64 ce], .int .i64 now] w fun e w' => e = .returned (.tuple #[.agg #[.int .i64 0, .slice none 0 0, .bool false, .int .i64 0, .int .i64 0, .bool false, .int .i64 0], .int .i64 n]) ∧ Below w.heap.size w w' := by
  have HR := hr
  have b0 := bl_newZ w (.cells #[.int .i64 ca, .int .i64 cb, .int .i64 cd, .int .i64 ce] 23)
  have b1 := bl_newZ (w.alloc (.cells #[.int .i64 ca, .int .i64 cb, .int .i64 cd, .int .i64 ce] 23)) (.cells #[.int .i64 0, .slice none 0 0, .bool false, .int .i64 0, .int .i64 0, .bool false, .int .i64 0] 30)
  have HB := Lib.hid (below2Z b0 b1)
  have CB := newQ w (.cells #[.int .i64 ca, .int .i64 cb, .int .i64 cd, .int .i64 ce] 23)
  replace CB := upQ CB b1
  replace CB := Lib.hid CB
  have RB := newQ (w.alloc (.cells #[.int .i64 ca, .int .i64 cb, .int .i64 cd, .int .i64 ce] 23)) (.cells #[.int .i64 0, .slice none 0 0, .bool false, .int .i64 0, .int .i64 0, .bool false, .int .i64 0] 30)
  rw [World.size_alloc] at RB
  replace RB := Lib.hid RB
  clear b0 b1
  clear hr
  obtain ⟨⟨CBc0, CBc1, CBc2, CBc3⟩, ⟨CBf0, CBf1, CBf2, CBf3⟩⟩ := blk4 CB.out
  obtain ⟨⟨RBc0, RBc1, RBc2, RBc3, RBc4, RBc5, RBc6⟩, ⟨RBf0, RBf1, RBf2, RBf3, RBf4, RBf5, RBf6⟩⟩ := blk7 RB.out
  go_enter Tryz.func12, Tryz.ntmps12
  go_wp2_with fail
  clear CBc0 CBc1 CBc2 CBc3 CBf0 CBf1 CBf2 CBf3 RBc0 RBc1 RBc2 RBc3 RBc4 RBc5 RBc6 RBf0 RBf1 RBf2 RBf3 RBf4 RBf5 RBf6
  refine (rpnew_any ca cb cd ce now HR _).mono ?_
  rintro e w3 ⟨rfl, b3⟩
  replace CB := Lib.hid (upQ CB.out b3)
  replace RB := Lib.hid (upQ RB.out b3)
  replace HB := Lib.hid (below2Z HB.out b3)
  clear b3
  have b4 := bl_newZ w3 (.cells #[.int .i64 bx, .int .i64 bt] 28)
  have BB := newQ w3 (.cells #[.int .i64 bx, .int .i64 bt] 28)
  have hBB : w.heap.size ≤ w3.heap.size := HB.out.size
  replace CB := Lib.hid (upQ CB.out b4)
  replace RB := Lib.hid (upQ RB.out b4)
  replace HB := Lib.hid (below2Z HB.out b4)
  clear b4
  replace BB := Lib.hid BB
  go_upto_region 2 with fail
  generalize w3.alloc (.cells #[.int .i64 bx, .int .i64 bt] 28) = w5 at CB RB BB HB ⊢
  obtain ⟨⟨CBc0, CBc1, CBc2, CBc3⟩, ⟨CBf0, CBf1, CBf2, CBf3⟩⟩ := blk4 CB.out
  obtain ⟨⟨RBc0, RBc1, RBc2, RBc3, RBc4, RBc5, RBc6⟩, ⟨RBf0, RBf1, RBf2, RBf3, RBf4, RBf5, RBf6⟩⟩ := blk7 RB.out
  obtain ⟨⟨BBc0, BBc1⟩, ⟨BBf0, BBf1⟩⟩ := blk2 BB.out
  have hle : w.heap.size ≤ w.heap.size + 1 := by omega
  have t1 : ((n : Int) != 0) = true := by rw [bne_iff_ne]; omega
  go_wp2_with fail
  have hz := stN7_heap RB.out (.int .i64 0) (.slice none 0 0) (.bool false) (.int .i64 0) (.int .i64 0) (.bool false) (.int .i64 0)
  obtain ⟨⟨z0, z1, z2, z3, z4, z5, z6⟩, -⟩ := blk7 hz
  unfold stN7 at z0 z1 z2 z3 z4 z5 z6
  refine bodyPost_ret (v := .tuple #[.agg #[.int .i64 0, .slice none 0 0, .bool false, .int .i64 0, .int .i64 0, .bool false, .int .i64 0], .int .i64 n]) (by simp [results, Tryz.results12, go_sem, z0, z1, z2, z3, z4, z5, z6]) rfl ⟨rfl, ?_⟩
  exact ((((((HB.out.setCell hle _).setCell hle _).setCell hle _).setCell hle _).setCell hle _).setCell hle _).setCell hle _

/-- P18.1. -/
theorem rlnew_any (ca cb cd ce now : Int) {m : Lnk} {n : Nat} (hr : Hid (lnNew ⟨ca, cb, cd, ce⟩ now = (m, n))) (w : World) :
    Calls Tryz.prog 12 #[.agg #[.int .i64 ca, .int .i64 cb, .int .i64 cd, .int .i64 ce], .int .i64 now] w fun e w' => e = .returned (.tuple #[.agg #[.int .i64 m.seq, .slice none 0 0, .bool m.q.la, .int .i64 m.b.tok, .int .i64 m.b.at', .bool m.sn, .int .i64 m.dg], .int .i64 n]) ∧ m.q.l = [] ∧ Below w.heap.size w w' := by
  have hr := hr.out
  obtain ⟨⟨⟨bx, bt⟩, k⟩, hk⟩ : ∃ p, pcNew ⟨ca, cb, cd, ce⟩ now = p := ⟨_, rfl⟩
  unfold lnNew at hr
  rw [hk] at hr
  cases k with
  | zero =>
    rw [if_pos rfl] at hr
    cases hr
    exact (rlnew_a ca cb cd ce now (Lib.hid hk) w).mono fun e w' ⟨h1, h2⟩ => ⟨h1, rfl, h2⟩
  | succ k =>
    rw [if_neg (by simp)] at hr
    cases hr
    exact (rlnew_b ca cb cd ce now (Nat.succ_pos k) (Lib.hid hk) w).mono fun e w' ⟨h1, h2⟩ => ⟨h1, rfl, h2⟩

set_option maxHeartbeats 3200000 in
set_option maxRecDepth 100000 in
theorem rlpush_a {w : World} {v : Value} {l : List Chg} (hv : Chgs w v l) (ca cb cd ce seq tok at' dg xa xb xd : Int) (la xo : Bool) (xc xs : List UInt8) :
    Calls Tryz.prog 19 #[.agg #[.int .i64 ca, .int .i64 cb, .int .i64 cd, .int .i64 ce], .agg #[.int .i64 seq, v, .bool la, .int .i64 tok, .int .i64 at', .bool true, .int .i64 dg], .agg #[.string ⟨xc.toArray⟩, .bool xo, .int .i64 xa, .int .i64 xb, .int .i64 xd, .string ⟨xs.toArray⟩]] w fun e w' => ∃ u, e = .returned (.agg #[.int .i64 seq, u, .bool la, .int .i64 tok, .int .i64 at', .bool true, .int .i64 dg]) ∧ Chgs w' u l ∧ Below w.heap.size w w' := by
  obtain ⟨n, hn⟩ : ∃ n, l.length = n := ⟨_, rfl⟩
  obtain ⟨ao, cap, rfl⟩ := chgs_shape hv hn
  have b0 := bl_newZ w (.cells #[.int .i64 ca, .int .i64 cb, .int .i64 cd, .int .i64 ce] 23)
  have b1 := bl_newZ (w.alloc (.cells #[.int .i64 ca, .int .i64 cb, .int .i64 cd, .int .i64 ce] 23)) (.cells #[.int .i64 seq, .slice ao n cap, .bool la, .int .i64 tok, .int .i64 at', .bool true, .int .i64 dg] 30)
  have b2 := bl_newZ ((w.alloc (.cells #[.int .i64 ca, .int .i64 cb, .int .i64 cd, .int .i64 ce] 23)).alloc (.cells #[.int .i64 seq, .slice ao n cap, .bool la, .int .i64 tok, .int .i64 at', .bool true, .int .i64 dg] 30)) (.cells #[.string ⟨xc.toArray⟩, .bool xo, .int .i64 xa, .int .i64 xb, .int .i64 xd, .string ⟨xs.toArray⟩] 34)
  have b3 := bl_newZ (((w.alloc (.cells #[.int .i64 ca, .int .i64 cb, .int .i64 cd, .int .i64 ce] 23)).alloc (.cells #[.int .i64 seq, .slice ao n cap, .bool la, .int .i64 tok, .int .i64 at', .bool true, .int .i64 dg] 30)).alloc (.cells #[.string ⟨xc.toArray⟩, .bool xo, .int .i64 xa, .int .i64 xb, .int .i64 xd, .string ⟨xs.toArray⟩] 34)) (.cells #[.int .i64 0, .slice none 0 0, .bool false, .int .i64 0, .int .i64 0, .bool false, .int .i64 0] 30)
  have HB := Lib.hid (below2Z (below2Z (below2Z b0 b1) b2) b3)
  have V := Lib.hid ((((hv.later b0).later b1).later b2).later b3)
  have CB := newQ w (.cells #[.int .i64 ca, .int .i64 cb, .int .i64 cd, .int .i64 ce] 23)
  replace CB := upQ CB b1
  replace CB := upQ CB b2
  replace CB := upQ CB b3
  replace CB := Lib.hid CB
  have LB := newQ (w.alloc (.cells #[.int .i64 ca, .int .i64 cb, .int .i64 cd, .int .i64 ce] 23)) (.cells #[.int .i64 seq, .slice ao n cap, .bool la, .int .i64 tok, .int .i64 at', .bool true, .int .i64 dg] 30)
  rw [World.size_alloc] at LB
  replace LB := upQ LB b2
  replace LB := upQ LB b3
  replace LB := Lib.hid LB
  have XB := newQ ((w.alloc (.cells #[.int .i64 ca, .int .i64 cb, .int .i64 cd, .int .i64 ce] 23)).alloc (.cells #[.int .i64 seq, .slice ao n cap, .bool la, .int .i64 tok, .int .i64 at', .bool true, .int .i64 dg] 30)) (.cells #[.string ⟨xc.toArray⟩, .bool xo, .int .i64 xa, .int .i64 xb, .int .i64 xd, .string ⟨xs.toArray⟩] 34)
  rw [World.size_alloc, World.size_alloc] at XB
  replace XB := upQ XB b3
  replace XB := Lib.hid XB
  have RB := newQ (((w.alloc (.cells #[.int .i64 ca, .int .i64 cb, .int .i64 cd, .int .i64 ce] 23)).alloc (.cells #[.int .i64 seq, .slice ao n cap, .bool la, .int .i64 tok, .int .i64 at', .bool true, .int .i64 dg] 30)).alloc (.cells #[.string ⟨xc.toArray⟩, .bool xo, .int .i64 xa, .int .i64 xb, .int .i64 xd, .string ⟨xs.toArray⟩] 34)) (.cells #[.int .i64 0, .slice none 0 0, .bool false, .int .i64 0, .int .i64 0, .bool false, .int .i64 0] 30)
  rw [World.size_alloc, World.size_alloc, World.size_alloc] at RB
  replace RB := Lib.hid RB
  clear b0 b1 b2 b3
  have hle1 : w.heap.size ≤ w.heap.size + 1 := Nat.le_succ _
  have hle : w.heap.size ≤ w.heap.size + 1 + 1 + 1 := by omega
  clear hv hn
  go_enter Tryz.func19, Tryz.ntmps19
  go_upto_region 1 with fail
  generalize (((w.alloc (.cells #[.int .i64 ca, .int .i64 cb, .int .i64 cd, .int .i64 ce] 23)).alloc (.cells #[.int .i64 seq, .slice ao n cap, .bool la, .int .i64 tok, .int .i64 at', .bool true, .int .i64 dg] 30)).alloc (.cells #[.string ⟨xc.toArray⟩, .bool xo, .int .i64 xa, .int .i64 xb, .int .i64 xd, .string ⟨xs.toArray⟩] 34)).alloc (.cells #[.int .i64 0, .slice none 0 0, .bool false, .int .i64 0, .int .i64 0, .bool false, .int .i64 0] 30) = w5 at CB LB XB RB V HB ⊢
  obtain ⟨⟨LBc0, LBc1, LBc2, LBc3, LBc4, LBc5, LBc6⟩, ⟨LBf0, LBf1, LBf2, LBf3, LBf4, LBf5, LBf6⟩⟩ := blk7 LB.out
  obtain ⟨⟨RBc0, RBc1, RBc2, RBc3, RBc4, RBc5, RBc6⟩, ⟨RBf0, RBf1, RBf2, RBf3, RBf4, RBf5, RBf6⟩⟩ := blk7 RB.out
  go_wp2_with fail
  have VZ := chgs_keep V.out RB.out (noLink _ _ _ _ _ _ _ _ _) (fun k hk => stN7_far _ (w.heap.size + 1 + 1 + 1) (.int .i64 seq) (.slice ao n cap) (.bool la) (.int .i64 tok) (.int .i64 at') (.bool true) (.int .i64 dg) hk) (by rw [stN7_size]; exact Nat.le_refl _)
  have hz := stN7_heap RB.out (.int .i64 seq) (.slice ao n cap) (.bool la) (.int .i64 tok) (.int .i64 at') (.bool true) (.int .i64 dg)
  obtain ⟨⟨z0, z1, z2, z3, z4, z5, z6⟩, -⟩ := blk7 hz
  unfold stN7 at z0 z1 z2 z3 z4 z5 z6
  refine bodyPost_ret (v := .agg #[.int .i64 seq, .slice ao n cap, .bool la, .int .i64 tok, .int .i64 at', .bool true, .int .i64 dg]) (by simp [results, Tryz.results19, go_sem, z0, z1, z2, z3, z4, z5, z6]) rfl ⟨_, rfl, VZ, stN7_below HB.out hle (.int .i64 seq) (.slice ao n cap) (.bool la) (.int .i64 tok) (.int .i64 at') (.bool true) (.int .i64 dg)⟩

set_option maxHeartbeats 3200000 in
set_option maxRecDepth 100000 in
theorem rlpush_b {w : World} {v : Value} {l : List Chg} (hv : Chgs w v l) (hl : l.length ≤ 1000) (ca cb cd ce seq tok at' dg xa xb xd : Int) (la xo : Bool) (xc xs : List UInt8) {ql : List Chg} (hr : Hid (quPush ⟨l, la⟩ ⟨xc, xo, ⟨xa, xb, xd, xs⟩⟩ ca = ⟨ql, true⟩)) :
    Calls Tryz.prog 19 #[.agg #[.int .i64 ca, .int .i64 cb, .int .i64 cd, .int .i64 ce], .agg #[.int .i64 seq, v, .bool la, .int .i64 tok, .int .i64 at', .bool false, .int .i64 dg], .agg #[.string ⟨xc.toArray⟩, .bool xo, .int .i64 xa, .int .i64 xb, .int .i64 xd, .string ⟨xs.toArray⟩]] w fun e w' => e = .returned (.agg #[.int .i64 seq, .slice none 0 0, .bool false, .int .i64 tok, .int .i64 at', .bool true, .int .i64 dg]) ∧ Below w.heap.size w w' := by
  obtain ⟨n, hn⟩ : ∃ n, l.length = n := ⟨_, rfl⟩
  obtain ⟨ao, cap, rfl⟩ := chgs_shape hv hn
  have b0 := bl_newZ w (.cells #[.int .i64 ca, .int .i64 cb, .int .i64 cd, .int .i64 ce] 23)
  have b1 := bl_newZ (w.alloc (.cells #[.int .i64 ca, .int .i64 cb, .int .i64 cd, .int .i64 ce] 23)) (.cells #[.int .i64 seq, .slice ao n cap, .bool la, .int .i64 tok, .int .i64 at', .bool false, .int .i64 dg] 30)
  have b2 := bl_newZ ((w.alloc (.cells #[.int .i64 ca, .int .i64 cb, .int .i64 cd, .int .i64 ce] 23)).alloc (.cells #[.int .i64 seq, .slice ao n cap, .bool la, .int .i64 tok, .int .i64 at', .bool false, .int .i64 dg] 30)) (.cells #[.string ⟨xc.toArray⟩, .bool xo, .int .i64 xa, .int .i64 xb, .int .i64 xd, .string ⟨xs.toArray⟩] 34)
  have b3 := bl_newZ (((w.alloc (.cells #[.int .i64 ca, .int .i64 cb, .int .i64 cd, .int .i64 ce] 23)).alloc (.cells #[.int .i64 seq, .slice ao n cap, .bool la, .int .i64 tok, .int .i64 at', .bool false, .int .i64 dg] 30)).alloc (.cells #[.string ⟨xc.toArray⟩, .bool xo, .int .i64 xa, .int .i64 xb, .int .i64 xd, .string ⟨xs.toArray⟩] 34)) (.cells #[.int .i64 0, .slice none 0 0, .bool false, .int .i64 0, .int .i64 0, .bool false, .int .i64 0] 30)
  have HB := Lib.hid (below2Z (below2Z (below2Z b0 b1) b2) b3)
  have V := Lib.hid ((((hv.later b0).later b1).later b2).later b3)
  have CB := newQ w (.cells #[.int .i64 ca, .int .i64 cb, .int .i64 cd, .int .i64 ce] 23)
  replace CB := upQ CB b1
  replace CB := upQ CB b2
  replace CB := upQ CB b3
  replace CB := Lib.hid CB
  have LB := newQ (w.alloc (.cells #[.int .i64 ca, .int .i64 cb, .int .i64 cd, .int .i64 ce] 23)) (.cells #[.int .i64 seq, .slice ao n cap, .bool la, .int .i64 tok, .int .i64 at', .bool false, .int .i64 dg] 30)
  rw [World.size_alloc] at LB
  replace LB := upQ LB b2
  replace LB := upQ LB b3
  replace LB := Lib.hid LB
  have XB := newQ ((w.alloc (.cells #[.int .i64 ca, .int .i64 cb, .int .i64 cd, .int .i64 ce] 23)).alloc (.cells #[.int .i64 seq, .slice ao n cap, .bool la, .int .i64 tok, .int .i64 at', .bool false, .int .i64 dg] 30)) (.cells #[.string ⟨xc.toArray⟩, .bool xo, .int .i64 xa, .int .i64 xb, .int .i64 xd, .string ⟨xs.toArray⟩] 34)
  rw [World.size_alloc, World.size_alloc] at XB
  replace XB := upQ XB b3
  replace XB := Lib.hid XB
  have RB := newQ (((w.alloc (.cells #[.int .i64 ca, .int .i64 cb, .int .i64 cd, .int .i64 ce] 23)).alloc (.cells #[.int .i64 seq, .slice ao n cap, .bool la, .int .i64 tok, .int .i64 at', .bool false, .int .i64 dg] 30)).alloc (.cells #[.string ⟨xc.toArray⟩, .bool xo, .int .i64 xa, .int .i64 xb, .int .i64 xd, .string ⟨xs.toArray⟩] 34)) (.cells #[.int .i64 0, .slice none 0 0, .bool false, .int .i64 0, .int .i64 0, .bool false, .int .i64 0] 30)
  rw [World.size_alloc, World.size_alloc, World.size_alloc] at RB
  replace RB := Lib.hid RB
  clear b0 b1 b2 b3
  have hle1 : w.heap.size ≤ w.heap.size + 1 := Nat.le_succ _
  have hle : w.heap.size ≤ w.heap.size + 1 + 1 + 1 := by omega
  have HR := hr
  clear hv hn hr
  obtain ⟨⟨CBc0, CBc1, CBc2, CBc3⟩, ⟨CBf0, CBf1, CBf2, CBf3⟩⟩ := blk4 CB.out
  obtain ⟨⟨LBc0, LBc1, LBc2, LBc3, LBc4, LBc5, LBc6⟩, ⟨LBf0, LBf1, LBf2, LBf3, LBf4, LBf5, LBf6⟩⟩ := blk7 LB.out
  obtain ⟨⟨XBc0, XBc1, XBc2, XBc3, XBc4, XBc5⟩, ⟨XBf0, XBf1, XBf2, XBf3, XBf4, XBf5⟩⟩ := blk6 XB.out
  go_enter Tryz.func19, Tryz.ntmps19
  go_wp2_with fail
  clear CBc0 CBc1 CBc2 CBc3 CBf0 CBf1 CBf2 CBf3 LBc0 LBc1 LBc2 LBc3 LBc4 LBc5 LBc6 LBf0 LBf1 LBf2 LBf3 LBf4 LBf5 LBf6 XBc0 XBc1 XBc2 XBc3 XBc4 XBc5 XBf0 XBf1 XBf2 XBf3 XBf4 XBf5
  refine (rqupush_any V.out hl la xc xs xo xa xb xd ca HR).mono ?_
  rintro e w5 ⟨u, rfl, hu, b5⟩
  replace CB := Lib.hid (upQ CB.out b5)
  replace LB := Lib.hid (upQ LB.out b5)
  replace XB := Lib.hid (upQ XB.out b5)
  replace RB := Lib.hid (upQ RB.out b5)
  replace V := Lib.hid (V.out.later b5)
  replace HB := Lib.hid (below2Z HB.out b5)
  obtain ⟨m, hm⟩ : ∃ m, ql.length = m := ⟨_, rfl⟩
  obtain ⟨a2, c2, rfl⟩ := chgs_shape hu hm
  have U := Lib.hid hu
  clear hu hm
  clear b5
  clear V
  clear CB
  clear XB
  obtain ⟨⟨LBc0, LBc1, LBc2, LBc3, LBc4, LBc5, LBc6⟩, ⟨LBf0, LBf1, LBf2, LBf3, LBf4, LBf5, LBf6⟩⟩ := blk7 LB.out
  go_upto_region 4 with fail
  clear LBc0 LBc1 LBc2 LBc3 LBc4 LBc5 LBc6 LBf0 LBf1 LBf2 LBf3 LBf4 LBf5 LBf6
  have UZ : Hid (Chgs ((w5.setCell ⟨w.heap.size + 1, 1, none⟩ (.slice a2 m c2)).setCell ⟨w.heap.size + 1, 2, none⟩ (.bool true)) (.slice a2 m c2) ql) := Lib.hid (chgs_keep U.out LB.out (noLink _ _ _ _ _ _ _ _ _) (fun k hk => by rw [Below.heap_setCell _ _ _ k hk, Below.heap_setCell _ _ _ k hk]) (by simp [World.setCell]))
  clear U
  have hfar0 : ∀ k, ¬ k = w.heap.size + 1 → ((w5.setCell ⟨w.heap.size + 1, 1, none⟩ (.slice a2 m c2)).setCell ⟨w.heap.size + 1, 2, none⟩ (.bool true)).heap[k]? = w5.heap[k]? := fun k hk => by rw [Below.heap_setCell _ _ _ k hk, Below.heap_setCell _ _ _ k hk]
  have LBz : Hid (((w5.setCell ⟨w.heap.size + 1, 1, none⟩ (.slice a2 m c2)).setCell ⟨w.heap.size + 1, 2, none⟩ (.bool true)).heap[w.heap.size + 1]? = some (.cells #[.int .i64 seq, .slice a2 m c2, .bool true, .int .i64 tok, .int .i64 at', .bool false, .int .i64 dg] 30 (0, 0))) := Lib.hid (heap_setCell_same _ (w.heap.size + 1) 2 _ _ (.bool true) (heap_setCell_same _ (w.heap.size + 1) 1 _ _ (.slice a2 m c2) LB.out))
  have RBz : Hid (((w5.setCell ⟨w.heap.size + 1, 1, none⟩ (.slice a2 m c2)).setCell ⟨w.heap.size + 1, 2, none⟩ (.bool true)).heap[w.heap.size + 1 + 1 + 1]? = some (.cells #[.int .i64 0, .slice none 0 0, .bool false, .int .i64 0, .int .i64 0, .bool false, .int .i64 0] 30 (0, 0))) := Lib.hid ((hfar0 (w.heap.size + 1 + 1 + 1) (by omega)).trans RB.out)
  have HBz : Hid (Below w.heap.size w ((w5.setCell ⟨w.heap.size + 1, 1, none⟩ (.slice a2 m c2)).setCell ⟨w.heap.size + 1, 2, none⟩ (.bool true))) := Lib.hid ((HB.out.setCell hle1 _).setCell hle1 _)
  clear LB RB HB hfar0
  generalize (w5.setCell ⟨w.heap.size + 1, 1, none⟩ (.slice a2 m c2)).setCell ⟨w.heap.size + 1, 2, none⟩ (.bool true) = w6 at LBz RBz HBz UZ ⊢
  have LB := LBz
  have RB := RBz
  have HB := HBz
  clear LBz RBz HBz
  obtain ⟨⟨LBc0, LBc1, LBc2, LBc3, LBc4, LBc5, LBc6⟩, ⟨LBf0, LBf1, LBf2, LBf3, LBf4, LBf5, LBf6⟩⟩ := blk7 LB.out
  obtain ⟨⟨RBc0, RBc1, RBc2, RBc3, RBc4, RBc5, RBc6⟩, ⟨RBf0, RBf1, RBf2, RBf3, RBf4, RBf5, RBf6⟩⟩ := blk7 RB.out
  go_wp2_with fail
  clear LBc0 LBc1 LBc2 LBc3 LBc4 LBc5 LBc6 LBf0 LBf1 LBf2 LBf3 LBf4 LBf5 LBf6 RBc0 RBc1 RBc2 RBc3 RBc4 RBc5 RBc6 RBf0 RBf1 RBf2 RBf3 RBf4 RBf5 RBf6
  refine (rlask_any seq tok at' dg a2 m c2 true false _).mono ?_
  rintro e w7 ⟨rfl, b7⟩
  replace LB := Lib.hid (upQ LB.out b7)
  replace RB := Lib.hid (upQ RB.out b7)
  replace HB := Lib.hid (below2Z HB.out b7)
  clear b7
  obtain ⟨⟨RBc0, RBc1, RBc2, RBc3, RBc4, RBc5, RBc6⟩, ⟨RBf0, RBf1, RBf2, RBf3, RBf4, RBf5, RBf6⟩⟩ := blk7 RB.out
  go_wp2_with fail
  have hz := stN7_heap RB.out (.int .i64 seq) (.slice none 0 0) (.bool false) (.int .i64 tok) (.int .i64 at') (.bool true) (.int .i64 dg)
  obtain ⟨⟨z0, z1, z2, z3, z4, z5, z6⟩, -⟩ := blk7 hz
  unfold stN7 at z0 z1 z2 z3 z4 z5 z6
  refine bodyPost_ret (v := .agg #[.int .i64 seq, .slice none 0 0, .bool false, .int .i64 tok, .int .i64 at', .bool true, .int .i64 dg]) (by simp [results, Tryz.results19, go_sem, z0, z1, z2, z3, z4, z5, z6]) rfl ⟨rfl, stN7_below HB.out hle (.int .i64 seq) (.slice none 0 0) (.bool false) (.int .i64 tok) (.int .i64 at') (.bool true) (.int .i64 dg)⟩

set_option maxHeartbeats 3200000 in
set_option maxRecDepth 100000 in
theorem rlpush_c {w : World} {v : Value} {l : List Chg} (hv : Chgs w v l) (hl : l.length ≤ 1000) (ca cb cd ce seq tok at' dg xa xb xd : Int) (la xo : Bool) (xc xs : List UInt8) {ql : List Chg} (hr : Hid (quPush ⟨l, la⟩ ⟨xc, xo, ⟨xa, xb, xd, xs⟩⟩ ca = ⟨ql, false⟩)) :
    Calls Tryz.prog 19 #[.agg #[.int .i64 ca, .int .i64 cb, .int .i64 cd, .int .i64 ce], .agg #[.int .i64 seq, v, .bool la, .int .i64 tok, .int .i64 at', .bool false, .int .i64 dg], .agg #[.string ⟨xc.toArray⟩, .bool xo, .int .i64 xa, .int .i64 xb, .int .i64 xd, .string ⟨xs.toArray⟩]] w fun e w' => ∃ u, e = .returned (.agg #[.int .i64 seq, u, .bool false, .int .i64 tok, .int .i64 at', .bool false, .int .i64 dg]) ∧ Chgs w' u ql ∧ Below w.heap.size w w' := by
  obtain ⟨n, hn⟩ : ∃ n, l.length = n := ⟨_, rfl⟩
  obtain ⟨ao, cap, rfl⟩ := chgs_shape hv hn
  have b0 := bl_newZ w (.cells #[.int .i64 ca, .int .i64 cb, .int .i64 cd, .int .i64 ce] 23)
  have b1 := bl_newZ (w.alloc (.cells #[.int .i64 ca, .int .i64 cb, .int .i64 cd, .int .i64 ce] 23)) (.cells #[.int .i64 seq, .slice ao n cap, .bool la, .int .i64 tok, .int .i64 at', .bool false, .int .i64 dg] 30)
  have b2 := bl_newZ ((w.alloc (.cells #[.int .i64 ca, .int .i64 cb, .int .i64 cd, .int .i64 ce] 23)).alloc (.cells #[.int .i64 seq, .slice ao n cap, .bool la, .int .i64 tok, .int .i64 at', .bool false, .int .i64 dg] 30)) (.cells #[.string ⟨xc.toArray⟩, .bool xo, .int .i64 xa, .int .i64 xb, .int .i64 xd, .string ⟨xs.toArray⟩] 34)
  have b3 := bl_newZ (((w.alloc (.cells #[.int .i64 ca, .int .i64 cb, .int .i64 cd, .int .i64 ce] 23)).alloc (.cells #[.int .i64 seq, .slice ao n cap, .bool la, .int .i64 tok, .int .i64 at', .bool false, .int .i64 dg] 30)).alloc (.cells #[.string ⟨xc.toArray⟩, .bool xo, .int .i64 xa, .int .i64 xb, .int .i64 xd, .string ⟨xs.toArray⟩] 34)) (.cells #[.int .i64 0, .slice none 0 0, .bool false, .int .i64 0, .int .i64 0, .bool false, .int .i64 0] 30)
  have HB := Lib.hid (below2Z (below2Z (below2Z b0 b1) b2) b3)
  have V := Lib.hid ((((hv.later b0).later b1).later b2).later b3)
  have CB := newQ w (.cells #[.int .i64 ca, .int .i64 cb, .int .i64 cd, .int .i64 ce] 23)
  replace CB := upQ CB b1
  replace CB := upQ CB b2
  replace CB := upQ CB b3
  replace CB := Lib.hid CB
  have LB := newQ (w.alloc (.cells #[.int .i64 ca, .int .i64 cb, .int .i64 cd, .int .i64 ce] 23)) (.cells #[.int .i64 seq, .slice ao n cap, .bool la, .int .i64 tok, .int .i64 at', .bool false, .int .i64 dg] 30)
  rw [World.size_alloc] at LB
  replace LB := upQ LB b2
  replace LB := upQ LB b3
  replace LB := Lib.hid LB
  have XB := newQ ((w.alloc (.cells #[.int .i64 ca, .int .i64 cb, .int .i64 cd, .int .i64 ce] 23)).alloc (.cells #[.int .i64 seq, .slice ao n cap, .bool la, .int .i64 tok, .int .i64 at', .bool false, .int .i64 dg] 30)) (.cells #[.string ⟨xc.toArray⟩, .bool xo, .int .i64 xa, .int .i64 xb, .int .i64 xd, .string ⟨xs.toArray⟩] 34)
  rw [World.size_alloc, World.size_alloc] at XB
  replace XB := upQ XB b3
  replace XB := Lib.hid XB
  have RB := newQ (((w.alloc (.cells #[.int .i64 ca, .int .i64 cb, .int .i64 cd, .int .i64 ce] 23)).alloc (.cells #[.int .i64 seq, .slice ao n cap, .bool la, .int .i64 tok, .int .i64 at', .bool false, .int .i64 dg] 30)).alloc (.cells #[.string ⟨xc.toArray⟩, .bool xo, .int .i64 xa, .int .i64 xb, .int .i64 xd, .string ⟨xs.toArray⟩] 34)) (.cells #[.int .i64 0, .slice none 0 0, .bool false, .int .i64 0, .int .i64 0, .bool false, .int .i64 0] 30)
  rw [World.size_alloc, World.size_alloc, World.size_alloc] at RB
  replace RB := Lib.hid RB
  clear b0 b1 b2 b3
  have hle1 : w.heap.size ≤ w.heap.size + 1 := Nat.le_succ _
  have hle : w.heap.size ≤ w.heap.size + 1 + 1 + 1 := by omega
  have HR := hr
  clear hv hn hr
  obtain ⟨⟨CBc0, CBc1, CBc2, CBc3⟩, ⟨CBf0, CBf1, CBf2, CBf3⟩⟩ := blk4 CB.out
  obtain ⟨⟨LBc0, LBc1, LBc2, LBc3, LBc4, LBc5, LBc6⟩, ⟨LBf0, LBf1, LBf2, LBf3, LBf4, LBf5, LBf6⟩⟩ := blk7 LB.out
  obtain ⟨⟨XBc0, XBc1, XBc2, XBc3, XBc4, XBc5⟩, ⟨XBf0, XBf1, XBf2, XBf3, XBf4, XBf5⟩⟩ := blk6 XB.out
  go_enter Tryz.func19, Tryz.ntmps19
  go_wp2_with fail
  clear CBc0 CBc1 CBc2 CBc3 CBf0 CBf1 CBf2 CBf3 LBc0 LBc1 LBc2 LBc3 LBc4 LBc5 LBc6 LBf0 LBf1 LBf2 LBf3 LBf4 LBf5 LBf6 XBc0 XBc1 XBc2 XBc3 XBc4 XBc5 XBf0 XBf1 XBf2 XBf3 XBf4 XBf5
  refine (rqupush_any V.out hl la xc xs xo xa xb xd ca HR).mono ?_
  rintro e w5 ⟨u, rfl, hu, b5⟩
  replace CB := Lib.hid (upQ CB.out b5)
  replace LB := Lib.hid (upQ LB.out b5)
  replace XB := Lib.hid (upQ XB.out b5)
  replace RB := Lib.hid (upQ RB.out b5)
  replace V := Lib.hid (V.out.later b5)
  replace HB := Lib.hid (below2Z HB.out b5)
  obtain ⟨m, hm⟩ : ∃ m, ql.length = m := ⟨_, rfl⟩
  obtain ⟨a2, c2, rfl⟩ := chgs_shape hu hm
  have U := Lib.hid hu
  clear hu hm
  clear b5
  clear V
  clear CB
  clear XB
  obtain ⟨⟨LBc0, LBc1, LBc2, LBc3, LBc4, LBc5, LBc6⟩, ⟨LBf0, LBf1, LBf2, LBf3, LBf4, LBf5, LBf6⟩⟩ := blk7 LB.out
  go_upto_region 4 with fail
  clear LBc0 LBc1 LBc2 LBc3 LBc4 LBc5 LBc6 LBf0 LBf1 LBf2 LBf3 LBf4 LBf5 LBf6
  have UZ : Hid (Chgs ((w5.setCell ⟨w.heap.size + 1, 1, none⟩ (.slice a2 m c2)).setCell ⟨w.heap.size + 1, 2, none⟩ (.bool false)) (.slice a2 m c2) ql) := Lib.hid (chgs_keep U.out LB.out (noLink _ _ _ _ _ _ _ _ _) (fun k hk => by rw [Below.heap_setCell _ _ _ k hk, Below.heap_setCell _ _ _ k hk]) (by simp [World.setCell]))
  clear U
  have hfar0 : ∀ k, ¬ k = w.heap.size + 1 → ((w5.setCell ⟨w.heap.size + 1, 1, none⟩ (.slice a2 m c2)).setCell ⟨w.heap.size + 1, 2, none⟩ (.bool false)).heap[k]? = w5.heap[k]? := fun k hk => by rw [Below.heap_setCell _ _ _ k hk, Below.heap_setCell _ _ _ k hk]
  have LBz : Hid (((w5.setCell ⟨w.heap.size + 1, 1, none⟩ (.slice a2 m c2)).setCell ⟨w.heap.size + 1, 2, none⟩ (.bool false)).heap[w.heap.size + 1]? = some (.cells #[.int .i64 seq, .slice a2 m c2, .bool false, .int .i64 tok, .int .i64 at', .bool false, .int .i64 dg] 30 (0, 0))) := Lib.hid (heap_setCell_same _ (w.heap.size + 1) 2 _ _ (.bool false) (heap_setCell_same _ (w.heap.size + 1) 1 _ _ (.slice a2 m c2) LB.out))
  have RBz : Hid (((w5.setCell ⟨w.heap.size + 1, 1, none⟩ (.slice a2 m c2)).setCell ⟨w.heap.size + 1, 2, none⟩ (.bool false)).heap[w.heap.size + 1 + 1 + 1]? = some (.cells #[.int .i64 0, .slice none 0 0, .bool false, .int .i64 0, .int .i64 0, .bool false, .int .i64 0] 30 (0, 0))) := Lib.hid ((hfar0 (w.heap.size + 1 + 1 + 1) (by omega)).trans RB.out)
  have HBz : Hid (Below w.heap.size w ((w5.setCell ⟨w.heap.size + 1, 1, none⟩ (.slice a2 m c2)).setCell ⟨w.heap.size + 1, 2, none⟩ (.bool false))) := Lib.hid ((HB.out.setCell hle1 _).setCell hle1 _)
  clear LB RB HB hfar0
  generalize (w5.setCell ⟨w.heap.size + 1, 1, none⟩ (.slice a2 m c2)).setCell ⟨w.heap.size + 1, 2, none⟩ (.bool false) = w6 at LBz RBz HBz UZ ⊢
  have LB := LBz
  have RB := RBz
  have HB := HBz
  clear LBz RBz HBz
  obtain ⟨⟨LBc0, LBc1, LBc2, LBc3, LBc4, LBc5, LBc6⟩, ⟨LBf0, LBf1, LBf2, LBf3, LBf4, LBf5, LBf6⟩⟩ := blk7 LB.out
  obtain ⟨⟨RBc0, RBc1, RBc2, RBc3, RBc4, RBc5, RBc6⟩, ⟨RBf0, RBf1, RBf2, RBf3, RBf4, RBf5, RBf6⟩⟩ := blk7 RB.out
  go_wp2_with fail
  have VZ := chgs_keep UZ.out RB.out (noLink _ _ _ _ _ _ _ _ _) (fun k hk => stN7_far _ (w.heap.size + 1 + 1 + 1) (.int .i64 seq) (.slice a2 m c2) (.bool false) (.int .i64 tok) (.int .i64 at') (.bool false) (.int .i64 dg) hk) (by rw [stN7_size]; exact Nat.le_refl _)
  have hz := stN7_heap RB.out (.int .i64 seq) (.slice a2 m c2) (.bool false) (.int .i64 tok) (.int .i64 at') (.bool false) (.int .i64 dg)
  obtain ⟨⟨z0, z1, z2, z3, z4, z5, z6⟩, -⟩ := blk7 hz
  unfold stN7 at z0 z1 z2 z3 z4 z5 z6
  refine bodyPost_ret (v := .agg #[.int .i64 seq, .slice a2 m c2, .bool false, .int .i64 tok, .int .i64 at', .bool false, .int .i64 dg]) (by simp [results, Tryz.results19, go_sem, z0, z1, z2, z3, z4, z5, z6]) rfl ⟨_, rfl, VZ, stN7_below HB.out hle (.int .i64 seq) (.slice a2 m c2) (.bool false) (.int .i64 tok) (.int .i64 at') (.bool false) (.int .i64 dg)⟩

/-- P18.2, the document's. -/
theorem rlpush_any {w : World} {v : Value} {l : List Chg} (hv : Chgs w v l) (hl : l.length ≤ 1000) (la sn : Bool) (ca cb cd ce seq tok at' dg xa xb xd : Int) (xo : Bool) (xc xs : List UInt8) {m : Lnk} (hr : Hid (lnPush ⟨ca, cb, cd, ce⟩ ⟨seq, ⟨l, la⟩, ⟨tok, at'⟩, sn, dg⟩ ⟨xc, xo, ⟨xa, xb, xd, xs⟩⟩ = m)) :
    Calls Tryz.prog 19 #[.agg #[.int .i64 ca, .int .i64 cb, .int .i64 cd, .int .i64 ce], .agg #[.int .i64 seq, v, .bool la, .int .i64 tok, .int .i64 at', .bool sn, .int .i64 dg], .agg #[.string ⟨xc.toArray⟩, .bool xo, .int .i64 xa, .int .i64 xb, .int .i64 xd, .string ⟨xs.toArray⟩]] w fun e w' => ∃ u, e = .returned (.agg #[.int .i64 m.seq, u, .bool m.q.la, .int .i64 m.b.tok, .int .i64 m.b.at', .bool m.sn, .int .i64 m.dg]) ∧ Chgs w' u m.q.l ∧ Below w.heap.size w w' := by
  have hr := hr.out
  unfold lnPush at hr
  cases sn with
  | true =>
    rw [if_pos rfl] at hr
    subst hr
    exact rlpush_a hv ca cb cd ce seq tok at' dg xa xb xd la xo xc xs
  | false =>
    rw [if_neg (by simp)] at hr
    obtain ⟨⟨ql, qa⟩, hq⟩ : ∃ q, quPush ⟨l, la⟩ ⟨xc, xo, ⟨xa, xb, xd, xs⟩⟩ ca = q := ⟨_, rfl⟩
    simp only [hq] at hr
    cases qa with
    | true =>
      rw [if_pos rfl] at hr
      subst hr
      exact (rlpush_b hv hl ca cb cd ce seq tok at' dg xa xb xd la xo xc xs (Lib.hid hq)).mono fun e w' ⟨h1, h2⟩ => ⟨_, h1, chgs_nil w', h2⟩
    | false =>
      rw [if_neg (by simp)] at hr
      subst hr
      exact rlpush_c hv hl ca cb cd ce seq tok at' dg xa xb xd la xo xc xs (Lib.hid hq)

set_option maxHeartbeats 3200000 in
set_option maxRecDepth 100000 in
theorem rlquiet_any {w : World} {v : Value} {l : List Chg} (hv : Chgs w v l) (la sn : Bool) (seq tok at' dg : Int) {r : Bool} (hr : Hid (lnQuiet ⟨seq, ⟨l, la⟩, ⟨tok, at'⟩, sn, dg⟩ = r)) :
    Calls Tryz.prog 17 #[.agg #[.int .i64 seq, v, .bool la, .int .i64 tok, .int .i64 at', .bool sn, .int .i64 dg]] w fun e w' => e = .returned (.bool r) ∧ Below w.heap.size w w' := by
  obtain ⟨n, hn⟩ : ∃ n, l.length = n := ⟨_, rfl⟩
  obtain ⟨ao, cap, rfl⟩ := chgs_shape hv hn
  obtain ⟨m, hm⟩ : ∃ m, quEmpty ⟨l, la⟩ = m := ⟨_, rfl⟩
  have HM := Lib.hid hm
  have hr := hr.out
  have hr2 : (!sn && m) = r := by rw [← hr, ← hm]; rfl
  subst hr2
  clear hr hm
  have b0 := bl_newZ w (.cells #[.int .i64 seq, .slice ao n cap, .bool la, .int .i64 tok, .int .i64 at', .bool sn, .int .i64 dg] 30)
  have HB := Lib.hid b0
  have V := Lib.hid (hv.later b0)
  have LB := newQ w (.cells #[.int .i64 seq, .slice ao n cap, .bool la, .int .i64 tok, .int .i64 at', .bool sn, .int .i64 dg] 30)
  replace LB := Lib.hid LB
  clear b0
  clear hv hn
  cases sn with
  | true =>
    obtain ⟨⟨LBc0, LBc1, LBc2, LBc3, LBc4, LBc5, LBc6⟩, ⟨LBf0, LBf1, LBf2, LBf3, LBf4, LBf5, LBf6⟩⟩ := blk7 LB.out
    go_enter Tryz.func17, Tryz.ntmps17
    go_wp2_with fail
    go_ret
    exact ⟨rfl, HB.out⟩
  | false =>
    obtain ⟨⟨LBc0, LBc1, LBc2, LBc3, LBc4, LBc5, LBc6⟩, ⟨LBf0, LBf1, LBf2, LBf3, LBf4, LBf5, LBf6⟩⟩ := blk7 LB.out
    go_enter Tryz.func17, Tryz.ntmps17
    go_wp2_with fail
    clear LBc0 LBc1 LBc2 LBc3 LBc4 LBc5 LBc6 LBf0 LBf1 LBf2 LBf3 LBf4 LBf5 LBf6
    refine (rquempty_any V.out la HM).mono ?_
    rintro e w2 ⟨rfl, b2⟩
    replace LB := Lib.hid (upQ LB.out b2)
    replace V := Lib.hid (V.out.later b2)
    replace HB := Lib.hid (below2Z HB.out b2)
    clear b2
    go_wp2_with fail
    go_ret
    exact ⟨rfl, HB.out⟩

set_option maxHeartbeats 3200000 in
set_option maxRecDepth 100000 in
theorem rlfew_any {w : World} {v : Value} {l : List Chg} (hv : Chgs w v l) (la sn : Bool) (seq tok at' dg : Int) {r : Bool} (hr : Hid (fewC l 30 = r)) :
    Calls Tryz.prog 8 #[.agg #[.int .i64 seq, v, .bool la, .int .i64 tok, .int .i64 at', .bool sn, .int .i64 dg]] w fun e w' => e = .returned (.bool r) ∧ Below w.heap.size w w' := by
  obtain ⟨n, hn⟩ : ∃ n, l.length = n := ⟨_, rfl⟩
  obtain ⟨ao, cap, rfl⟩ := chgs_shape hv hn
  have b0 := bl_newZ w (.cells #[.int .i64 seq, .slice ao n cap, .bool la, .int .i64 tok, .int .i64 at', .bool sn, .int .i64 dg] 30)
  have HB := Lib.hid b0
  have V := Lib.hid (hv.later b0)
  have LB := newQ w (.cells #[.int .i64 seq, .slice ao n cap, .bool la, .int .i64 tok, .int .i64 at', .bool sn, .int .i64 dg] 30)
  replace LB := Lib.hid LB
  clear b0
  have HR := hr
  clear hv hn hr
  obtain ⟨⟨LBc0, LBc1, LBc2, LBc3, LBc4, LBc5, LBc6⟩, ⟨LBf0, LBf1, LBf2, LBf3, LBf4, LBf5, LBf6⟩⟩ := blk7 LB.out
  go_enter Tryz.func8, Tryz.ntmps8
  go_wp2_with fail
  clear LBc0 LBc1 LBc2 LBc3 LBc4 LBc5 LBc6 LBf0 LBf1 LBf2 LBf3 LBf4 LBf5 LBf6
  refine (fewq_any V.out la HR).mono ?_
  rintro e w2 ⟨rfl, b2⟩
  replace LB := Lib.hid (upQ LB.out b2)
  replace V := Lib.hid (V.out.later b2)
  replace HB := Lib.hid (below2Z HB.out b2)
  clear b2
  go_wp2_with fail
  go_ret
  exact ⟨rfl, HB.out⟩

theorem bkt_eqInL (d : Nat) (a b a' b' : Int) (w : World) :
    (Op.equalIn (d + 1 + 1) 28 (.agg #[.int .i64 a, .int .i64 b]) (.agg #[.int .i64 a', .int .i64 b'])).run Tryz.prog w = .ok (decide (a = a') && decide (b = b')) w := by
  have hS : Tryz.prog.underlying 28 = some (.struct (Tryz.prog.fieldsOf 28)) := by kernel_rfl
  have hp : Tryz.prog.stoodInHeld 28 = false := by kernel_rfl
  have u3 := Tryz.underlying3
  have a3 := Tryz.isAgg3
  have z3 := Tryz.sizeOf3
  rw [run_equalIn_agg w (d + 1) 28 _ _ hS hp]
  simp only [Program.fieldsOf, Tryz.underlying28]
  go_simp
  by_cases h1 : a = a' <;> by_cases h2 : b = b' <;> simp [h1, h2]

theorem bkt_eqlL (a b a' b' : Int) {r : Bool} (h : (decide (a = a') && decide (b = b')) = r) : ∀ w, (binOp .eql 28 (.agg #[.int .i64 a, .int .i64 b]) (.agg #[.int .i64 a', .int .i64 b'])).run Tryz.prog w = .ok (.bool r) w := fun w => by
  rw [run_eql_struct, show (10000 : Nat) = 9998 + 1 + 1 from rfl, bkt_eqInL 9998, h]
  rfl

theorem bool_eqlL (q : Bool) : (q == q) = true := by cases q <;> rfl

set_option maxHeartbeats 3200000 in
set_option maxRecDepth 100000 in
theorem rlsame_yes {w : World} {v u : Value} {l : List Chg} (hv : Chgs w v l) (hu : Chgs w u l) (la sn : Bool) (seq tok at' dg : Int) :
    Calls Tryz.prog 13 #[.agg #[.int .i64 seq, v, .bool la, .int .i64 tok, .int .i64 at', .bool sn, .int .i64 dg], .agg #[.int .i64 seq, u, .bool la, .int .i64 tok, .int .i64 at', .bool sn, .int .i64 dg]] w fun e w' => e = .returned (.bool true) ∧ Below w.heap.size w w' := by
  obtain ⟨n, hn⟩ : ∃ n, l.length = n := ⟨_, rfl⟩
  obtain ⟨ao, cap, rfl⟩ := chgs_shape hv hn
  obtain ⟨ao2, cap2, rfl⟩ := chgs_shape hu hn
  have b0 := bl_newZ w (.cells #[.int .i64 seq, .slice ao n cap, .bool la, .int .i64 tok, .int .i64 at', .bool sn, .int .i64 dg] 30)
  have b1 := bl_newZ (w.alloc (.cells #[.int .i64 seq, .slice ao n cap, .bool la, .int .i64 tok, .int .i64 at', .bool sn, .int .i64 dg] 30)) (.cells #[.int .i64 seq, .slice ao2 n cap2, .bool la, .int .i64 tok, .int .i64 at', .bool sn, .int .i64 dg] 30)
  have HB := Lib.hid (below2Z b0 b1)
  have V := Lib.hid ((hv.later b0).later b1)
  have U := Lib.hid ((hu.later b0).later b1)
  have LB := newQ w (.cells #[.int .i64 seq, .slice ao n cap, .bool la, .int .i64 tok, .int .i64 at', .bool sn, .int .i64 dg] 30)
  replace LB := upQ LB b1
  replace LB := Lib.hid LB
  have MB := newQ (w.alloc (.cells #[.int .i64 seq, .slice ao n cap, .bool la, .int .i64 tok, .int .i64 at', .bool sn, .int .i64 dg] 30)) (.cells #[.int .i64 seq, .slice ao2 n cap2, .bool la, .int .i64 tok, .int .i64 at', .bool sn, .int .i64 dg] 30)
  rw [World.size_alloc] at MB
  replace MB := Lib.hid MB
  clear b0 b1
  clear hv hu hn
  have e1 := bkt_eqlL tok at' tok at' (r := true) (by simp)
  have e2 := bool_eqlL la
  have e3 := bool_eqlL sn
  obtain ⟨⟨LBc0, LBc1, LBc2, LBc3, LBc4, LBc5, LBc6⟩, ⟨LBf0, LBf1, LBf2, LBf3, LBf4, LBf5, LBf6⟩⟩ := blk7 LB.out
  obtain ⟨⟨MBc0, MBc1, MBc2, MBc3, MBc4, MBc5, MBc6⟩, ⟨MBf0, MBf1, MBf2, MBf3, MBf4, MBf5, MBf6⟩⟩ := blk7 MB.out
  go_enter Tryz.func13, Tryz.ntmps13
  go_wp2_with fail
  clear LBc0 LBc1 LBc2 LBc3 LBc4 LBc5 LBc6 LBf0 LBf1 LBf2 LBf3 LBf4 LBf5 LBf6 MBc0 MBc1 MBc2 MBc3 MBc4 MBc5 MBc6 MBf0 MBf1 MBf2 MBf3 MBf4 MBf5 MBf6
  refine (qusame_any V.out U.out la la (Lib.hid (quSame_self _))).mono ?_
  rintro e w3 ⟨rfl, b3⟩
  replace LB := Lib.hid (upQ LB.out b3)
  replace MB := Lib.hid (upQ MB.out b3)
  replace V := Lib.hid (V.out.later b3)
  replace U := Lib.hid (U.out.later b3)
  replace HB := Lib.hid (below2Z HB.out b3)
  clear b3
  obtain ⟨⟨LBc0, LBc1, LBc2, LBc3, LBc4, LBc5, LBc6⟩, ⟨LBf0, LBf1, LBf2, LBf3, LBf4, LBf5, LBf6⟩⟩ := blk7 LB.out
  obtain ⟨⟨MBc0, MBc1, MBc2, MBc3, MBc4, MBc5, MBc6⟩, ⟨MBf0, MBf1, MBf2, MBf3, MBf4, MBf5, MBf6⟩⟩ := blk7 MB.out
  go_wp2_with fail
  go_ret
  exact ⟨rfl, HB.out⟩

set_option maxHeartbeats 3200000 in
set_option maxRecDepth 100000 in
/-- P18.1, the document's. -/
theorem rlmay_any {w : World} {v : Value} {l : List Chg} (hv : Chgs w v l) (hs : ShortC l) (hl : l.length ≤ 100) (la sn : Bool) (seq tok at' dg ca cb cd ce : Int) {r : Bool} (hr : Hid (lnMay ⟨ca, cb, cd, ce⟩ ⟨seq, ⟨l, la⟩, ⟨tok, at'⟩, sn, dg⟩ = r)) :
    Calls Tryz.prog 15 #[.agg #[.int .i64 ca, .int .i64 cb, .int .i64 cd, .int .i64 ce], .agg #[.int .i64 seq, v, .bool la, .int .i64 tok, .int .i64 at', .bool sn, .int .i64 dg]] w fun e w' => e = .returned (.bool r) ∧ Below w.heap.size w w' := by
  obtain ⟨n, hn⟩ : ∃ n, l.length = n := ⟨_, rfl⟩
  obtain ⟨ao, cap, rfl⟩ := chgs_shape hv hn
  have HS := Lib.hid hs
  obtain ⟨m0, h0⟩ : ∃ m, pcOne ⟨ca, cb, cd, ce⟩ ⟨tok, at'⟩ = m := ⟨_, rfl⟩
  obtain ⟨m1, h1⟩ : ∃ m, decide (0 ≤ seq) = m := ⟨_, rfl⟩
  obtain ⟨m2, h2⟩ : ∃ m, decide (seq ≤ 1099511627776) = m := ⟨_, rfl⟩
  obtain ⟨m3, h3⟩ : ∃ m, quMay ⟨l, la⟩ ca = m := ⟨_, rfl⟩
  obtain ⟨m4, h4⟩ : ∃ m, pcTime dg = m := ⟨_, rfl⟩
  obtain ⟨m5, h5⟩ : ∃ m, decide (l = []) = m := ⟨_, rfl⟩
  have hr := hr.out
  unfold lnMay at hr
  simp only at hr
  rw [h0, h1, h2, h3, h4, h5] at hr
  subst hr
  have H0 := Lib.hid h0
  have H3 := Lib.hid h3
  have H4 := Lib.hid h4
  clear hs h0 h3 h4
  have t1 : decide (seq < 0) = !m1 := by rw [← h1]; by_cases h : 0 ≤ seq <;> simp [h] <;> omega
  have t2 : decide (1099511627776 < seq) = !m2 := by rw [← h2]; by_cases h : seq ≤ 1099511627776 <;> simp [h] <;> omega
  have t3 : ((n : Int) == 0) = m5 := by rw [← h5, ← hn]; cases l <;> simp <;> omega
  have t4 : (n == 0) = m5 := by rw [← h5, ← hn]; cases l <;> simp
  clear h1 h2 h5
  have b0 := bl_newZ w (.cells #[.int .i64 ca, .int .i64 cb, .int .i64 cd, .int .i64 ce] 23)
  have b1 := bl_newZ (w.alloc (.cells #[.int .i64 ca, .int .i64 cb, .int .i64 cd, .int .i64 ce] 23)) (.cells #[.int .i64 seq, .slice ao n cap, .bool la, .int .i64 tok, .int .i64 at', .bool sn, .int .i64 dg] 30)
  have HB := Lib.hid (below2Z b0 b1)
  have V := Lib.hid ((hv.later b0).later b1)
  have CB := newQ w (.cells #[.int .i64 ca, .int .i64 cb, .int .i64 cd, .int .i64 ce] 23)
  replace CB := upQ CB b1
  replace CB := Lib.hid CB
  have LB := newQ (w.alloc (.cells #[.int .i64 ca, .int .i64 cb, .int .i64 cd, .int .i64 ce] 23)) (.cells #[.int .i64 seq, .slice ao n cap, .bool la, .int .i64 tok, .int .i64 at', .bool sn, .int .i64 dg] 30)
  rw [World.size_alloc] at LB
  replace LB := Lib.hid LB
  clear b0 b1
  clear hv hn
  obtain ⟨⟨CBc0, CBc1, CBc2, CBc3⟩, ⟨CBf0, CBf1, CBf2, CBf3⟩⟩ := blk4 CB.out
  obtain ⟨⟨LBc0, LBc1, LBc2, LBc3, LBc4, LBc5, LBc6⟩, ⟨LBf0, LBf1, LBf2, LBf3, LBf4, LBf5, LBf6⟩⟩ := blk7 LB.out
  go_enter Tryz.func15, Tryz.ntmps15
  go_wp2_with fail
  clear CBc0 CBc1 CBc2 CBc3 CBf0 CBf1 CBf2 CBf3 LBc0 LBc1 LBc2 LBc3 LBc4 LBc5 LBc6 LBf0 LBf1 LBf2 LBf3 LBf4 LBf5 LBf6
  refine (rpone_any ca cb cd ce tok at' H0 _).mono ?_
  rintro e w3 ⟨rfl, b3⟩
  replace CB := Lib.hid (upQ CB.out b3)
  replace LB := Lib.hid (upQ LB.out b3)
  replace V := Lib.hid (V.out.later b3)
  replace HB := Lib.hid (below2Z HB.out b3)
  clear b3
  cases m0 with
  | false =>
    obtain ⟨⟨CBc0, CBc1, CBc2, CBc3⟩, ⟨CBf0, CBf1, CBf2, CBf3⟩⟩ := blk4 CB.out
    obtain ⟨⟨LBc0, LBc1, LBc2, LBc3, LBc4, LBc5, LBc6⟩, ⟨LBf0, LBf1, LBf2, LBf3, LBf4, LBf5, LBf6⟩⟩ := blk7 LB.out
    go_wp2_with fail
    go_ret
    exact ⟨rfl, HB.out⟩
  | true =>
    cases m1 with
    | false =>
      obtain ⟨⟨CBc0, CBc1, CBc2, CBc3⟩, ⟨CBf0, CBf1, CBf2, CBf3⟩⟩ := blk4 CB.out
      obtain ⟨⟨LBc0, LBc1, LBc2, LBc3, LBc4, LBc5, LBc6⟩, ⟨LBf0, LBf1, LBf2, LBf3, LBf4, LBf5, LBf6⟩⟩ := blk7 LB.out
      go_wp2_with fail
      go_ret
      exact ⟨rfl, HB.out⟩
    | true =>
      cases m2 with
      | false =>
        obtain ⟨⟨CBc0, CBc1, CBc2, CBc3⟩, ⟨CBf0, CBf1, CBf2, CBf3⟩⟩ := blk4 CB.out
        obtain ⟨⟨LBc0, LBc1, LBc2, LBc3, LBc4, LBc5, LBc6⟩, ⟨LBf0, LBf1, LBf2, LBf3, LBf4, LBf5, LBf6⟩⟩ := blk7 LB.out
        go_wp2_with fail
        go_ret
        exact ⟨rfl, HB.out⟩
      | true =>
        obtain ⟨⟨CBc0, CBc1, CBc2, CBc3⟩, ⟨CBf0, CBf1, CBf2, CBf3⟩⟩ := blk4 CB.out
        obtain ⟨⟨LBc0, LBc1, LBc2, LBc3, LBc4, LBc5, LBc6⟩, ⟨LBf0, LBf1, LBf2, LBf3, LBf4, LBf5, LBf6⟩⟩ := blk7 LB.out
        go_wp2_with fail
        clear CBc0 CBc1 CBc2 CBc3 CBf0 CBf1 CBf2 CBf3 LBc0 LBc1 LBc2 LBc3 LBc4 LBc5 LBc6 LBf0 LBf1 LBf2 LBf3 LBf4 LBf5 LBf6
        refine (rqumay_any V.out HS.out hl la H3).mono ?_
        rintro e w4 ⟨rfl, b4⟩
        replace CB := Lib.hid (upQ CB.out b4)
        replace LB := Lib.hid (upQ LB.out b4)
        replace V := Lib.hid (V.out.later b4)
        replace HB := Lib.hid (below2Z HB.out b4)
        clear b4
        cases m3 with
        | false =>
          obtain ⟨⟨CBc0, CBc1, CBc2, CBc3⟩, ⟨CBf0, CBf1, CBf2, CBf3⟩⟩ := blk4 CB.out
          obtain ⟨⟨LBc0, LBc1, LBc2, LBc3, LBc4, LBc5, LBc6⟩, ⟨LBf0, LBf1, LBf2, LBf3, LBf4, LBf5, LBf6⟩⟩ := blk7 LB.out
          go_wp2_with fail
          go_ret
          exact ⟨rfl, HB.out⟩
        | true =>
          cases la with
          | true =>
            obtain ⟨⟨CBc0, CBc1, CBc2, CBc3⟩, ⟨CBf0, CBf1, CBf2, CBf3⟩⟩ := blk4 CB.out
            obtain ⟨⟨LBc0, LBc1, LBc2, LBc3, LBc4, LBc5, LBc6⟩, ⟨LBf0, LBf1, LBf2, LBf3, LBf4, LBf5, LBf6⟩⟩ := blk7 LB.out
            go_wp2_with fail
            go_ret
            exact ⟨rfl, HB.out⟩
          | false =>
            obtain ⟨⟨CBc0, CBc1, CBc2, CBc3⟩, ⟨CBf0, CBf1, CBf2, CBf3⟩⟩ := blk4 CB.out
            obtain ⟨⟨LBc0, LBc1, LBc2, LBc3, LBc4, LBc5, LBc6⟩, ⟨LBf0, LBf1, LBf2, LBf3, LBf4, LBf5, LBf6⟩⟩ := blk7 LB.out
            go_wp2_with fail
            refine (rptime_any dg _).mono ?_
            rintro e w95 ⟨rfl, rfl⟩
            rw [H4.out]
            clear CBc0 CBc1 CBc2 CBc3 CBf0 CBf1 CBf2 CBf3 LBc0 LBc1 LBc2 LBc3 LBc4 LBc5 LBc6 LBf0 LBf1 LBf2 LBf3 LBf4 LBf5 LBf6
            cases m4 with
            | false =>
              obtain ⟨⟨CBc0, CBc1, CBc2, CBc3⟩, ⟨CBf0, CBf1, CBf2, CBf3⟩⟩ := blk4 CB.out
              obtain ⟨⟨LBc0, LBc1, LBc2, LBc3, LBc4, LBc5, LBc6⟩, ⟨LBf0, LBf1, LBf2, LBf3, LBf4, LBf5, LBf6⟩⟩ := blk7 LB.out
              go_wp2_with fail
              go_ret
              exact ⟨rfl, HB.out⟩
            | true =>
              cases sn with
              | false =>
                obtain ⟨⟨CBc0, CBc1, CBc2, CBc3⟩, ⟨CBf0, CBf1, CBf2, CBf3⟩⟩ := blk4 CB.out
                obtain ⟨⟨LBc0, LBc1, LBc2, LBc3, LBc4, LBc5, LBc6⟩, ⟨LBf0, LBf1, LBf2, LBf3, LBf4, LBf5, LBf6⟩⟩ := blk7 LB.out
                go_wp2_with fail
                go_ret
                exact ⟨rfl, HB.out⟩
              | true =>
                cases m5 with
                | false =>
                  obtain ⟨⟨CBc0, CBc1, CBc2, CBc3⟩, ⟨CBf0, CBf1, CBf2, CBf3⟩⟩ := blk4 CB.out
                  obtain ⟨⟨LBc0, LBc1, LBc2, LBc3, LBc4, LBc5, LBc6⟩, ⟨LBf0, LBf1, LBf2, LBf3, LBf4, LBf5, LBf6⟩⟩ := blk7 LB.out
                  go_wp2_with fail
                  go_ret
                  exact ⟨rfl, HB.out⟩
                | true =>
                  obtain ⟨⟨CBc0, CBc1, CBc2, CBc3⟩, ⟨CBf0, CBf1, CBf2, CBf3⟩⟩ := blk4 CB.out
                  obtain ⟨⟨LBc0, LBc1, LBc2, LBc3, LBc4, LBc5, LBc6⟩, ⟨LBf0, LBf1, LBf2, LBf3, LBf4, LBf5, LBf6⟩⟩ := blk7 LB.out
                  go_wp2_with fail
                  go_ret
                  exact ⟨rfl, HB.out⟩

end Go.Proofs.YtndicdomdndjaaaGreat

end

section

/-
  LAYER 18: small words for the walks.
-/
namespace Go.Proofs.YtndicdomdndjaaaGreat
open Go.RowKit

theorem lemit_eq {w : World} {v vt : Value} {ql : List Chg} {view : List Row} (hv : Chgs w v ql) (ht : Tab w vt view) (hs : ShortC ql) (hl : ql.length ≤ 100) (hsh : Short view) (ca cb cd ce seq tok at' dg now : Int) (la sn : Bool)
    {ms mt ma md : Int} {mq : List Chg} {ml mn : Bool} {fs : List Frm} (hr : Hid (lnEmit ⟨ca, cb, cd, ce⟩ ⟨seq, ⟨ql, la⟩, ⟨tok, at'⟩, sn, dg⟩ view now = (⟨ms, ⟨mq, ml⟩, ⟨mt, ma⟩, mn, md⟩, fs))) :
    Calls Tryz.prog 23 #[.agg #[.int .i64 ca, .int .i64 cb, .int .i64 cd, .int .i64 ce], .agg #[.int .i64 seq, v, .bool la, .int .i64 tok, .int .i64 at', .bool sn, .int .i64 dg], vt, .int .i64 now] w fun e w' =>
      ∃ u fv ps, e = .returned (.tuple #[.agg #[.int .i64 ms, u, .bool ml, .int .i64 mt, .int .i64 ma, .bool mn, .int .i64 md], fv]) ∧ Chgs w' u mq ∧ KF w w' fv ps ∧ ps.map FrS.f = fs ∧ Below w.heap.size w w' :=
  lemit_any hv ht hs hl hsh ca cb cd ce seq tok at' dg now la sn hr

theorem lpush_eq {w : World} {v : Value} {l : List Chg} (hv : Chgs w v l) (hl : l.length ≤ 1000) (la sn : Bool) (ca cb cd ce seq tok at' dg xa xb xd : Int) (xo : Bool) (xc xs : List UInt8) {ms mt ma md : Int} {mq : List Chg} {ml mn : Bool}
    (hr : Hid (lnPush ⟨ca, cb, cd, ce⟩ ⟨seq, ⟨l, la⟩, ⟨tok, at'⟩, sn, dg⟩ ⟨xc, xo, ⟨xa, xb, xd, xs⟩⟩ = ⟨ms, ⟨mq, ml⟩, ⟨mt, ma⟩, mn, md⟩)) :
    Calls Tryz.prog 18 #[.agg #[.int .i64 ca, .int .i64 cb, .int .i64 cd, .int .i64 ce], .agg #[.int .i64 seq, v, .bool la, .int .i64 tok, .int .i64 at', .bool sn, .int .i64 dg], .agg #[.string ⟨xc.toArray⟩, .bool xo, .int .i64 xa, .int .i64 xb, .int .i64 xd, .string ⟨xs.toArray⟩]] w fun e w' => ∃ u, e = .returned (.agg #[.int .i64 ms, u, .bool ml, .int .i64 mt, .int .i64 ma, .bool mn, .int .i64 md]) ∧ Chgs w' u mq ∧ Below w.heap.size w w' :=
  lpush_any hv hl la sn ca cb cd ce seq tok at' dg xa xb xd xo xc xs hr

theorem rlpush_eq {w : World} {v : Value} {l : List Chg} (hv : Chgs w v l) (hl : l.length ≤ 1000) (la sn : Bool) (ca cb cd ce seq tok at' dg xa xb xd : Int) (xo : Bool) (xc xs : List UInt8) {ms mt ma md : Int} {mq : List Chg} {ml mn : Bool}
    (hr : Hid (lnPush ⟨ca, cb, cd, ce⟩ ⟨seq, ⟨l, la⟩, ⟨tok, at'⟩, sn, dg⟩ ⟨xc, xo, ⟨xa, xb, xd, xs⟩⟩ = ⟨ms, ⟨mq, ml⟩, ⟨mt, ma⟩, mn, md⟩)) :
    Calls Tryz.prog 19 #[.agg #[.int .i64 ca, .int .i64 cb, .int .i64 cd, .int .i64 ce], .agg #[.int .i64 seq, v, .bool la, .int .i64 tok, .int .i64 at', .bool sn, .int .i64 dg], .agg #[.string ⟨xc.toArray⟩, .bool xo, .int .i64 xa, .int .i64 xb, .int .i64 xd, .string ⟨xs.toArray⟩]] w fun e w' => ∃ u, e = .returned (.agg #[.int .i64 ms, u, .bool ml, .int .i64 mt, .int .i64 ma, .bool mn, .int .i64 md]) ∧ Chgs w' u mq ∧ Below w.heap.size w w' :=
  rlpush_any hv hl la sn ca cb cd ce seq tok at' dg xa xb xd xo xc xs hr

theorem lnew_eq (ca cb cd ce now : Int) {ms mt ma md : Int} {ml mn : Bool} {mq : List Chg} {n : Nat} (hr : Hid (lnNew ⟨ca, cb, cd, ce⟩ now = (⟨ms, ⟨mq, ml⟩, ⟨mt, ma⟩, mn, md⟩, n))) (w : World) :
    Calls Tryz.prog 11 #[.agg #[.int .i64 ca, .int .i64 cb, .int .i64 cd, .int .i64 ce], .int .i64 now] w fun e w' => e = .returned (.tuple #[.agg #[.int .i64 ms, .slice none 0 0, .bool ml, .int .i64 mt, .int .i64 ma, .bool mn, .int .i64 md], .int .i64 n]) ∧ Below w.heap.size w w' :=
  (lnew_any ca cb cd ce now hr w).mono fun _ _ ⟨h1, _, h3⟩ => ⟨h1, h3⟩

theorem rlnew_eq (ca cb cd ce now : Int) {ms mt ma md : Int} {ml mn : Bool} {mq : List Chg} {n : Nat} (hr : Hid (lnNew ⟨ca, cb, cd, ce⟩ now = (⟨ms, ⟨mq, ml⟩, ⟨mt, ma⟩, mn, md⟩, n))) (w : World) :
    Calls Tryz.prog 12 #[.agg #[.int .i64 ca, .int .i64 cb, .int .i64 cd, .int .i64 ce], .int .i64 now] w fun e w' => e = .returned (.tuple #[.agg #[.int .i64 ms, .slice none 0 0, .bool ml, .int .i64 mt, .int .i64 ma, .bool mn, .int .i64 md], .int .i64 n]) ∧ Below w.heap.size w w' :=
  (rlnew_any ca cb cd ce now hr w).mono fun _ _ ⟨h1, _, h3⟩ => ⟨h1, h3⟩

/-- A frame's cells. -/
def frCells (f : Frm) (tv : Value) : List Value := [.int .i64 f.k, .int .i64 f.s, .bool f.on, .string ⟨f.c.toArray⟩, .int .i64 f.v.sh, .int .i64 f.v.pr, .int .i64 f.v.si, .string ⟨f.v.st.toArray⟩, .int .u64 f.sum, tv]

/-- Frames that were told, as a caller reads them. -/
theorem kf_cells {w W : World} {v : Value} {ps : List FrS} {fs : List Frm} (h : KF w W v ps) (hm : ps.map FrS.f = fs) :
    ∃ a c, v = .slice a fs.length c ∧ ∀ k, k < fs.length → ∃ g pa pc, a = some ⟨g, 0, none⟩ ∧ CellsAt W g (k * 10) (frCells (fs.getD k Frm.zero) (.slice pa (fs.getD k Frm.zero).t.length pc)) ∧ Tab W (.slice pa (fs.getD k Frm.zero).t.length pc) (fs.getD k Frm.zero).t := by
  subst hm
  obtain ⟨a, c, rfl⟩ := kf_shape h
  refine ⟨a, c, by rw [List.length_map], fun k hk => ?_⟩
  rw [List.length_map] at hk
  have hf : (ps.map FrS.f).getD k Frm.zero = (ps.getD k FrS.zero).f := by
    rw [List.getD_eq_getElem?_getD, List.getElem?_map, List.getD_eq_getElem?_getD, List.getElem?_eq_getElem hk]
    rfl
  rw [hf]
  have ht := (h.2 (ps.getD k FrS.zero) (by rw [List.getD_eq_getElem?_getD, List.getElem?_eq_getElem hk]; exact List.getElem_mem hk)).tab
  rcases h.1.2 with ⟨e, h0⟩ | ⟨g, cap, cur, e, _⟩
  · omega
  · simp only [Value.slice.injEq] at e
    obtain ⟨rfl, _, rfl⟩ := e
    have hr := OwnS.row frSOK h.1 hk
    generalize ps.getD k FrS.zero = p at hr ht ⊢
    obtain ⟨f, pa, pn, pc⟩ := p
    have hn : pn = f.t.length := by
      obtain ⟨x, y, e, _⟩ := ht
      simp only [FrS.tv, Value.slice.injEq] at e
      exact e.2.1
    subst hn
    exact ⟨g, pa, pc, rfl, hr, ht⟩

theorem kf_zero {w W : World} {v : Value} {ps : List FrS} (h : KF w W v ps) (hm : ps.map FrS.f = []) : ∃ a c, v = .slice a 0 c := by
  obtain ⟨a, c, e, _⟩ := kf_cells h hm
  exact ⟨a, c, e⟩

theorem kf_one {w W : World} {v : Value} {ps : List FrS} {f : Frm} (h : KF w W v ps) (hm : ps.map FrS.f = [f]) : ∃ g c pa pc, v = .slice (some ⟨g, 0, none⟩) 1 c ∧ CellsAt W g 0 (frCells f (.slice pa f.t.length pc)) ∧ Tab W (.slice pa f.t.length pc) f.t := by
  obtain ⟨a, c, e, hk⟩ := kf_cells h hm
  obtain ⟨g, pa, pc, rfl, h1, h2⟩ := hk 0 (by simp)
  rw [Nat.zero_mul] at h1
  exact ⟨g, c, pa, pc, e, h1, h2⟩

theorem kf_two {w W : World} {v : Value} {ps : List FrS} {f1 f2 : Frm} (h : KF w W v ps) (hm : ps.map FrS.f = [f1, f2]) : ∃ g c pa pc qa qc, v = .slice (some ⟨g, 0, none⟩) 2 c ∧ CellsAt W g 0 (frCells f1 (.slice pa f1.t.length pc)) ∧ CellsAt W g 10 (frCells f2 (.slice qa f2.t.length qc)) := by
  obtain ⟨a, c, e, hk⟩ := kf_cells h hm
  obtain ⟨g, pa, pc, rfl, h1, h2⟩ := hk 0 (by simp)
  obtain ⟨g2, qa, qc, e2, h3, h4⟩ := hk 1 (by simp)
  simp only [Option.some.injEq, Addr.mk.injEq, and_true] at e2
  subst e2
  rw [Nat.zero_mul] at h1
  rw [Nat.one_mul] at h3
  exact ⟨g, c, pa, pc, qa, qc, e, h1, h3⟩

end Go.Proofs.YtndicdomdndjaaaGreat

end
