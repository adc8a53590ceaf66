/-
  TEXTS OF THE PROOF, one behind the other: LnkEmit, LnkRKeep, PacRef, LnkRef, LnkW, LnkLive, LnkP.
-/
import Derived.Test.YtndicdomdndjaaaGreatE06
import Derived.Test.YtndicdomdndjaaaGreatE07
import Derived.Test.YtndicdomdndjaaaGreatE05
import Derived.Test.YtndicdomdndjaaaGreatE02
import Derived.Deep.Cut
import Derived.Laws.StructEq

section

/-
  LAYER 18, THE CODE: Emit.
-/
namespace Go.Proofs.YtndicdomdndjaaaGreat
open Go.RowKit

set_option linter.unusedSimpArgs false
set_option linter.unusedVariables false

/-- What Emit tells. -/
def Emitted (w : World) (M : Lnk) (fs : List Frm) (e : Ending) (w' : World) : Prop :=
  ∃ u fv ps, e = .returned (.tuple #[.agg #[.int .i64 M.seq, u, .bool M.q.la, .int .i64 M.b.tok, .int .i64 M.b.at', .bool M.sn, .int .i64 M.dg], fv]) ∧ Chgs w' u M.q.l ∧ KF w w' fv ps ∧ ps.map FrS.f = fs ∧ Below w.heap.size w w'

theorem chgs_nilL (X : World) : Chgs X (.slice none 0 0) [] := ⟨none, 0, rfl, by simp, by simp, fun _ => rfl, .inl rfl⟩

theorem quOne_shortL {x : Chg} (h : quOne x = true) : x.c.length ≤ 4294967296 ∧ x.v.st.length ≤ 4294967296 := by
  unfold quOne at h
  rw [Bool.and_eq_true] at h
  have h1 := (idIs_parts h.1).2.1
  have h2 := h.2
  split at h2
  · unfold vaMay stOk at h2
    simp only [Bool.and_eq_true, decide_eq_true_eq] at h2
    have h3 := h2.2.1
    omega
  · unfold vSame Val.zero at h2
    simp only [Bool.and_eq_true, beq_iff_eq] at h2
    have h3 : x.v.st = [] := h2.2.2.2
    rw [h3]
    simp
    omega

theorem lnMay_short {c : Cfg} {l : Lnk} (h : lnMay c l = true) : ShortC l.q.l ∧ l.q.l.length ≤ 16 ∧ 0 ≤ l.seq ∧ l.seq ≤ 1099511627776 ∧ 0 ≤ l.dg ∧ l.dg ≤ 1099511627776 := by
  obtain ⟨h1, h2, h3, h4, h5, h6, h7⟩ := lnMay_iff.1 h
  obtain ⟨m1, m2, m3, m4⟩ := quMay_iff.1 h4
  obtain ⟨d1, d2⟩ := pcTime_iff.1 h6
  have hr := (pcMay_iff.1 (pcOne_iff.1 h1).1).2.1
  exact ⟨fun x hx => quOne_shortL (m3 x hx), by omega, h2, h3, d1, d2⟩

set_option maxHeartbeats 6400000 in
set_option maxRecDepth 100000 in
theorem lemit_r1 {w : World} {v vt : Value} {ql : List Chg} {view : List Row} (hv : Chgs w v ql) (ht : Tab w vt view) (hs : ShortC ql) (hl : ql.length ≤ 100) (hsh : Short view) (ca cb cd ce seq tok at' dg now : Int) (la sn : Bool) (h1 : Hid (lnMay ⟨ca, cb, cd, ce⟩ ⟨seq, ⟨ql, la⟩, ⟨tok, at'⟩, sn, dg⟩ = false)) :
    Calls Tryz.prog 23 #[.agg #[.int .i64 ca, .int .i64 cb, .int .i64 cd, .int .i64 ce], .agg #[.int .i64 seq, v, .bool la, .int .i64 tok, .int .i64 at', .bool sn, .int .i64 dg], vt, .int .i64 now] w (Emitted w ⟨seq, ⟨ql, la⟩, ⟨tok, at'⟩, sn, dg⟩ []) := by
  obtain ⟨qn, hqn⟩ : ∃ n, ql.length = n := ⟨_, rfl⟩
  obtain ⟨ao, cap, rfl⟩ := chgs_shape hv hqn
  have b0 := bl_newZ w (.cells #[.int .i64 ca, .int .i64 cb, .int .i64 cd, .int .i64 ce] 23)
  have b1 := bl_newZ (w.alloc (.cells #[.int .i64 ca, .int .i64 cb, .int .i64 cd, .int .i64 ce] 23)) (.cells #[.int .i64 seq, .slice ao qn cap, .bool la, .int .i64 tok, .int .i64 at', .bool sn, .int .i64 dg] 30)
  have b2 := bl_newZ ((w.alloc (.cells #[.int .i64 ca, .int .i64 cb, .int .i64 cd, .int .i64 ce] 23)).alloc (.cells #[.int .i64 seq, .slice ao qn cap, .bool la, .int .i64 tok, .int .i64 at', .bool sn, .int .i64 dg] 30)) (.cells #[.int .i64 0, .slice none 0 0, .bool false, .int .i64 0, .int .i64 0, .bool false, .int .i64 0] 30)
  have HB := Lib.hid (below2Z (below2Z b0 b1) b2)
  have V := Lib.hid (((hv.later b0).later b1).later b2)
  have T := Lib.hid (((ht.later b0).later b1).later b2)
  have CB := newQ w (.cells #[.int .i64 ca, .int .i64 cb, .int .i64 cd, .int .i64 ce] 23)
  replace CB := upQ CB b1
  replace CB := upQ CB b2
  replace CB := Lib.hid CB
  have LB := newQ (w.alloc (.cells #[.int .i64 ca, .int .i64 cb, .int .i64 cd, .int .i64 ce] 23)) (.cells #[.int .i64 seq, .slice ao qn cap, .bool la, .int .i64 tok, .int .i64 at', .bool sn, .int .i64 dg] 30)
  rw [World.size_alloc] at LB
  replace LB := upQ LB b2
  replace LB := Lib.hid LB
  have RB := newQ ((w.alloc (.cells #[.int .i64 ca, .int .i64 cb, .int .i64 cd, .int .i64 ce] 23)).alloc (.cells #[.int .i64 seq, .slice ao qn cap, .bool la, .int .i64 tok, .int .i64 at', .bool sn, .int .i64 dg] 30)) (.cells #[.int .i64 0, .slice none 0 0, .bool false, .int .i64 0, .int .i64 0, .bool false, .int .i64 0] 30)
  rw [World.size_alloc, World.size_alloc] at RB
  replace RB := Lib.hid RB
  clear b0 b1 b2
  have hle1 : w.heap.size ≤ w.heap.size + 1 := Nat.le_succ _
  have hle2 : w.heap.size ≤ w.heap.size + 1 + 1 := by omega
  have KQ0 : Hid (KQ w (((w.alloc (.cells #[.int .i64 ca, .int .i64 cb, .int .i64 cd, .int .i64 ce] 23)).alloc (.cells #[.int .i64 seq, .slice ao qn cap, .bool la, .int .i64 tok, .int .i64 at', .bool sn, .int .i64 dg] 30)).alloc (.cells #[.int .i64 0, .slice none 0 0, .bool false, .int .i64 0, .int .i64 0, .bool false, .int .i64 0] 30)) (.slice ao qn cap) ql) := Lib.hid (.inl (fun X hX => hv.later hX))
  have HS := Lib.hid hs
  have HH := Lib.hid hsh
  clear hs hsh
  obtain ⟨⟨CBc0, CBc1, CBc2, CBc3⟩, ⟨CBf0, CBf1, CBf2, CBf3⟩⟩ := blk4 CB.out
  obtain ⟨⟨LBc0, LBc1, LBc2, LBc3, LBc4, LBc5, LBc6⟩, ⟨LBf0, LBf1, LBf2, LBf3, LBf4, LBf5, LBf6⟩⟩ := blk7 LB.out
  go_enter Tryz.func23, Tryz.ntmps23
  go_wp2_with fail
  clear CBc0 CBc1 CBc2 CBc3 CBf0 CBf1 CBf2 CBf3 LBc0 LBc1 LBc2 LBc3 LBc4 LBc5 LBc6 LBf0 LBf1 LBf2 LBf3 LBf4 LBf5 LBf6
  refine (lmay_any V.out HS.out hl la sn seq tok at' dg ca cb cd ce h1).mono ?_
  rintro e w4 ⟨rfl, b4⟩
  replace CB := Lib.hid (upQ CB.out b4)
  replace LB := Lib.hid (upQ LB.out b4)
  replace RB := Lib.hid (upQ RB.out b4)
  replace V := Lib.hid (V.out.later b4)
  replace T := Lib.hid (T.out.later b4)
  replace KQ0 := Lib.hid (KQ.later KQ0.out b4)
  replace HB := Lib.hid (below2Z HB.out b4)
  clear b4
  obtain ⟨⟨LBc0, LBc1, LBc2, LBc3, LBc4, LBc5, LBc6⟩, ⟨LBf0, LBf1, LBf2, LBf3, LBf4, LBf5, LBf6⟩⟩ := blk7 LB.out
  obtain ⟨⟨RBc0, RBc1, RBc2, RBc3, RBc4, RBc5, RBc6⟩, ⟨RBf0, RBf1, RBf2, RBf3, RBf4, RBf5, RBf6⟩⟩ := blk7 RB.out
  go_wp2_with fail
  have hz := stN7_heap RB.out (.int .i64 seq) (.slice ao qn cap) (.bool la) (.int .i64 tok) (.int .i64 at') (.bool sn) (.int .i64 dg)
  have KQz := KQ0.out.past RB.out (by decide) (fun k hk => stN7_far w4 (w.heap.size + 1 + 1) (.int .i64 seq) (.slice ao qn cap) (.bool la) (.int .i64 tok) (.int .i64 at') (.bool sn) (.int .i64 dg) hk)
  have KFz := kf_nil w (stN7 w4 (w.heap.size + 1 + 1) (.int .i64 seq) (.slice ao qn cap) (.bool la) (.int .i64 tok) (.int .i64 at') (.bool sn) (.int .i64 dg))
  have HBz := stN7_below HB.out hle2 (.int .i64 seq) (.slice ao qn cap) (.bool la) (.int .i64 tok) (.int .i64 at') (.bool sn) (.int .i64 dg)
  obtain ⟨⟨z0, z1, z2, z3, z4, z5, z6⟩, -⟩ := blk7 hz
  unfold stN7 at z0 z1 z2 z3 z4 z5 z6
  refine bodyPost_ret (v := .tuple #[.agg #[.int .i64 seq, .slice ao qn cap, .bool la, .int .i64 tok, .int .i64 at', .bool sn, .int .i64 dg], .slice none 0 0]) (by simp [results, Tryz.results23, go_sem, z0, z1, z2, z3, z4, z5, z6]) rfl ⟨_, _, [], rfl, KQz.chgs HBz, KFz, rfl, HBz⟩

set_option maxHeartbeats 6400000 in
set_option maxRecDepth 100000 in
theorem lemit_r2 {w : World} {v vt : Value} {ql : List Chg} {view : List Row} (hv : Chgs w v ql) (ht : Tab w vt view) (hs : ShortC ql) (hl : ql.length ≤ 100) (hsh : Short view) (ca cb cd ce seq tok at' dg now : Int) (la sn : Bool) (h1 : Hid (lnMay ⟨ca, cb, cd, ce⟩ ⟨seq, ⟨ql, la⟩, ⟨tok, at'⟩, sn, dg⟩ = true)) (h2 : Hid (diMay view = false)) :
    Calls Tryz.prog 23 #[.agg #[.int .i64 ca, .int .i64 cb, .int .i64 cd, .int .i64 ce], .agg #[.int .i64 seq, v, .bool la, .int .i64 tok, .int .i64 at', .bool sn, .int .i64 dg], vt, .int .i64 now] w (Emitted w ⟨seq, ⟨ql, la⟩, ⟨tok, at'⟩, sn, dg⟩ []) := by
  obtain ⟨qn, hqn⟩ : ∃ n, ql.length = n := ⟨_, rfl⟩
  obtain ⟨ao, cap, rfl⟩ := chgs_shape hv hqn
  have b0 := bl_newZ w (.cells #[.int .i64 ca, .int .i64 cb, .int .i64 cd, .int .i64 ce] 23)
  have b1 := bl_newZ (w.alloc (.cells #[.int .i64 ca, .int .i64 cb, .int .i64 cd, .int .i64 ce] 23)) (.cells #[.int .i64 seq, .slice ao qn cap, .bool la, .int .i64 tok, .int .i64 at', .bool sn, .int .i64 dg] 30)
  have b2 := bl_newZ ((w.alloc (.cells #[.int .i64 ca, .int .i64 cb, .int .i64 cd, .int .i64 ce] 23)).alloc (.cells #[.int .i64 seq, .slice ao qn cap, .bool la, .int .i64 tok, .int .i64 at', .bool sn, .int .i64 dg] 30)) (.cells #[.int .i64 0, .slice none 0 0, .bool false, .int .i64 0, .int .i64 0, .bool false, .int .i64 0] 30)
  have HB := Lib.hid (below2Z (below2Z b0 b1) b2)
  have V := Lib.hid (((hv.later b0).later b1).later b2)
  have T := Lib.hid (((ht.later b0).later b1).later b2)
  have CB := newQ w (.cells #[.int .i64 ca, .int .i64 cb, .int .i64 cd, .int .i64 ce] 23)
  replace CB := upQ CB b1
  replace CB := upQ CB b2
  replace CB := Lib.hid CB
  have LB := newQ (w.alloc (.cells #[.int .i64 ca, .int .i64 cb, .int .i64 cd, .int .i64 ce] 23)) (.cells #[.int .i64 seq, .slice ao qn cap, .bool la, .int .i64 tok, .int .i64 at', .bool sn, .int .i64 dg] 30)
  rw [World.size_alloc] at LB
  replace LB := upQ LB b2
  replace LB := Lib.hid LB
  have RB := newQ ((w.alloc (.cells #[.int .i64 ca, .int .i64 cb, .int .i64 cd, .int .i64 ce] 23)).alloc (.cells #[.int .i64 seq, .slice ao qn cap, .bool la, .int .i64 tok, .int .i64 at', .bool sn, .int .i64 dg] 30)) (.cells #[.int .i64 0, .slice none 0 0, .bool false, .int .i64 0, .int .i64 0, .bool false, .int .i64 0] 30)
  rw [World.size_alloc, World.size_alloc] at RB
  replace RB := Lib.hid RB
  clear b0 b1 b2
  have hle1 : w.heap.size ≤ w.heap.size + 1 := Nat.le_succ _
  have hle2 : w.heap.size ≤ w.heap.size + 1 + 1 := by omega
  have KQ0 : Hid (KQ w (((w.alloc (.cells #[.int .i64 ca, .int .i64 cb, .int .i64 cd, .int .i64 ce] 23)).alloc (.cells #[.int .i64 seq, .slice ao qn cap, .bool la, .int .i64 tok, .int .i64 at', .bool sn, .int .i64 dg] 30)).alloc (.cells #[.int .i64 0, .slice none 0 0, .bool false, .int .i64 0, .int .i64 0, .bool false, .int .i64 0] 30)) (.slice ao qn cap) ql) := Lib.hid (.inl (fun X hX => hv.later hX))
  have HS := Lib.hid hs
  have HH := Lib.hid hsh
  clear hs hsh
  obtain ⟨⟨CBc0, CBc1, CBc2, CBc3⟩, ⟨CBf0, CBf1, CBf2, CBf3⟩⟩ := blk4 CB.out
  obtain ⟨⟨LBc0, LBc1, LBc2, LBc3, LBc4, LBc5, LBc6⟩, ⟨LBf0, LBf1, LBf2, LBf3, LBf4, LBf5, LBf6⟩⟩ := blk7 LB.out
  go_enter Tryz.func23, Tryz.ntmps23
  go_wp2_with fail
  clear CBc0 CBc1 CBc2 CBc3 CBf0 CBf1 CBf2 CBf3 LBc0 LBc1 LBc2 LBc3 LBc4 LBc5 LBc6 LBf0 LBf1 LBf2 LBf3 LBf4 LBf5 LBf6
  refine (lmay_any V.out HS.out hl la sn seq tok at' dg ca cb cd ce h1).mono ?_
  rintro e w4 ⟨rfl, b4⟩
  replace CB := Lib.hid (upQ CB.out b4)
  replace LB := Lib.hid (upQ LB.out b4)
  replace RB := Lib.hid (upQ RB.out b4)
  replace V := Lib.hid (V.out.later b4)
  replace T := Lib.hid (T.out.later b4)
  replace KQ0 := Lib.hid (KQ.later KQ0.out b4)
  replace HB := Lib.hid (below2Z HB.out b4)
  clear b4
  obtain ⟨⟨CBc0, CBc1, CBc2, CBc3⟩, ⟨CBf0, CBf1, CBf2, CBf3⟩⟩ := blk4 CB.out
  obtain ⟨⟨LBc0, LBc1, LBc2, LBc3, LBc4, LBc5, LBc6⟩, ⟨LBf0, LBf1, LBf2, LBf3, LBf4, LBf5, LBf6⟩⟩ := blk7 LB.out
  go_wp2_with fail
  clear CBc0 CBc1 CBc2 CBc3 CBf0 CBf1 CBf2 CBf3 LBc0 LBc1 LBc2 LBc3 LBc4 LBc5 LBc6 LBf0 LBf1 LBf2 LBf3 LBf4 LBf5 LBf6
  refine (dimay_eq T.out HH.out h2).mono ?_
  rintro e w5 ⟨rfl, b5⟩
  replace CB := Lib.hid (upQ CB.out b5)
  replace LB := Lib.hid (upQ LB.out b5)
  replace RB := Lib.hid (upQ RB.out b5)
  replace V := Lib.hid (V.out.later b5)
  replace T := Lib.hid (T.out.later b5)
  replace KQ0 := Lib.hid (KQ.later KQ0.out b5)
  replace HB := Lib.hid (below2Z HB.out b5)
  clear b5
  obtain ⟨⟨LBc0, LBc1, LBc2, LBc3, LBc4, LBc5, LBc6⟩, ⟨LBf0, LBf1, LBf2, LBf3, LBf4, LBf5, LBf6⟩⟩ := blk7 LB.out
  obtain ⟨⟨RBc0, RBc1, RBc2, RBc3, RBc4, RBc5, RBc6⟩, ⟨RBf0, RBf1, RBf2, RBf3, RBf4, RBf5, RBf6⟩⟩ := blk7 RB.out
  go_wp2_with fail
  have hz := stN7_heap RB.out (.int .i64 seq) (.slice ao qn cap) (.bool la) (.int .i64 tok) (.int .i64 at') (.bool sn) (.int .i64 dg)
  have KQz := KQ0.out.past RB.out (by decide) (fun k hk => stN7_far w5 (w.heap.size + 1 + 1) (.int .i64 seq) (.slice ao qn cap) (.bool la) (.int .i64 tok) (.int .i64 at') (.bool sn) (.int .i64 dg) hk)
  have KFz := kf_nil w (stN7 w5 (w.heap.size + 1 + 1) (.int .i64 seq) (.slice ao qn cap) (.bool la) (.int .i64 tok) (.int .i64 at') (.bool sn) (.int .i64 dg))
  have HBz := stN7_below HB.out hle2 (.int .i64 seq) (.slice ao qn cap) (.bool la) (.int .i64 tok) (.int .i64 at') (.bool sn) (.int .i64 dg)
  obtain ⟨⟨z0, z1, z2, z3, z4, z5, z6⟩, -⟩ := blk7 hz
  unfold stN7 at z0 z1 z2 z3 z4 z5 z6
  refine bodyPost_ret (v := .tuple #[.agg #[.int .i64 seq, .slice ao qn cap, .bool la, .int .i64 tok, .int .i64 at', .bool sn, .int .i64 dg], .slice none 0 0]) (by simp [results, Tryz.results23, go_sem, z0, z1, z2, z3, z4, z5, z6]) rfl ⟨_, _, [], rfl, KQz.chgs HBz, KFz, rfl, HBz⟩

set_option maxHeartbeats 6400000 in
set_option maxRecDepth 100000 in
theorem lemit_r3 {w : World} {v vt : Value} {ql : List Chg} {view : List Row} (hv : Chgs w v ql) (ht : Tab w vt view) (hs : ShortC ql) (hl : ql.length ≤ 100) (hsh : Short view) (ca cb cd ce seq tok at' dg now : Int) (la sn : Bool) (h1 : Hid (lnMay ⟨ca, cb, cd, ce⟩ ⟨seq, ⟨ql, la⟩, ⟨tok, at'⟩, sn, dg⟩ = true)) (h2 : Hid (diMay view = true)) (h3 : Hid (pcTime now = false)) :
    Calls Tryz.prog 23 #[.agg #[.int .i64 ca, .int .i64 cb, .int .i64 cd, .int .i64 ce], .agg #[.int .i64 seq, v, .bool la, .int .i64 tok, .int .i64 at', .bool sn, .int .i64 dg], vt, .int .i64 now] w (Emitted w ⟨seq, ⟨ql, la⟩, ⟨tok, at'⟩, sn, dg⟩ []) := by
  obtain ⟨qn, hqn⟩ : ∃ n, ql.length = n := ⟨_, rfl⟩
  obtain ⟨ao, cap, rfl⟩ := chgs_shape hv hqn
  have b0 := bl_newZ w (.cells #[.int .i64 ca, .int .i64 cb, .int .i64 cd, .int .i64 ce] 23)
  have b1 := bl_newZ (w.alloc (.cells #[.int .i64 ca, .int .i64 cb, .int .i64 cd, .int .i64 ce] 23)) (.cells #[.int .i64 seq, .slice ao qn cap, .bool la, .int .i64 tok, .int .i64 at', .bool sn, .int .i64 dg] 30)
  have b2 := bl_newZ ((w.alloc (.cells #[.int .i64 ca, .int .i64 cb, .int .i64 cd, .int .i64 ce] 23)).alloc (.cells #[.int .i64 seq, .slice ao qn cap, .bool la, .int .i64 tok, .int .i64 at', .bool sn, .int .i64 dg] 30)) (.cells #[.int .i64 0, .slice none 0 0, .bool false, .int .i64 0, .int .i64 0, .bool false, .int .i64 0] 30)
  have HB := Lib.hid (below2Z (below2Z b0 b1) b2)
  have V := Lib.hid (((hv.later b0).later b1).later b2)
  have T := Lib.hid (((ht.later b0).later b1).later b2)
  have CB := newQ w (.cells #[.int .i64 ca, .int .i64 cb, .int .i64 cd, .int .i64 ce] 23)
  replace CB := upQ CB b1
  replace CB := upQ CB b2
  replace CB := Lib.hid CB
  have LB := newQ (w.alloc (.cells #[.int .i64 ca, .int .i64 cb, .int .i64 cd, .int .i64 ce] 23)) (.cells #[.int .i64 seq, .slice ao qn cap, .bool la, .int .i64 tok, .int .i64 at', .bool sn, .int .i64 dg] 30)
  rw [World.size_alloc] at LB
  replace LB := upQ LB b2
  replace LB := Lib.hid LB
  have RB := newQ ((w.alloc (.cells #[.int .i64 ca, .int .i64 cb, .int .i64 cd, .int .i64 ce] 23)).alloc (.cells #[.int .i64 seq, .slice ao qn cap, .bool la, .int .i64 tok, .int .i64 at', .bool sn, .int .i64 dg] 30)) (.cells #[.int .i64 0, .slice none 0 0, .bool false, .int .i64 0, .int .i64 0, .bool false, .int .i64 0] 30)
  rw [World.size_alloc, World.size_alloc] at RB
  replace RB := Lib.hid RB
  clear b0 b1 b2
  have hle1 : w.heap.size ≤ w.heap.size + 1 := Nat.le_succ _
  have hle2 : w.heap.size ≤ w.heap.size + 1 + 1 := by omega
  have KQ0 : Hid (KQ w (((w.alloc (.cells #[.int .i64 ca, .int .i64 cb, .int .i64 cd, .int .i64 ce] 23)).alloc (.cells #[.int .i64 seq, .slice ao qn cap, .bool la, .int .i64 tok, .int .i64 at', .bool sn, .int .i64 dg] 30)).alloc (.cells #[.int .i64 0, .slice none 0 0, .bool false, .int .i64 0, .int .i64 0, .bool false, .int .i64 0] 30)) (.slice ao qn cap) ql) := Lib.hid (.inl (fun X hX => hv.later hX))
  have HS := Lib.hid hs
  have HH := Lib.hid hsh
  clear hs hsh
  obtain ⟨⟨CBc0, CBc1, CBc2, CBc3⟩, ⟨CBf0, CBf1, CBf2, CBf3⟩⟩ := blk4 CB.out
  obtain ⟨⟨LBc0, LBc1, LBc2, LBc3, LBc4, LBc5, LBc6⟩, ⟨LBf0, LBf1, LBf2, LBf3, LBf4, LBf5, LBf6⟩⟩ := blk7 LB.out
  go_enter Tryz.func23, Tryz.ntmps23
  go_wp2_with fail
  clear CBc0 CBc1 CBc2 CBc3 CBf0 CBf1 CBf2 CBf3 LBc0 LBc1 LBc2 LBc3 LBc4 LBc5 LBc6 LBf0 LBf1 LBf2 LBf3 LBf4 LBf5 LBf6
  refine (lmay_any V.out HS.out hl la sn seq tok at' dg ca cb cd ce h1).mono ?_
  rintro e w4 ⟨rfl, b4⟩
  replace CB := Lib.hid (upQ CB.out b4)
  replace LB := Lib.hid (upQ LB.out b4)
  replace RB := Lib.hid (upQ RB.out b4)
  replace V := Lib.hid (V.out.later b4)
  replace T := Lib.hid (T.out.later b4)
  replace KQ0 := Lib.hid (KQ.later KQ0.out b4)
  replace HB := Lib.hid (below2Z HB.out b4)
  clear b4
  obtain ⟨⟨CBc0, CBc1, CBc2, CBc3⟩, ⟨CBf0, CBf1, CBf2, CBf3⟩⟩ := blk4 CB.out
  obtain ⟨⟨LBc0, LBc1, LBc2, LBc3, LBc4, LBc5, LBc6⟩, ⟨LBf0, LBf1, LBf2, LBf3, LBf4, LBf5, LBf6⟩⟩ := blk7 LB.out
  go_wp2_with fail
  clear CBc0 CBc1 CBc2 CBc3 CBf0 CBf1 CBf2 CBf3 LBc0 LBc1 LBc2 LBc3 LBc4 LBc5 LBc6 LBf0 LBf1 LBf2 LBf3 LBf4 LBf5 LBf6
  refine (dimay_eq T.out HH.out h2).mono ?_
  rintro e w5 ⟨rfl, b5⟩
  replace CB := Lib.hid (upQ CB.out b5)
  replace LB := Lib.hid (upQ LB.out b5)
  replace RB := Lib.hid (upQ RB.out b5)
  replace V := Lib.hid (V.out.later b5)
  replace T := Lib.hid (T.out.later b5)
  replace KQ0 := Lib.hid (KQ.later KQ0.out b5)
  replace HB := Lib.hid (below2Z HB.out b5)
  clear b5
  obtain ⟨⟨CBc0, CBc1, CBc2, CBc3⟩, ⟨CBf0, CBf1, CBf2, CBf3⟩⟩ := blk4 CB.out
  obtain ⟨⟨LBc0, LBc1, LBc2, LBc3, LBc4, LBc5, LBc6⟩, ⟨LBf0, LBf1, LBf2, LBf3, LBf4, LBf5, LBf6⟩⟩ := blk7 LB.out
  go_wp2_with fail
  clear CBc0 CBc1 CBc2 CBc3 CBf0 CBf1 CBf2 CBf3 LBc0 LBc1 LBc2 LBc3 LBc4 LBc5 LBc6 LBf0 LBf1 LBf2 LBf3 LBf4 LBf5 LBf6
  refine (ltick_any now h3 _).mono ?_
  rintro e w90 ⟨rfl, rfl⟩
  obtain ⟨⟨LBc0, LBc1, LBc2, LBc3, LBc4, LBc5, LBc6⟩, ⟨LBf0, LBf1, LBf2, LBf3, LBf4, LBf5, LBf6⟩⟩ := blk7 LB.out
  obtain ⟨⟨RBc0, RBc1, RBc2, RBc3, RBc4, RBc5, RBc6⟩, ⟨RBf0, RBf1, RBf2, RBf3, RBf4, RBf5, RBf6⟩⟩ := blk7 RB.out
  go_wp2_with fail
  have hz := stN7_heap RB.out (.int .i64 seq) (.slice ao qn cap) (.bool la) (.int .i64 tok) (.int .i64 at') (.bool sn) (.int .i64 dg)
  have KQz := KQ0.out.past RB.out (by decide) (fun k hk => stN7_far w5 (w.heap.size + 1 + 1) (.int .i64 seq) (.slice ao qn cap) (.bool la) (.int .i64 tok) (.int .i64 at') (.bool sn) (.int .i64 dg) hk)
  have KFz := kf_nil w (stN7 w5 (w.heap.size + 1 + 1) (.int .i64 seq) (.slice ao qn cap) (.bool la) (.int .i64 tok) (.int .i64 at') (.bool sn) (.int .i64 dg))
  have HBz := stN7_below HB.out hle2 (.int .i64 seq) (.slice ao qn cap) (.bool la) (.int .i64 tok) (.int .i64 at') (.bool sn) (.int .i64 dg)
  obtain ⟨⟨z0, z1, z2, z3, z4, z5, z6⟩, -⟩ := blk7 hz
  unfold stN7 at z0 z1 z2 z3 z4 z5 z6
  refine bodyPost_ret (v := .tuple #[.agg #[.int .i64 seq, .slice ao qn cap, .bool la, .int .i64 tok, .int .i64 at', .bool sn, .int .i64 dg], .slice none 0 0]) (by simp [results, Tryz.results23, go_sem, z0, z1, z2, z3, z4, z5, z6]) rfl ⟨_, _, [], rfl, KQz.chgs HBz, KFz, rfl, HBz⟩

set_option maxHeartbeats 6400000 in
set_option maxRecDepth 100000 in
theorem lemit_in {w : World} {v vt : Value} {ql : List Chg} {view : List Row} (hv : Chgs w v ql) (ht : Tab w vt view) (hs : ShortC ql) (hl : ql.length ≤ 100) (hsh : Short view) (ca cb cd ce seq tok at' dg now : Int) (la sn : Bool) (h1 : Hid (lnMay ⟨ca, cb, cd, ce⟩ ⟨seq, ⟨ql, la⟩, ⟨tok, at'⟩, sn, dg⟩ = true)) (h2 : Hid (diMay view = true)) (h3 : Hid (pcTime now = true)) {M : Lnk} {fs : List Frm} (hr : Hid (lnRun ⟨ca, cb, cd, ce⟩ view now 65 ⟨seq, ⟨ql, la⟩, ⟨tok, at'⟩, sn, dg⟩ = (M, fs))) :
    Calls Tryz.prog 23 #[.agg #[.int .i64 ca, .int .i64 cb, .int .i64 cd, .int .i64 ce], .agg #[.int .i64 seq, v, .bool la, .int .i64 tok, .int .i64 at', .bool sn, .int .i64 dg], vt, .int .i64 now] w (Emitted w M fs) := by
  obtain ⟨qn, hqn⟩ : ∃ n, ql.length = n := ⟨_, rfl⟩
  obtain ⟨ao, cap, rfl⟩ := chgs_shape hv hqn
  have b0 := bl_newZ w (.cells #[.int .i64 ca, .int .i64 cb, .int .i64 cd, .int .i64 ce] 23)
  have b1 := bl_newZ (w.alloc (.cells #[.int .i64 ca, .int .i64 cb, .int .i64 cd, .int .i64 ce] 23)) (.cells #[.int .i64 seq, .slice ao qn cap, .bool la, .int .i64 tok, .int .i64 at', .bool sn, .int .i64 dg] 30)
  have b2 := bl_newZ ((w.alloc (.cells #[.int .i64 ca, .int .i64 cb, .int .i64 cd, .int .i64 ce] 23)).alloc (.cells #[.int .i64 seq, .slice ao qn cap, .bool la, .int .i64 tok, .int .i64 at', .bool sn, .int .i64 dg] 30)) (.cells #[.int .i64 0, .slice none 0 0, .bool false, .int .i64 0, .int .i64 0, .bool false, .int .i64 0] 30)
  have HB := Lib.hid (below2Z (below2Z b0 b1) b2)
  have V := Lib.hid (((hv.later b0).later b1).later b2)
  have T := Lib.hid (((ht.later b0).later b1).later b2)
  have CB := newQ w (.cells #[.int .i64 ca, .int .i64 cb, .int .i64 cd, .int .i64 ce] 23)
  replace CB := upQ CB b1
  replace CB := upQ CB b2
  replace CB := Lib.hid CB
  have LB := newQ (w.alloc (.cells #[.int .i64 ca, .int .i64 cb, .int .i64 cd, .int .i64 ce] 23)) (.cells #[.int .i64 seq, .slice ao qn cap, .bool la, .int .i64 tok, .int .i64 at', .bool sn, .int .i64 dg] 30)
  rw [World.size_alloc] at LB
  replace LB := upQ LB b2
  replace LB := Lib.hid LB
  have RB := newQ ((w.alloc (.cells #[.int .i64 ca, .int .i64 cb, .int .i64 cd, .int .i64 ce] 23)).alloc (.cells #[.int .i64 seq, .slice ao qn cap, .bool la, .int .i64 tok, .int .i64 at', .bool sn, .int .i64 dg] 30)) (.cells #[.int .i64 0, .slice none 0 0, .bool false, .int .i64 0, .int .i64 0, .bool false, .int .i64 0] 30)
  rw [World.size_alloc, World.size_alloc] at RB
  replace RB := Lib.hid RB
  clear b0 b1 b2
  have hle1 : w.heap.size ≤ w.heap.size + 1 := Nat.le_succ _
  have hle2 : w.heap.size ≤ w.heap.size + 1 + 1 := by omega
  have KQ0 : Hid (KQ w (((w.alloc (.cells #[.int .i64 ca, .int .i64 cb, .int .i64 cd, .int .i64 ce] 23)).alloc (.cells #[.int .i64 seq, .slice ao qn cap, .bool la, .int .i64 tok, .int .i64 at', .bool sn, .int .i64 dg] 30)).alloc (.cells #[.int .i64 0, .slice none 0 0, .bool false, .int .i64 0, .int .i64 0, .bool false, .int .i64 0] 30)) (.slice ao qn cap) ql) := Lib.hid (.inl (fun X hX => hv.later hX))
  have HS := Lib.hid hs
  have HH := Lib.hid hsh
  obtain ⟨vn, hvn⟩ : ∃ n, view.length = n := ⟨_, rfl⟩
  have HVN := Lib.hid hvn
  obtain ⟨ta, tc, rfl⟩ := tab_shapeL ht hvn
  have HT : Hid (∀ X, Below w.heap.size w X → Tab X (.slice ta vn tc) view) := Lib.hid (fun X hX => ht.later hX)
  obtain ⟨hn0, hn1⟩ := pcTime_iff.1 h3.out
  have hvl : view.length ≤ 1000 := by have := (diMay_iff.1 h2.out).1; omega
  have HE0 := Lib.hid (emp_start (view := view) (now := now) h1.out)
  clear hs hsh hv ht hvn hqn
  obtain ⟨⟨CBc0, CBc1, CBc2, CBc3⟩, ⟨CBf0, CBf1, CBf2, CBf3⟩⟩ := blk4 CB.out
  obtain ⟨⟨LBc0, LBc1, LBc2, LBc3, LBc4, LBc5, LBc6⟩, ⟨LBf0, LBf1, LBf2, LBf3, LBf4, LBf5, LBf6⟩⟩ := blk7 LB.out
  go_enter Tryz.func23, Tryz.ntmps23
  go_wp2_with fail
  clear CBc0 CBc1 CBc2 CBc3 CBf0 CBf1 CBf2 CBf3 LBc0 LBc1 LBc2 LBc3 LBc4 LBc5 LBc6 LBf0 LBf1 LBf2 LBf3 LBf4 LBf5 LBf6
  refine (lmay_any V.out HS.out hl la sn seq tok at' dg ca cb cd ce h1).mono ?_
  rintro e w4 ⟨rfl, b4⟩
  replace CB := Lib.hid (upQ CB.out b4)
  replace LB := Lib.hid (upQ LB.out b4)
  replace RB := Lib.hid (upQ RB.out b4)
  replace V := Lib.hid (V.out.later b4)
  replace T := Lib.hid (T.out.later b4)
  replace KQ0 := Lib.hid (KQ.later KQ0.out b4)
  replace HB := Lib.hid (below2Z HB.out b4)
  clear b4
  obtain ⟨⟨CBc0, CBc1, CBc2, CBc3⟩, ⟨CBf0, CBf1, CBf2, CBf3⟩⟩ := blk4 CB.out
  obtain ⟨⟨LBc0, LBc1, LBc2, LBc3, LBc4, LBc5, LBc6⟩, ⟨LBf0, LBf1, LBf2, LBf3, LBf4, LBf5, LBf6⟩⟩ := blk7 LB.out
  go_wp2_with fail
  clear CBc0 CBc1 CBc2 CBc3 CBf0 CBf1 CBf2 CBf3 LBc0 LBc1 LBc2 LBc3 LBc4 LBc5 LBc6 LBf0 LBf1 LBf2 LBf3 LBf4 LBf5 LBf6
  refine (dimay_eq T.out HH.out h2).mono ?_
  rintro e w5 ⟨rfl, b5⟩
  replace CB := Lib.hid (upQ CB.out b5)
  replace LB := Lib.hid (upQ LB.out b5)
  replace RB := Lib.hid (upQ RB.out b5)
  replace V := Lib.hid (V.out.later b5)
  replace T := Lib.hid (T.out.later b5)
  replace KQ0 := Lib.hid (KQ.later KQ0.out b5)
  replace HB := Lib.hid (below2Z HB.out b5)
  clear b5
  obtain ⟨⟨CBc0, CBc1, CBc2, CBc3⟩, ⟨CBf0, CBf1, CBf2, CBf3⟩⟩ := blk4 CB.out
  obtain ⟨⟨LBc0, LBc1, LBc2, LBc3, LBc4, LBc5, LBc6⟩, ⟨LBf0, LBf1, LBf2, LBf3, LBf4, LBf5, LBf6⟩⟩ := blk7 LB.out
  go_wp2_with fail
  clear CBc0 CBc1 CBc2 CBc3 CBf0 CBf1 CBf2 CBf3 LBc0 LBc1 LBc2 LBc3 LBc4 LBc5 LBc6 LBf0 LBf1 LBf2 LBf3 LBf4 LBf5 LBf6
  refine (ltick_any now h3 _).mono ?_
  rintro e w90 ⟨rfl, rfl⟩
  clear V
  clear T
  clear HS hl
  obtain ⟨⟨CBc0, CBc1, CBc2, CBc3⟩, ⟨CBf0, CBf1, CBf2, CBf3⟩⟩ := blk4 CB.out
  have b6 := bl_newZ w5 (.cells #[.int .i64 ca, .int .i64 cb, .int .i64 cd, .int .i64 ce, .slice ta vn tc, .int .i64 now] 77)
  have MB := newQ w5 (.cells #[.int .i64 ca, .int .i64 cb, .int .i64 cd, .int .i64 ce, .slice ta vn tc, .int .i64 now] 77)
  have hMB : w.heap.size ≤ w5.heap.size := HB.out.size
  replace CB := Lib.hid (upQ CB.out b6)
  replace LB := Lib.hid (upQ LB.out b6)
  replace RB := Lib.hid (upQ RB.out b6)
  replace KQ0 := Lib.hid (KQ.later KQ0.out b6)
  replace HB := Lib.hid (below2Z HB.out b6)
  clear b6
  replace MB := Lib.hid MB
  go_upto_region 5 with fail
  clear CBc0 CBc1 CBc2 CBc3 CBf0 CBf1 CBf2 CBf3
  generalize w5.alloc (.cells #[.int .i64 ca, .int .i64 cb, .int .i64 cd, .int .i64 ce, .slice ta vn tc, .int .i64 now] 77) = w7 at CB LB RB MB KQ0 HB ⊢
  have KF0 := Lib.hid (kf_nil w w7)
  generalize w5.heap.size = mbn at MB hMB
  obtain ⟨L0, hL0⟩ : ∃ L : Lnk, L = ⟨seq, ⟨ql, la⟩, ⟨tok, at'⟩, sn, dg⟩ := ⟨_, rfl⟩
  have HR : Hid (lnRun ⟨ca, cb, cd, ce⟩ view now 65 L0 = (M, fs)) := Lib.hid (by rw [hL0]; exact hr.out)
  have HE : Hid (EmP ⟨ca, cb, cd, ce⟩ view now L0 ⟨seq, ⟨ql, la⟩, ⟨tok, at'⟩, sn, dg⟩ 65 []) := Lib.hid (by rw [hL0]; exact HE0.out)
  clear hL0 hr HE0 h1
  go_loopw [11] (fun fr wr => ∃ (seq tok at' dg : Int) (sn la : Bool) (ql : List Chg) (qa : Option Addr) (qn qc : Nat) (ps : List FrS) (fa : Option Addr) (fc n : Nat), fr = .slice fa ps.length fc ∧ Hid (EmP ⟨ca, cb, cd, ce⟩ view now L0 ⟨seq, ⟨ql, la⟩, ⟨tok, at'⟩, sn, dg⟩ n (ps.map FrS.f)) ∧ Hid (wr.heap[w.heap.size]? = some (.cells #[.int .i64 ca, .int .i64 cb, .int .i64 cd, .int .i64 ce] 23 (0, 0))) ∧ Hid (wr.heap[w.heap.size + 1]? = some (.cells #[.int .i64 seq, .slice qa qn qc, .bool la, .int .i64 tok, .int .i64 at', .bool sn, .int .i64 dg] 30 (0, 0))) ∧ Hid (wr.heap[w.heap.size + 1 + 1]? = some (.cells #[.int .i64 0, .slice none 0 0, .bool false, .int .i64 0, .int .i64 0, .bool false, .int .i64 0] 30 (0, 0))) ∧ Hid (wr.heap[mbn]? = some (.cells #[.int .i64 ca, .int .i64 cb, .int .i64 cd, .int .i64 ce, .slice ta vn tc, .int .i64 now] 77 (0, 0))) ∧ Hid (KQ w wr (.slice qa qn qc) ql) ∧ Hid (KF w wr fr ps) ∧ Hid (Below w.heap.size w wr)) (fun fr _ => 70 - slLen fr)
  case atStart => exact ⟨seq, tok, at', dg, sn, la, ql, ao, qn, cap, [], none, 0, 65, rfl, HE, CB, LB, RB, MB, KQ0, KF0, HB⟩
  case round =>
    clear CB LB RB MB KQ0 KF0 HB HE hMB
    obtain ⟨seq, tok, at', dg, sn, la, ql, qa, qn, qc, ps, fa, fc, n, rfl, HE, CB, LB, RB, MB, KQ0, KF0, HB⟩ := hrel
    obtain ⟨hsc, hql, hs0, hs1, hd0, hd1⟩ := lnMay_short HE.out.1
    simp only at hsc hql hs0 hs1 hd0 hd1
    replace hsc := Lib.hid hsc
    have hle3 : w.heap.size ≤ w.heap.size + 1 := Nat.le_succ _
    have hmb := (Array.getElem?_eq_some_iff.1 MB.out).1
    have hwr := HB.out.size
    have HBr := Lib.hid (Below.refl wr.heap.size wr)
    have KFr := KF0
    by_cases hsq : seq < 1099511627776
    case neg =>
      have t1 : decide (seq < 1099511627776) = false := by simp; omega
      obtain ⟨⟨LBc0, LBc1, LBc2, LBc3, LBc4, LBc5, LBc6⟩, ⟨LBf0, LBf1, LBf2, LBf3, LBf4, LBf5, LBf6⟩⟩ := blk7 LB.out
      obtain ⟨⟨RBc0, RBc1, RBc2, RBc3, RBc4, RBc5, RBc6⟩, ⟨RBf0, RBf1, RBf2, RBf3, RBf4, RBf5, RBf6⟩⟩ := blk7 RB.out
      go_upto_region 15 with fail
      clear LBc0 LBc1 LBc2 LBc3 LBc4 LBc5 LBc6 LBf0 LBf1 LBf2 LBf3 LBf4 LBf5 LBf6 RBc0 RBc1 RBc2 RBc3 RBc4 RBc5 RBc6 RBf0 RBf1 RBf2 RBf3 RBf4 RBf5 RBf6 t1
      have hend := emp_end HE.out (stp_seq (by show _ ≤ seq; omega))
      rw [HR.out] at hend
      simp only [Prod.mk.injEq] at hend
      obtain ⟨rfl, rfl⟩ := hend
      clear HE HR
      obtain ⟨⟨LBc0, LBc1, LBc2, LBc3, LBc4, LBc5, LBc6⟩, ⟨LBf0, LBf1, LBf2, LBf3, LBf4, LBf5, LBf6⟩⟩ := blk7 LB.out
      obtain ⟨⟨RBc0, RBc1, RBc2, RBc3, RBc4, RBc5, RBc6⟩, ⟨RBf0, RBf1, RBf2, RBf3, RBf4, RBf5, RBf6⟩⟩ := blk7 RB.out
      go_wp2_with fail
      have hz := stN7_heap RB.out (.int .i64 seq) (.slice qa qn qc) (.bool la) (.int .i64 tok) (.int .i64 at') (.bool sn) (.int .i64 dg)
      have KQz := KQ0.out.past RB.out (by decide) (fun k hk => stN7_far wr (w.heap.size + 1 + 1) (.int .i64 seq) (.slice qa qn qc) (.bool la) (.int .i64 tok) (.int .i64 at') (.bool sn) (.int .i64 dg) hk)
      have KFz := KF0.out.past RB.out (by decide) (by decide) (fun k hk => stN7_far wr (w.heap.size + 1 + 1) (.int .i64 seq) (.slice qa qn qc) (.bool la) (.int .i64 tok) (.int .i64 at') (.bool sn) (.int .i64 dg) hk)
      have HBz := stN7_below HB.out hle2 (.int .i64 seq) (.slice qa qn qc) (.bool la) (.int .i64 tok) (.int .i64 at') (.bool sn) (.int .i64 dg)
      obtain ⟨⟨z0, z1, z2, z3, z4, z5, z6⟩, -⟩ := blk7 hz
      unfold stN7 at z0 z1 z2 z3 z4 z5 z6
      refine bodyPost_ret (v := .tuple #[.agg #[.int .i64 seq, .slice qa qn qc, .bool la, .int .i64 tok, .int .i64 at', .bool sn, .int .i64 dg], .slice fa ps.length fc]) (by simp [results, Tryz.results23, go_sem, z0, z1, z2, z3, z4, z5, z6]) rfl ⟨_, _, ps, rfl, KQz.chgs HBz, KFz, rfl, HBz⟩
    have t1 : decide (seq < 1099511627776) = true := by simp; omega
    have hw1 : IntKind.i64.wrap (seq + 1) = seq + 1 := IntWalk.i64_in _ (by omega)
    obtain ⟨⟨⟨bx, bt⟩, is⟩, hp⟩ : ∃ p, pcTake ⟨ca, cb, cd, ce⟩ ⟨tok, at'⟩ now = p := ⟨_, rfl⟩
    have HP := Lib.hid hp
    clear hp
    cases sn with
    | true =>
      obtain ⟨⟨MBc0, MBc1, MBc2, MBc3, MBc4, MBc5⟩, ⟨MBf0, MBf1, MBf2, MBf3, MBf4, MBf5⟩⟩ := blk6 MB.out
      obtain ⟨⟨LBc0, LBc1, LBc2, LBc3, LBc4, LBc5, LBc6⟩, ⟨LBf0, LBf1, LBf2, LBf3, LBf4, LBf5, LBf6⟩⟩ := blk7 LB.out
      go_wp2_with fail
      clear MBc0 MBc1 MBc2 MBc3 MBc4 MBc5 MBf0 MBf1 MBf2 MBf3 MBf4 MBf5 LBc0 LBc1 LBc2 LBc3 LBc4 LBc5 LBc6 LBf0 LBf1 LBf2 LBf3 LBf4 LBf5 LBf6 t1
      refine (lnext_s (KQ0.out.chgs HB.out) (HT.out _ HB.out) seq tok at' dg ca cb cd ce now la (by omega)).mono ?_
      rintro e w101 ⟨u, rfl, hu, b101⟩
      replace CB := Lib.hid (upQ CB.out b101)
      replace LB := Lib.hid (upQ LB.out b101)
      replace RB := Lib.hid (upQ RB.out b101)
      replace MB := Lib.hid (upQ MB.out b101)
      replace KQ0 := Lib.hid (KQ.later KQ0.out b101)
      replace HBr := Lib.hid (below2Z HBr.out b101)
      replace KF0 := Lib.hid (KF.later KF0.out b101)
      replace HB := Lib.hid (below2Z HB.out b101)
      obtain ⟨ua, uc, rfl⟩ := tab_shapeL hu.tab HVN.out
      have U := Lib.hid (ownR_low hu hwr)
      clear hu
      clear b101
      have hlb := (Array.getElem?_eq_some_iff.1 LB.out).1
      have hrb := (Array.getElem?_eq_some_iff.1 RB.out).1
      have hmm := (Array.getElem?_eq_some_iff.1 MB.out).1
      have hxfr := HBr.out.size
      have b102 := bl_newZ w101 (.cells #[.int .i64 3, .int .i64 0, .bool false, .string ⟨#[]⟩, .int .i64 0, .int .i64 0, .int .i64 0, .string ⟨#[]⟩, .int .u64 0, .slice ua vn uc] 60)
      have XF := newQ w101 (.cells #[.int .i64 3, .int .i64 0, .bool false, .string ⟨#[]⟩, .int .i64 0, .int .i64 0, .int .i64 0, .string ⟨#[]⟩, .int .u64 0, .slice ua vn uc] 60)
      have hXF : w.heap.size ≤ w101.heap.size := HB.out.size
      replace CB := Lib.hid (upQ CB.out b102)
      replace LB := Lib.hid (upQ LB.out b102)
      replace RB := Lib.hid (upQ RB.out b102)
      replace MB := Lib.hid (upQ MB.out b102)
      replace KQ0 := Lib.hid (KQ.later KQ0.out b102)
      replace HBr := Lib.hid (below2Z HBr.out b102)
      replace KF0 := Lib.hid (KF.later KF0.out b102)
      replace U := Lib.hid (OwnR.later U.out b102)
      replace HB := Lib.hid (below2Z HB.out b102)
      clear b102
      replace XF := Lib.hid XF
      have b103 := bl_newZ (w101.alloc (.cells #[.int .i64 3, .int .i64 0, .bool false, .string ⟨#[]⟩, .int .i64 0, .int .i64 0, .int .i64 0, .string ⟨#[]⟩, .int .u64 0, .slice ua vn uc] 60)) (.cells #[.int .i64 seq, .slice none 0 0, .bool false, .int .i64 tok, .int .i64 at', .bool false, .int .i64 now] 30)
      have XL := newQ (w101.alloc (.cells #[.int .i64 3, .int .i64 0, .bool false, .string ⟨#[]⟩, .int .i64 0, .int .i64 0, .int .i64 0, .string ⟨#[]⟩, .int .u64 0, .slice ua vn uc] 60)) (.cells #[.int .i64 seq, .slice none 0 0, .bool false, .int .i64 tok, .int .i64 at', .bool false, .int .i64 now] 30)
      have hXL : w.heap.size ≤ (w101.alloc (.cells #[.int .i64 3, .int .i64 0, .bool false, .string ⟨#[]⟩, .int .i64 0, .int .i64 0, .int .i64 0, .string ⟨#[]⟩, .int .u64 0, .slice ua vn uc] 60)).heap.size := HB.out.size
      rw [World.size_alloc] at XL hXL
      replace CB := Lib.hid (upQ CB.out b103)
      replace LB := Lib.hid (upQ LB.out b103)
      replace RB := Lib.hid (upQ RB.out b103)
      replace MB := Lib.hid (upQ MB.out b103)
      replace XF := Lib.hid (upQ XF.out b103)
      replace KQ0 := Lib.hid (KQ.later KQ0.out b103)
      replace HBr := Lib.hid (below2Z HBr.out b103)
      replace KF0 := Lib.hid (KF.later KF0.out b103)
      replace U := Lib.hid (OwnR.later U.out b103)
      replace HB := Lib.hid (below2Z HB.out b103)
      clear b103
      replace XL := Lib.hid XL
      go_upto_region 8 with fail
      generalize (w101.alloc (.cells #[.int .i64 3, .int .i64 0, .bool false, .string ⟨#[]⟩, .int .i64 0, .int .i64 0, .int .i64 0, .string ⟨#[]⟩, .int .u64 0, .slice ua vn uc] 60)).alloc (.cells #[.int .i64 seq, .slice none 0 0, .bool false, .int .i64 tok, .int .i64 at', .bool false, .int .i64 now] 30) = w104 at CB LB RB MB XF XL KQ0 HBr KF0 U HB ⊢
      obtain ⟨⟨CBc0, CBc1, CBc2, CBc3⟩, ⟨CBf0, CBf1, CBf2, CBf3⟩⟩ := blk4 CB.out
      obtain ⟨⟨LBc0, LBc1, LBc2, LBc3, LBc4, LBc5, LBc6⟩, ⟨LBf0, LBf1, LBf2, LBf3, LBf4, LBf5, LBf6⟩⟩ := blk7 LB.out
      go_wp2_with fail
      clear CBc0 CBc1 CBc2 CBc3 CBf0 CBf1 CBf2 CBf3 LBc0 LBc1 LBc2 LBc3 LBc4 LBc5 LBc6 LBf0 LBf1 LBf2 LBf3 LBf4 LBf5 LBf6
      refine (ptake_any ca cb cd ce tok at' now HP _).mono ?_
      rintro e w105 ⟨rfl, b105⟩
      replace CB := Lib.hid (upQ CB.out b105)
      replace LB := Lib.hid (upQ LB.out b105)
      replace RB := Lib.hid (upQ RB.out b105)
      replace MB := Lib.hid (upQ MB.out b105)
      replace XF := Lib.hid (upQ XF.out b105)
      replace XL := Lib.hid (upQ XL.out b105)
      replace KQ0 := Lib.hid (KQ.later KQ0.out b105)
      replace HBr := Lib.hid (below2Z HBr.out b105)
      replace KF0 := Lib.hid (KF.later KF0.out b105)
      replace U := Lib.hid (OwnR.later U.out b105)
      replace HB := Lib.hid (below2Z HB.out b105)
      clear b105
      have hxl := (Array.getElem?_eq_some_iff.1 XL.out).1
      cases is with
      | false =>
        clear U
        have b156 := bl_newZ w105 (.cells #[.int .i64 bx, .int .i64 bt] 28)
        have XB := newQ w105 (.cells #[.int .i64 bx, .int .i64 bt] 28)
        have hXB : w.heap.size ≤ w105.heap.size := HB.out.size
        replace CB := Lib.hid (upQ CB.out b156)
        replace LB := Lib.hid (upQ LB.out b156)
        replace RB := Lib.hid (upQ RB.out b156)
        replace MB := Lib.hid (upQ MB.out b156)
        replace XF := Lib.hid (upQ XF.out b156)
        replace XL := Lib.hid (upQ XL.out b156)
        replace KQ0 := Lib.hid (KQ.later KQ0.out b156)
        replace HBr := Lib.hid (below2Z HBr.out b156)
        replace KF0 := Lib.hid (KF.later KF0.out b156)
        replace HB := Lib.hid (below2Z HB.out b156)
        clear b156
        replace XB := Lib.hid XB
        go_upto_region 15 with fail
        generalize w105.alloc (.cells #[.int .i64 bx, .int .i64 bt] 28) = w157 at CB LB RB MB XF XL XB KQ0 HBr KF0 HB ⊢
        have hend := emp_end HE.out (stp_tok HP.out)
        rw [HR.out] at hend
        simp only [Prod.mk.injEq] at hend
        obtain ⟨rfl, rfl⟩ := hend
        clear HE HR
        obtain ⟨⟨LBc0, LBc1, LBc2, LBc3, LBc4, LBc5, LBc6⟩, ⟨LBf0, LBf1, LBf2, LBf3, LBf4, LBf5, LBf6⟩⟩ := blk7 LB.out
        obtain ⟨⟨RBc0, RBc1, RBc2, RBc3, RBc4, RBc5, RBc6⟩, ⟨RBf0, RBf1, RBf2, RBf3, RBf4, RBf5, RBf6⟩⟩ := blk7 RB.out
        go_wp2_with fail
        have hz := stN7_heap RB.out (.int .i64 seq) (.slice qa qn qc) (.bool la) (.int .i64 tok) (.int .i64 at') (.bool true) (.int .i64 dg)
        have KQz := KQ0.out.past RB.out (by decide) (fun k hk => stN7_far w157 (w.heap.size + 1 + 1) (.int .i64 seq) (.slice qa qn qc) (.bool la) (.int .i64 tok) (.int .i64 at') (.bool true) (.int .i64 dg) hk)
        have KFz := KF0.out.past RB.out (by decide) (by decide) (fun k hk => stN7_far w157 (w.heap.size + 1 + 1) (.int .i64 seq) (.slice qa qn qc) (.bool la) (.int .i64 tok) (.int .i64 at') (.bool true) (.int .i64 dg) hk)
        have HBz := stN7_below HB.out hle2 (.int .i64 seq) (.slice qa qn qc) (.bool la) (.int .i64 tok) (.int .i64 at') (.bool true) (.int .i64 dg)
        obtain ⟨⟨z0, z1, z2, z3, z4, z5, z6⟩, -⟩ := blk7 hz
        unfold stN7 at z0 z1 z2 z3 z4 z5 z6
        refine bodyPost_ret (v := .tuple #[.agg #[.int .i64 seq, .slice qa qn qc, .bool la, .int .i64 tok, .int .i64 at', .bool true, .int .i64 dg], .slice fa ps.length fc]) (by simp [results, Tryz.results23, go_sem, z0, z1, z2, z3, z4, z5, z6]) rfl ⟨_, _, ps, rfl, KQz.chgs HBz, KFz, rfl, HBz⟩
      | true =>
        obtain ⟨he2, hpl⟩ := emp_step HE.out h2.out h3.out (stp_s hsq HP.out)
        rw [List.length_map] at hpl
        have HE2 := Lib.hid he2
        clear he2 HE HP
        have b106 := bl_newZ w105 (.cells #[.int .i64 bx, .int .i64 bt] 28)
        have XB := newQ w105 (.cells #[.int .i64 bx, .int .i64 bt] 28)
        have hXB : w.heap.size ≤ w105.heap.size := HB.out.size
        replace CB := Lib.hid (upQ CB.out b106)
        replace LB := Lib.hid (upQ LB.out b106)
        replace RB := Lib.hid (upQ RB.out b106)
        replace MB := Lib.hid (upQ MB.out b106)
        replace XF := Lib.hid (upQ XF.out b106)
        replace XL := Lib.hid (upQ XL.out b106)
        replace KQ0 := Lib.hid (KQ.later KQ0.out b106)
        replace HBr := Lib.hid (below2Z HBr.out b106)
        replace KF0 := Lib.hid (KF.later KF0.out b106)
        replace U := Lib.hid (OwnR.later U.out b106)
        replace HB := Lib.hid (below2Z HB.out b106)
        clear b106
        replace XB := Lib.hid XB
        go_upto_region 10 with fail
        generalize w105.alloc (.cells #[.int .i64 bx, .int .i64 bt] 28) = w107 at CB LB RB MB XF XL XB KQ0 HBr KF0 U HB ⊢
        obtain ⟨⟨LBc0, LBc1, LBc2, LBc3, LBc4, LBc5, LBc6⟩, ⟨LBf0, LBf1, LBf2, LBf3, LBf4, LBf5, LBf6⟩⟩ := blk7 LB.out
        obtain ⟨⟨XFc0, XFc1, XFc2, XFc3, XFc4, XFc5, XFc6, XFc7, XFc8, XFc9⟩, ⟨XFf0, XFf1, XFf2, XFf3, XFf4, XFf5, XFf6, XFf7, XFf8, XFf9⟩⟩ := blk10 XF.out
        go_upto_region 11 with fail
        clear LBc0 LBc1 LBc2 LBc3 LBc4 LBc5 LBc6 LBf0 LBf1 LBf2 LBf3 LBf4 LBf5 LBf6 XFc0 XFc1 XFc2 XFc3 XFc4 XFc5 XFc6 XFc7 XFc8 XFc9 XFf0 XFf1 XFf2 XFf3 XFf4 XFf5 XFf6 XFf7 XFf8 XFf9
        have hfar0 : ∀ k, ¬ k = w101.heap.size → (w107.setCell ⟨w101.heap.size, 1, none⟩ (.int .i64 seq)).heap[k]? = w107.heap[k]? := fun k hk => by rw [Below.heap_setCell _ _ _ k hk]
        have CBz : Hid ((w107.setCell ⟨w101.heap.size, 1, none⟩ (.int .i64 seq)).heap[w.heap.size]? = some (.cells #[.int .i64 ca, .int .i64 cb, .int .i64 cd, .int .i64 ce] 23 (0, 0))) := Lib.hid ((hfar0 (w.heap.size) (blk_ne CB.out XF.out (by decide))).trans CB.out)
        have LBz : Hid ((w107.setCell ⟨w101.heap.size, 1, none⟩ (.int .i64 seq)).heap[w.heap.size + 1]? = some (.cells #[.int .i64 seq, .slice qa qn qc, .bool la, .int .i64 tok, .int .i64 at', .bool true, .int .i64 dg] 30 (0, 0))) := Lib.hid ((hfar0 (w.heap.size + 1) (blk_ne LB.out XF.out (by decide))).trans LB.out)
        have RBz : Hid ((w107.setCell ⟨w101.heap.size, 1, none⟩ (.int .i64 seq)).heap[w.heap.size + 1 + 1]? = some (.cells #[.int .i64 0, .slice none 0 0, .bool false, .int .i64 0, .int .i64 0, .bool false, .int .i64 0] 30 (0, 0))) := Lib.hid ((hfar0 (w.heap.size + 1 + 1) (blk_ne RB.out XF.out (by decide))).trans RB.out)
        have MBz : Hid ((w107.setCell ⟨w101.heap.size, 1, none⟩ (.int .i64 seq)).heap[mbn]? = some (.cells #[.int .i64 ca, .int .i64 cb, .int .i64 cd, .int .i64 ce, .slice ta vn tc, .int .i64 now] 77 (0, 0))) := Lib.hid ((hfar0 (mbn) (blk_ne MB.out XF.out (by decide))).trans MB.out)
        have XFz : Hid ((w107.setCell ⟨w101.heap.size, 1, none⟩ (.int .i64 seq)).heap[w101.heap.size]? = some (.cells #[.int .i64 3, .int .i64 seq, .bool false, .string ⟨#[]⟩, .int .i64 0, .int .i64 0, .int .i64 0, .string ⟨#[]⟩, .int .u64 0, .slice ua vn uc] 60 (0, 0))) := Lib.hid (heap_setCell_same _ (w101.heap.size) 1 _ _ (.int .i64 seq) XF.out)
        have XLz : Hid ((w107.setCell ⟨w101.heap.size, 1, none⟩ (.int .i64 seq)).heap[w101.heap.size + 1]? = some (.cells #[.int .i64 seq, .slice none 0 0, .bool false, .int .i64 tok, .int .i64 at', .bool false, .int .i64 now] 30 (0, 0))) := Lib.hid ((hfar0 (w101.heap.size + 1) (blk_ne XL.out XF.out (by decide))).trans XL.out)
        have XBz : Hid ((w107.setCell ⟨w101.heap.size, 1, none⟩ (.int .i64 seq)).heap[w105.heap.size]? = some (.cells #[.int .i64 bx, .int .i64 bt] 28 (0, 0))) := Lib.hid ((hfar0 (w105.heap.size) (blk_ne XB.out XF.out (by decide))).trans XB.out)
        have KQ0z : Hid (KQ w (w107.setCell ⟨w101.heap.size, 1, none⟩ (.int .i64 seq)) (.slice qa qn qc) ql) := Lib.hid (KQ0.out.past XF.out (by decide) hfar0)
        have HBrz : Hid (Below wr.heap.size wr (w107.setCell ⟨w101.heap.size, 1, none⟩ (.int .i64 seq))) := Lib.hid (HBr.out.setCell hxfr _)
        have KF0z : Hid (KF w (w107.setCell ⟨w101.heap.size, 1, none⟩ (.int .i64 seq)) (.slice fa ps.length fc) ps) := Lib.hid (KFr.out.later HBrz.out)
        have Uz : Hid (OwnR (w107.setCell ⟨w101.heap.size, 1, none⟩ (.int .i64 seq)) w.heap.size (.slice ua vn uc) view) := Lib.hid (row_past U.out XF.out (by decide) hfar0)
        have HBz : Hid (Below w.heap.size w (w107.setCell ⟨w101.heap.size, 1, none⟩ (.int .i64 seq))) := Lib.hid (HB.out.setCell hXF _)
        clear CB LB RB MB XF XL XB KQ0 HBr KF0 U HB hfar0
        generalize w107.setCell ⟨w101.heap.size, 1, none⟩ (.int .i64 seq) = w108 at CBz LBz RBz MBz XFz XLz XBz KQ0z HBrz KF0z Uz HBz ⊢
        have CB := CBz
        have LB := LBz
        have RB := RBz
        have MB := MBz
        have XF := XFz
        have XL := XLz
        have XB := XBz
        have KQ0 := KQ0z
        have HBr := HBrz
        have KF0 := KF0z
        have U := Uz
        have HB := HBz
        clear CBz LBz RBz MBz XFz XLz XBz KQ0z HBrz KF0z Uz HBz
        obtain ⟨⟨XFc0, XFc1, XFc2, XFc3, XFc4, XFc5, XFc6, XFc7, XFc8, XFc9⟩, ⟨XFf0, XFf1, XFf2, XFf3, XFf4, XFf5, XFf6, XFf7, XFf8, XFf9⟩⟩ := blk10 XF.out
        have b109 := bl_newZ w108 (.cells #[.int .i64 3, .int .i64 seq, .bool false, .string ⟨#[]⟩, .int .i64 0, .int .i64 0, .int .i64 0, .string ⟨#[]⟩, .int .u64 0, .slice ua vn uc] 60)
        have XA := newQ w108 (.cells #[.int .i64 3, .int .i64 seq, .bool false, .string ⟨#[]⟩, .int .i64 0, .int .i64 0, .int .i64 0, .string ⟨#[]⟩, .int .u64 0, .slice ua vn uc] 60)
        have hXA : w.heap.size ≤ w108.heap.size := HB.out.size
        replace CB := Lib.hid (upQ CB.out b109)
        replace LB := Lib.hid (upQ LB.out b109)
        replace RB := Lib.hid (upQ RB.out b109)
        replace MB := Lib.hid (upQ MB.out b109)
        replace XF := Lib.hid (upQ XF.out b109)
        replace XL := Lib.hid (upQ XL.out b109)
        replace XB := Lib.hid (upQ XB.out b109)
        replace KQ0 := Lib.hid (KQ.later KQ0.out b109)
        replace HBr := Lib.hid (below2Z HBr.out b109)
        replace KF0 := Lib.hid (KF.later KF0.out b109)
        replace U := Lib.hid (OwnR.later U.out b109)
        replace HB := Lib.hid (below2Z HB.out b109)
        clear b109
        replace XA := Lib.hid XA
        have SRC := srcS_new (vals := frVals) (w := w108) (r := (⟨⟨3, seq, false, [], Val.zero, 0, view⟩, ua, vn, uc⟩ : FrS)) (cs := #[.int .i64 3, .int .i64 seq, .bool false, .string ⟨#[]⟩, .int .i64 0, .int .i64 0, .int .i64 0, .string ⟨#[]⟩, .int .u64 0, .slice ua vn uc]) rfl (e := 60) (B := w108.heap.size) rfl _ rfl
        have KTP : KT w (w108.alloc (.cells #[.int .i64 3, .int .i64 seq, .bool false, .string ⟨#[]⟩, .int .i64 0, .int .i64 0, .int .i64 0, .string ⟨#[]⟩, .int .u64 0, .slice ua vn uc] 60)) (⟨⟨3, seq, false, [], Val.zero, 0, view⟩, ua, vn, uc⟩ : FrS) := .inr U.out
        go_wp2_with (at_builtin; go_must (refine wpList_append_fr rfl (.tmp 60) (.tmp 62) rfl w.heap.size _ ps rfl (by exact KF0.out.1) ⟨w108.heap.size, 0, none⟩ (⟨⟨3, seq, false, [], Val.zero, 0, view⟩, ua, vn, uc⟩ : FrS) rfl SRC (by omega) HB.out.size ?_))
        intro fv w110 ho hbl hfar
        have CBz := Lib.hid (blk_app CB.out KF0.out.1 (by decide) hfar)
        have LBz := Lib.hid (blk_app LB.out KF0.out.1 (by decide) hfar)
        have RBz := Lib.hid (blk_app RB.out KF0.out.1 (by decide) hfar)
        have MBz := Lib.hid (blk_app MB.out KF0.out.1 (by decide) hfar)
        have XLz := Lib.hid (blk_app XL.out KF0.out.1 (by decide) hfar)
        have XBz := Lib.hid (blk_app XB.out KF0.out.1 (by decide) hfar)
        have KQ0z := Lib.hid (KQ0.out.app KF0.out.1 hfar)
        have KF0z := Lib.hid (KF0.out.more KTP ho hfar)
        have HBz := Lib.hid (HB.out.trans hbl)
        clear XFc0 XFc1 XFc2 XFc3 XFc4 XFc5 XFc6 XFc7 XFc8 XFc9 XFf0 XFf1 XFf2 XFf3 XFf4 XFf5 XFf6 XFf7 XFf8 XFf9 CB LB RB MB XL XB KQ0 KF0 HB XF XA SRC KTP ho hbl hfar HBr KFr hxfr U
        have CB := CBz
        have LB := LBz
        have RB := RBz
        have MB := MBz
        have XL := XLz
        have XB := XBz
        have KQ0 := KQ0z
        have KF0 := KF0z
        have HB := HBz
        clear CBz LBz RBz MBz XLz XBz KQ0z KF0z HBz
        obtain ⟨fa2, fc2, rfl⟩ := kf_shape KF0.out
        clear KQ0
        have KQ0 : Hid (KQ w w110 (.slice none 0 0) []) := Lib.hid (.inl (fun X _ => chgs_nilL X))
        obtain ⟨⟨XLc0, XLc1, XLc2, XLc3, XLc4, XLc5, XLc6⟩, ⟨XLf0, XLf1, XLf2, XLf3, XLf4, XLf5, XLf6⟩⟩ := blk7 XL.out
        obtain ⟨⟨LBc0, LBc1, LBc2, LBc3, LBc4, LBc5, LBc6⟩, ⟨LBf0, LBf1, LBf2, LBf3, LBf4, LBf5, LBf6⟩⟩ := blk7 LB.out
        go_upto_region 13 with fail
        clear XLc0 XLc1 XLc2 XLc3 XLc4 XLc5 XLc6 XLf0 XLf1 XLf2 XLf3 XLf4 XLf5 XLf6 LBc0 LBc1 LBc2 LBc3 LBc4 LBc5 LBc6 LBf0 LBf1 LBf2 LBf3 LBf4 LBf5 LBf6
        have hfar0 : ∀ k, ¬ k = w.heap.size + 1 → (((((((w110.setCell ⟨w.heap.size + 1, 0, none⟩ (.int .i64 seq)).setCell ⟨w.heap.size + 1, 1, none⟩ (.slice none 0 0)).setCell ⟨w.heap.size + 1, 2, none⟩ (.bool false)).setCell ⟨w.heap.size + 1, 3, none⟩ (.int .i64 tok)).setCell ⟨w.heap.size + 1, 4, none⟩ (.int .i64 at')).setCell ⟨w.heap.size + 1, 5, none⟩ (.bool false)).setCell ⟨w.heap.size + 1, 6, none⟩ (.int .i64 now)).heap[k]? = w110.heap[k]? := fun k hk => by rw [Below.heap_setCell _ _ _ k hk, Below.heap_setCell _ _ _ k hk, Below.heap_setCell _ _ _ k hk, Below.heap_setCell _ _ _ k hk, Below.heap_setCell _ _ _ k hk, Below.heap_setCell _ _ _ k hk, Below.heap_setCell _ _ _ k hk]
        have CBz : Hid ((((((((w110.setCell ⟨w.heap.size + 1, 0, none⟩ (.int .i64 seq)).setCell ⟨w.heap.size + 1, 1, none⟩ (.slice none 0 0)).setCell ⟨w.heap.size + 1, 2, none⟩ (.bool false)).setCell ⟨w.heap.size + 1, 3, none⟩ (.int .i64 tok)).setCell ⟨w.heap.size + 1, 4, none⟩ (.int .i64 at')).setCell ⟨w.heap.size + 1, 5, none⟩ (.bool false)).setCell ⟨w.heap.size + 1, 6, none⟩ (.int .i64 now)).heap[w.heap.size]? = some (.cells #[.int .i64 ca, .int .i64 cb, .int .i64 cd, .int .i64 ce] 23 (0, 0))) := Lib.hid ((hfar0 (w.heap.size) (blk_ne CB.out LB.out (by decide))).trans CB.out)
        have LBz : Hid ((((((((w110.setCell ⟨w.heap.size + 1, 0, none⟩ (.int .i64 seq)).setCell ⟨w.heap.size + 1, 1, none⟩ (.slice none 0 0)).setCell ⟨w.heap.size + 1, 2, none⟩ (.bool false)).setCell ⟨w.heap.size + 1, 3, none⟩ (.int .i64 tok)).setCell ⟨w.heap.size + 1, 4, none⟩ (.int .i64 at')).setCell ⟨w.heap.size + 1, 5, none⟩ (.bool false)).setCell ⟨w.heap.size + 1, 6, none⟩ (.int .i64 now)).heap[w.heap.size + 1]? = some (.cells #[.int .i64 seq, .slice none 0 0, .bool false, .int .i64 tok, .int .i64 at', .bool false, .int .i64 now] 30 (0, 0))) := Lib.hid (heap_setCell_same _ (w.heap.size + 1) 6 _ _ (.int .i64 now) (heap_setCell_same _ (w.heap.size + 1) 5 _ _ (.bool false) (heap_setCell_same _ (w.heap.size + 1) 4 _ _ (.int .i64 at') (heap_setCell_same _ (w.heap.size + 1) 3 _ _ (.int .i64 tok) (heap_setCell_same _ (w.heap.size + 1) 2 _ _ (.bool false) (heap_setCell_same _ (w.heap.size + 1) 1 _ _ (.slice none 0 0) (heap_setCell_same _ (w.heap.size + 1) 0 _ _ (.int .i64 seq) LB.out)))))))
        have RBz : Hid ((((((((w110.setCell ⟨w.heap.size + 1, 0, none⟩ (.int .i64 seq)).setCell ⟨w.heap.size + 1, 1, none⟩ (.slice none 0 0)).setCell ⟨w.heap.size + 1, 2, none⟩ (.bool false)).setCell ⟨w.heap.size + 1, 3, none⟩ (.int .i64 tok)).setCell ⟨w.heap.size + 1, 4, none⟩ (.int .i64 at')).setCell ⟨w.heap.size + 1, 5, none⟩ (.bool false)).setCell ⟨w.heap.size + 1, 6, none⟩ (.int .i64 now)).heap[w.heap.size + 1 + 1]? = some (.cells #[.int .i64 0, .slice none 0 0, .bool false, .int .i64 0, .int .i64 0, .bool false, .int .i64 0] 30 (0, 0))) := Lib.hid ((hfar0 (w.heap.size + 1 + 1) (by omega)).trans RB.out)
        have MBz : Hid ((((((((w110.setCell ⟨w.heap.size + 1, 0, none⟩ (.int .i64 seq)).setCell ⟨w.heap.size + 1, 1, none⟩ (.slice none 0 0)).setCell ⟨w.heap.size + 1, 2, none⟩ (.bool false)).setCell ⟨w.heap.size + 1, 3, none⟩ (.int .i64 tok)).setCell ⟨w.heap.size + 1, 4, none⟩ (.int .i64 at')).setCell ⟨w.heap.size + 1, 5, none⟩ (.bool false)).setCell ⟨w.heap.size + 1, 6, none⟩ (.int .i64 now)).heap[mbn]? = some (.cells #[.int .i64 ca, .int .i64 cb, .int .i64 cd, .int .i64 ce, .slice ta vn tc, .int .i64 now] 77 (0, 0))) := Lib.hid ((hfar0 (mbn) (blk_ne MB.out LB.out (by decide))).trans MB.out)
        have XLz : Hid ((((((((w110.setCell ⟨w.heap.size + 1, 0, none⟩ (.int .i64 seq)).setCell ⟨w.heap.size + 1, 1, none⟩ (.slice none 0 0)).setCell ⟨w.heap.size + 1, 2, none⟩ (.bool false)).setCell ⟨w.heap.size + 1, 3, none⟩ (.int .i64 tok)).setCell ⟨w.heap.size + 1, 4, none⟩ (.int .i64 at')).setCell ⟨w.heap.size + 1, 5, none⟩ (.bool false)).setCell ⟨w.heap.size + 1, 6, none⟩ (.int .i64 now)).heap[w101.heap.size + 1]? = some (.cells #[.int .i64 seq, .slice none 0 0, .bool false, .int .i64 tok, .int .i64 at', .bool false, .int .i64 now] 30 (0, 0))) := Lib.hid ((hfar0 (w101.heap.size + 1) (by omega)).trans XL.out)
        have XBz : Hid ((((((((w110.setCell ⟨w.heap.size + 1, 0, none⟩ (.int .i64 seq)).setCell ⟨w.heap.size + 1, 1, none⟩ (.slice none 0 0)).setCell ⟨w.heap.size + 1, 2, none⟩ (.bool false)).setCell ⟨w.heap.size + 1, 3, none⟩ (.int .i64 tok)).setCell ⟨w.heap.size + 1, 4, none⟩ (.int .i64 at')).setCell ⟨w.heap.size + 1, 5, none⟩ (.bool false)).setCell ⟨w.heap.size + 1, 6, none⟩ (.int .i64 now)).heap[w105.heap.size]? = some (.cells #[.int .i64 bx, .int .i64 bt] 28 (0, 0))) := Lib.hid ((hfar0 (w105.heap.size) (blk_ne XB.out LB.out (by decide))).trans XB.out)
        have KQ0z : Hid (KQ w (((((((w110.setCell ⟨w.heap.size + 1, 0, none⟩ (.int .i64 seq)).setCell ⟨w.heap.size + 1, 1, none⟩ (.slice none 0 0)).setCell ⟨w.heap.size + 1, 2, none⟩ (.bool false)).setCell ⟨w.heap.size + 1, 3, none⟩ (.int .i64 tok)).setCell ⟨w.heap.size + 1, 4, none⟩ (.int .i64 at')).setCell ⟨w.heap.size + 1, 5, none⟩ (.bool false)).setCell ⟨w.heap.size + 1, 6, none⟩ (.int .i64 now)) (.slice none 0 0) []) := Lib.hid (KQ0.out.past LB.out (by decide) hfar0)
        have KF0z : Hid (KF w (((((((w110.setCell ⟨w.heap.size + 1, 0, none⟩ (.int .i64 seq)).setCell ⟨w.heap.size + 1, 1, none⟩ (.slice none 0 0)).setCell ⟨w.heap.size + 1, 2, none⟩ (.bool false)).setCell ⟨w.heap.size + 1, 3, none⟩ (.int .i64 tok)).setCell ⟨w.heap.size + 1, 4, none⟩ (.int .i64 at')).setCell ⟨w.heap.size + 1, 5, none⟩ (.bool false)).setCell ⟨w.heap.size + 1, 6, none⟩ (.int .i64 now)) (.slice fa2 (ps ++ [(⟨⟨3, seq, false, [], Val.zero, 0, view⟩, ua, vn, uc⟩ : FrS)]).length fc2) (ps ++ [(⟨⟨3, seq, false, [], Val.zero, 0, view⟩, ua, vn, uc⟩ : FrS)])) := Lib.hid (KF0.out.past LB.out (by decide) (by decide) hfar0)
        have HBz : Hid (Below w.heap.size w (((((((w110.setCell ⟨w.heap.size + 1, 0, none⟩ (.int .i64 seq)).setCell ⟨w.heap.size + 1, 1, none⟩ (.slice none 0 0)).setCell ⟨w.heap.size + 1, 2, none⟩ (.bool false)).setCell ⟨w.heap.size + 1, 3, none⟩ (.int .i64 tok)).setCell ⟨w.heap.size + 1, 4, none⟩ (.int .i64 at')).setCell ⟨w.heap.size + 1, 5, none⟩ (.bool false)).setCell ⟨w.heap.size + 1, 6, none⟩ (.int .i64 now))) := Lib.hid (((((((HB.out.setCell hle1 _).setCell hle1 _).setCell hle1 _).setCell hle1 _).setCell hle1 _).setCell hle1 _).setCell hle1 _)
        clear CB LB RB MB XL XB KQ0 KF0 HB hfar0
        generalize ((((((w110.setCell ⟨w.heap.size + 1, 0, none⟩ (.int .i64 seq)).setCell ⟨w.heap.size + 1, 1, none⟩ (.slice none 0 0)).setCell ⟨w.heap.size + 1, 2, none⟩ (.bool false)).setCell ⟨w.heap.size + 1, 3, none⟩ (.int .i64 tok)).setCell ⟨w.heap.size + 1, 4, none⟩ (.int .i64 at')).setCell ⟨w.heap.size + 1, 5, none⟩ (.bool false)).setCell ⟨w.heap.size + 1, 6, none⟩ (.int .i64 now) = w111 at CBz LBz RBz MBz XLz XBz KQ0z KF0z HBz ⊢
        have CB := CBz
        have LB := LBz
        have RB := RBz
        have MB := MBz
        have XL := XLz
        have XB := XBz
        have KQ0 := KQ0z
        have KF0 := KF0z
        have HB := HBz
        clear CBz LBz RBz MBz XLz XBz KQ0z KF0z HBz
        clear XL
        obtain ⟨⟨XBc0, XBc1⟩, ⟨XBf0, XBf1⟩⟩ := blk2 XB.out
        obtain ⟨⟨LBc0, LBc1, LBc2, LBc3, LBc4, LBc5, LBc6⟩, ⟨LBf0, LBf1, LBf2, LBf3, LBf4, LBf5, LBf6⟩⟩ := blk7 LB.out
        go_upto_region 14 with fail
        clear XBc0 XBc1 XBf0 XBf1 LBc0 LBc1 LBc2 LBc3 LBc4 LBc5 LBc6 LBf0 LBf1 LBf2 LBf3 LBf4 LBf5 LBf6
        have hfar0 : ∀ k, ¬ k = w.heap.size + 1 → ((w111.setCell ⟨w.heap.size + 1, 3, none⟩ (.int .i64 bx)).setCell ⟨w.heap.size + 1, 4, none⟩ (.int .i64 bt)).heap[k]? = w111.heap[k]? := fun k hk => by rw [Below.heap_setCell _ _ _ k hk, Below.heap_setCell _ _ _ k hk]
        have CBz : Hid (((w111.setCell ⟨w.heap.size + 1, 3, none⟩ (.int .i64 bx)).setCell ⟨w.heap.size + 1, 4, none⟩ (.int .i64 bt)).heap[w.heap.size]? = some (.cells #[.int .i64 ca, .int .i64 cb, .int .i64 cd, .int .i64 ce] 23 (0, 0))) := Lib.hid ((hfar0 (w.heap.size) (blk_ne CB.out LB.out (by decide))).trans CB.out)
        have LBz : Hid (((w111.setCell ⟨w.heap.size + 1, 3, none⟩ (.int .i64 bx)).setCell ⟨w.heap.size + 1, 4, none⟩ (.int .i64 bt)).heap[w.heap.size + 1]? = some (.cells #[.int .i64 seq, .slice none 0 0, .bool false, .int .i64 bx, .int .i64 bt, .bool false, .int .i64 now] 30 (0, 0))) := Lib.hid (heap_setCell_same _ (w.heap.size + 1) 4 _ _ (.int .i64 bt) (heap_setCell_same _ (w.heap.size + 1) 3 _ _ (.int .i64 bx) LB.out))
        have RBz : Hid (((w111.setCell ⟨w.heap.size + 1, 3, none⟩ (.int .i64 bx)).setCell ⟨w.heap.size + 1, 4, none⟩ (.int .i64 bt)).heap[w.heap.size + 1 + 1]? = some (.cells #[.int .i64 0, .slice none 0 0, .bool false, .int .i64 0, .int .i64 0, .bool false, .int .i64 0] 30 (0, 0))) := Lib.hid ((hfar0 (w.heap.size + 1 + 1) (by omega)).trans RB.out)
        have MBz : Hid (((w111.setCell ⟨w.heap.size + 1, 3, none⟩ (.int .i64 bx)).setCell ⟨w.heap.size + 1, 4, none⟩ (.int .i64 bt)).heap[mbn]? = some (.cells #[.int .i64 ca, .int .i64 cb, .int .i64 cd, .int .i64 ce, .slice ta vn tc, .int .i64 now] 77 (0, 0))) := Lib.hid ((hfar0 (mbn) (blk_ne MB.out LB.out (by decide))).trans MB.out)
        have XBz : Hid (((w111.setCell ⟨w.heap.size + 1, 3, none⟩ (.int .i64 bx)).setCell ⟨w.heap.size + 1, 4, none⟩ (.int .i64 bt)).heap[w105.heap.size]? = some (.cells #[.int .i64 bx, .int .i64 bt] 28 (0, 0))) := Lib.hid ((hfar0 (w105.heap.size) (blk_ne XB.out LB.out (by decide))).trans XB.out)
        have KQ0z : Hid (KQ w ((w111.setCell ⟨w.heap.size + 1, 3, none⟩ (.int .i64 bx)).setCell ⟨w.heap.size + 1, 4, none⟩ (.int .i64 bt)) (.slice none 0 0) []) := Lib.hid (KQ0.out.past LB.out (by decide) hfar0)
        have KF0z : Hid (KF w ((w111.setCell ⟨w.heap.size + 1, 3, none⟩ (.int .i64 bx)).setCell ⟨w.heap.size + 1, 4, none⟩ (.int .i64 bt)) (.slice fa2 (ps ++ [(⟨⟨3, seq, false, [], Val.zero, 0, view⟩, ua, vn, uc⟩ : FrS)]).length fc2) (ps ++ [(⟨⟨3, seq, false, [], Val.zero, 0, view⟩, ua, vn, uc⟩ : FrS)])) := Lib.hid (KF0.out.past LB.out (by decide) (by decide) hfar0)
        have HBz : Hid (Below w.heap.size w ((w111.setCell ⟨w.heap.size + 1, 3, none⟩ (.int .i64 bx)).setCell ⟨w.heap.size + 1, 4, none⟩ (.int .i64 bt))) := Lib.hid ((HB.out.setCell hle1 _).setCell hle1 _)
        clear CB LB RB MB XB KQ0 KF0 HB hfar0
        generalize (w111.setCell ⟨w.heap.size + 1, 3, none⟩ (.int .i64 bx)).setCell ⟨w.heap.size + 1, 4, none⟩ (.int .i64 bt) = w112 at CBz LBz RBz MBz XBz KQ0z KF0z HBz ⊢
        have CB := CBz
        have LB := LBz
        have RB := RBz
        have MB := MBz
        have XB := XBz
        have KQ0 := KQ0z
        have KF0 := KF0z
        have HB := HBz
        clear CBz LBz RBz MBz XBz KQ0z KF0z HBz
        clear XB
        obtain ⟨⟨LBc0, LBc1, LBc2, LBc3, LBc4, LBc5, LBc6⟩, ⟨LBf0, LBf1, LBf2, LBf3, LBf4, LBf5, LBf6⟩⟩ := blk7 LB.out
        go_wp2_with fail
        clear LBc0 LBc1 LBc2 LBc3 LBc4 LBc5 LBc6 LBf0 LBf1 LBf2 LBf3 LBf4 LBf5 LBf6
        have hfar0 : ∀ k, ¬ k = w.heap.size + 1 → (w112.setCell ⟨w.heap.size + 1, 0, none⟩ (.int .i64 (seq + 1))).heap[k]? = w112.heap[k]? := fun k hk => by rw [Below.heap_setCell _ _ _ k hk]
        have CBz : Hid ((w112.setCell ⟨w.heap.size + 1, 0, none⟩ (.int .i64 (seq + 1))).heap[w.heap.size]? = some (.cells #[.int .i64 ca, .int .i64 cb, .int .i64 cd, .int .i64 ce] 23 (0, 0))) := Lib.hid ((hfar0 (w.heap.size) (blk_ne CB.out LB.out (by decide))).trans CB.out)
        have LBz : Hid ((w112.setCell ⟨w.heap.size + 1, 0, none⟩ (.int .i64 (seq + 1))).heap[w.heap.size + 1]? = some (.cells #[.int .i64 (seq + 1), .slice none 0 0, .bool false, .int .i64 bx, .int .i64 bt, .bool false, .int .i64 now] 30 (0, 0))) := Lib.hid (heap_setCell_same _ (w.heap.size + 1) 0 _ _ (.int .i64 (seq + 1)) LB.out)
        have RBz : Hid ((w112.setCell ⟨w.heap.size + 1, 0, none⟩ (.int .i64 (seq + 1))).heap[w.heap.size + 1 + 1]? = some (.cells #[.int .i64 0, .slice none 0 0, .bool false, .int .i64 0, .int .i64 0, .bool false, .int .i64 0] 30 (0, 0))) := Lib.hid ((hfar0 (w.heap.size + 1 + 1) (by omega)).trans RB.out)
        have MBz : Hid ((w112.setCell ⟨w.heap.size + 1, 0, none⟩ (.int .i64 (seq + 1))).heap[mbn]? = some (.cells #[.int .i64 ca, .int .i64 cb, .int .i64 cd, .int .i64 ce, .slice ta vn tc, .int .i64 now] 77 (0, 0))) := Lib.hid ((hfar0 (mbn) (blk_ne MB.out LB.out (by decide))).trans MB.out)
        have KQ0z : Hid (KQ w (w112.setCell ⟨w.heap.size + 1, 0, none⟩ (.int .i64 (seq + 1))) (.slice none 0 0) []) := Lib.hid (KQ0.out.past LB.out (by decide) hfar0)
        have KF0z : Hid (KF w (w112.setCell ⟨w.heap.size + 1, 0, none⟩ (.int .i64 (seq + 1))) (.slice fa2 (ps ++ [(⟨⟨3, seq, false, [], Val.zero, 0, view⟩, ua, vn, uc⟩ : FrS)]).length fc2) (ps ++ [(⟨⟨3, seq, false, [], Val.zero, 0, view⟩, ua, vn, uc⟩ : FrS)])) := Lib.hid (KF0.out.past LB.out (by decide) (by decide) hfar0)
        have HBz : Hid (Below w.heap.size w (w112.setCell ⟨w.heap.size + 1, 0, none⟩ (.int .i64 (seq + 1)))) := Lib.hid (HB.out.setCell hle1 _)
        clear CB LB RB MB KQ0 KF0 HB hfar0
        have CB := CBz
        have LB := LBz
        have RB := RBz
        have MB := MBz
        have KQ0 := KQ0z
        have KF0 := KF0z
        have HB := HBz
        clear CBz LBz RBz MBz KQ0z KF0z HBz
        go_roundw
        case rel => exact ⟨seq + 1, bx, bt, now, false, false, [], none, 0, 0, ps ++ [(⟨⟨3, seq, false, [], Val.zero, 0, view⟩, ua, vn, uc⟩ : FrS)], fa2, fc2, n - 1, rfl, Lib.hid (by rw [List.map_append]; exact HE2.out), CB, LB, RB, MB, KQ0, KF0, HB⟩
        case measure => simp [slLen]; omega
    | false =>
      rcases ql with _ | ⟨⟨xc, xo, ⟨xa, xb, xd, xs⟩⟩, r⟩
      case cons =>
        have hrl : r.length < 1000 := by simp only [List.length_cons] at hql; omega
        obtain ⟨rn, hrn⟩ : ∃ n, r.length = n := ⟨_, rfl⟩
        have HRN := Lib.hid hrn
        clear hrn hql
        obtain ⟨⟨MBc0, MBc1, MBc2, MBc3, MBc4, MBc5⟩, ⟨MBf0, MBf1, MBf2, MBf3, MBf4, MBf5⟩⟩ := blk6 MB.out
        obtain ⟨⟨LBc0, LBc1, LBc2, LBc3, LBc4, LBc5, LBc6⟩, ⟨LBf0, LBf1, LBf2, LBf3, LBf4, LBf5, LBf6⟩⟩ := blk7 LB.out
        go_wp2_with fail
        clear MBc0 MBc1 MBc2 MBc3 MBc4 MBc5 MBf0 MBf1 MBf2 MBf3 MBf4 MBf5 LBc0 LBc1 LBc2 LBc3 LBc4 LBc5 LBc6 LBf0 LBf1 LBf2 LBf3 LBf4 LBf5 LBf6 t1
        refine (lnext_d (KQ0.out.chgs HB.out) (HT.out _ HB.out) seq tok at' dg ca cb cd ce now la rfl hrl).mono ?_
        rintro e w101 ⟨u, rfl, hu, b101⟩
        replace CB := Lib.hid (upQ CB.out b101)
        replace LB := Lib.hid (upQ LB.out b101)
        replace RB := Lib.hid (upQ RB.out b101)
        replace MB := Lib.hid (upQ MB.out b101)
        replace KQ0 := Lib.hid (KQ.later KQ0.out b101)
        replace HBr := Lib.hid (below2Z HBr.out b101)
        replace KF0 := Lib.hid (KF.later KF0.out b101)
        replace HB := Lib.hid (below2Z HB.out b101)
        obtain ⟨a2, c2, rfl⟩ := ownQ_shapeL hu HRN.out
        have QN : Hid (KQ w _ _ r) := Lib.hid (.inr (ownS_low hu hwr))
        clear hu
        clear b101
        have hlb := (Array.getElem?_eq_some_iff.1 LB.out).1
        have hrb := (Array.getElem?_eq_some_iff.1 RB.out).1
        have hmm := (Array.getElem?_eq_some_iff.1 MB.out).1
        have hxfr := HBr.out.size
        have b102 := bl_newZ w101 (.cells #[.int .i64 1, .int .i64 0, .bool xo, .string ⟨xc.toArray⟩, .int .i64 xa, .int .i64 xb, .int .i64 xd, .string ⟨xs.toArray⟩, .int .u64 0, .slice none 0 0] 60)
        have XF := newQ w101 (.cells #[.int .i64 1, .int .i64 0, .bool xo, .string ⟨xc.toArray⟩, .int .i64 xa, .int .i64 xb, .int .i64 xd, .string ⟨xs.toArray⟩, .int .u64 0, .slice none 0 0] 60)
        have hXF : w.heap.size ≤ w101.heap.size := HB.out.size
        replace CB := Lib.hid (upQ CB.out b102)
        replace LB := Lib.hid (upQ LB.out b102)
        replace RB := Lib.hid (upQ RB.out b102)
        replace MB := Lib.hid (upQ MB.out b102)
        replace KQ0 := Lib.hid (KQ.later KQ0.out b102)
        replace HBr := Lib.hid (below2Z HBr.out b102)
        replace KF0 := Lib.hid (KF.later KF0.out b102)
        replace QN := Lib.hid (KQ.later QN.out b102)
        replace HB := Lib.hid (below2Z HB.out b102)
        clear b102
        replace XF := Lib.hid XF
        have b103 := bl_newZ (w101.alloc (.cells #[.int .i64 1, .int .i64 0, .bool xo, .string ⟨xc.toArray⟩, .int .i64 xa, .int .i64 xb, .int .i64 xd, .string ⟨xs.toArray⟩, .int .u64 0, .slice none 0 0] 60)) (.cells #[.int .i64 seq, .slice a2 rn c2, .bool la, .int .i64 tok, .int .i64 at', .bool false, .int .i64 dg] 30)
        have XL := newQ (w101.alloc (.cells #[.int .i64 1, .int .i64 0, .bool xo, .string ⟨xc.toArray⟩, .int .i64 xa, .int .i64 xb, .int .i64 xd, .string ⟨xs.toArray⟩, .int .u64 0, .slice none 0 0] 60)) (.cells #[.int .i64 seq, .slice a2 rn c2, .bool la, .int .i64 tok, .int .i64 at', .bool false, .int .i64 dg] 30)
        have hXL : w.heap.size ≤ (w101.alloc (.cells #[.int .i64 1, .int .i64 0, .bool xo, .string ⟨xc.toArray⟩, .int .i64 xa, .int .i64 xb, .int .i64 xd, .string ⟨xs.toArray⟩, .int .u64 0, .slice none 0 0] 60)).heap.size := HB.out.size
        rw [World.size_alloc] at XL hXL
        replace CB := Lib.hid (upQ CB.out b103)
        replace LB := Lib.hid (upQ LB.out b103)
        replace RB := Lib.hid (upQ RB.out b103)
        replace MB := Lib.hid (upQ MB.out b103)
        replace XF := Lib.hid (upQ XF.out b103)
        replace KQ0 := Lib.hid (KQ.later KQ0.out b103)
        replace HBr := Lib.hid (below2Z HBr.out b103)
        replace KF0 := Lib.hid (KF.later KF0.out b103)
        replace QN := Lib.hid (KQ.later QN.out b103)
        replace HB := Lib.hid (below2Z HB.out b103)
        clear b103
        replace XL := Lib.hid XL
        go_upto_region 8 with fail
        generalize (w101.alloc (.cells #[.int .i64 1, .int .i64 0, .bool xo, .string ⟨xc.toArray⟩, .int .i64 xa, .int .i64 xb, .int .i64 xd, .string ⟨xs.toArray⟩, .int .u64 0, .slice none 0 0] 60)).alloc (.cells #[.int .i64 seq, .slice a2 rn c2, .bool la, .int .i64 tok, .int .i64 at', .bool false, .int .i64 dg] 30) = w104 at CB LB RB MB XF XL KQ0 HBr KF0 QN HB ⊢
        obtain ⟨⟨CBc0, CBc1, CBc2, CBc3⟩, ⟨CBf0, CBf1, CBf2, CBf3⟩⟩ := blk4 CB.out
        obtain ⟨⟨LBc0, LBc1, LBc2, LBc3, LBc4, LBc5, LBc6⟩, ⟨LBf0, LBf1, LBf2, LBf3, LBf4, LBf5, LBf6⟩⟩ := blk7 LB.out
        go_wp2_with fail
        clear CBc0 CBc1 CBc2 CBc3 CBf0 CBf1 CBf2 CBf3 LBc0 LBc1 LBc2 LBc3 LBc4 LBc5 LBc6 LBf0 LBf1 LBf2 LBf3 LBf4 LBf5 LBf6
        refine (ptake_any ca cb cd ce tok at' now HP _).mono ?_
        rintro e w105 ⟨rfl, b105⟩
        replace CB := Lib.hid (upQ CB.out b105)
        replace LB := Lib.hid (upQ LB.out b105)
        replace RB := Lib.hid (upQ RB.out b105)
        replace MB := Lib.hid (upQ MB.out b105)
        replace XF := Lib.hid (upQ XF.out b105)
        replace XL := Lib.hid (upQ XL.out b105)
        replace KQ0 := Lib.hid (KQ.later KQ0.out b105)
        replace HBr := Lib.hid (below2Z HBr.out b105)
        replace KF0 := Lib.hid (KF.later KF0.out b105)
        replace QN := Lib.hid (KQ.later QN.out b105)
        replace HB := Lib.hid (below2Z HB.out b105)
        clear b105
        have hxl := (Array.getElem?_eq_some_iff.1 XL.out).1
        cases is with
        | false =>
          clear QN
          have b156 := bl_newZ w105 (.cells #[.int .i64 bx, .int .i64 bt] 28)
          have XB := newQ w105 (.cells #[.int .i64 bx, .int .i64 bt] 28)
          have hXB : w.heap.size ≤ w105.heap.size := HB.out.size
          replace CB := Lib.hid (upQ CB.out b156)
          replace LB := Lib.hid (upQ LB.out b156)
          replace RB := Lib.hid (upQ RB.out b156)
          replace MB := Lib.hid (upQ MB.out b156)
          replace XF := Lib.hid (upQ XF.out b156)
          replace XL := Lib.hid (upQ XL.out b156)
          replace KQ0 := Lib.hid (KQ.later KQ0.out b156)
          replace HBr := Lib.hid (below2Z HBr.out b156)
          replace KF0 := Lib.hid (KF.later KF0.out b156)
          replace HB := Lib.hid (below2Z HB.out b156)
          clear b156
          replace XB := Lib.hid XB
          go_upto_region 15 with fail
          generalize w105.alloc (.cells #[.int .i64 bx, .int .i64 bt] 28) = w157 at CB LB RB MB XF XL XB KQ0 HBr KF0 HB ⊢
          have hend := emp_end HE.out (stp_tok HP.out)
          rw [HR.out] at hend
          simp only [Prod.mk.injEq] at hend
          obtain ⟨rfl, rfl⟩ := hend
          clear HE HR
          obtain ⟨⟨LBc0, LBc1, LBc2, LBc3, LBc4, LBc5, LBc6⟩, ⟨LBf0, LBf1, LBf2, LBf3, LBf4, LBf5, LBf6⟩⟩ := blk7 LB.out
          obtain ⟨⟨RBc0, RBc1, RBc2, RBc3, RBc4, RBc5, RBc6⟩, ⟨RBf0, RBf1, RBf2, RBf3, RBf4, RBf5, RBf6⟩⟩ := blk7 RB.out
          go_wp2_with fail
          have hz := stN7_heap RB.out (.int .i64 seq) (.slice qa qn qc) (.bool la) (.int .i64 tok) (.int .i64 at') (.bool false) (.int .i64 dg)
          have KQz := KQ0.out.past RB.out (by decide) (fun k hk => stN7_far w157 (w.heap.size + 1 + 1) (.int .i64 seq) (.slice qa qn qc) (.bool la) (.int .i64 tok) (.int .i64 at') (.bool false) (.int .i64 dg) hk)
          have KFz := KF0.out.past RB.out (by decide) (by decide) (fun k hk => stN7_far w157 (w.heap.size + 1 + 1) (.int .i64 seq) (.slice qa qn qc) (.bool la) (.int .i64 tok) (.int .i64 at') (.bool false) (.int .i64 dg) hk)
          have HBz := stN7_below HB.out hle2 (.int .i64 seq) (.slice qa qn qc) (.bool la) (.int .i64 tok) (.int .i64 at') (.bool false) (.int .i64 dg)
          obtain ⟨⟨z0, z1, z2, z3, z4, z5, z6⟩, -⟩ := blk7 hz
          unfold stN7 at z0 z1 z2 z3 z4 z5 z6
          refine bodyPost_ret (v := .tuple #[.agg #[.int .i64 seq, .slice qa qn qc, .bool la, .int .i64 tok, .int .i64 at', .bool false, .int .i64 dg], .slice fa ps.length fc]) (by simp [results, Tryz.results23, go_sem, z0, z1, z2, z3, z4, z5, z6]) rfl ⟨_, _, ps, rfl, KQz.chgs HBz, KFz, rfl, HBz⟩
        | true =>
          obtain ⟨he2, hpl⟩ := emp_step HE.out h2.out h3.out (stp_d hsq HP.out)
          rw [List.length_map] at hpl
          have HE2 := Lib.hid he2
          clear he2 HE HP
          have b106 := bl_newZ w105 (.cells #[.int .i64 bx, .int .i64 bt] 28)
          have XB := newQ w105 (.cells #[.int .i64 bx, .int .i64 bt] 28)
          have hXB : w.heap.size ≤ w105.heap.size := HB.out.size
          replace CB := Lib.hid (upQ CB.out b106)
          replace LB := Lib.hid (upQ LB.out b106)
          replace RB := Lib.hid (upQ RB.out b106)
          replace MB := Lib.hid (upQ MB.out b106)
          replace XF := Lib.hid (upQ XF.out b106)
          replace XL := Lib.hid (upQ XL.out b106)
          replace KQ0 := Lib.hid (KQ.later KQ0.out b106)
          replace HBr := Lib.hid (below2Z HBr.out b106)
          replace KF0 := Lib.hid (KF.later KF0.out b106)
          replace QN := Lib.hid (KQ.later QN.out b106)
          replace HB := Lib.hid (below2Z HB.out b106)
          clear b106
          replace XB := Lib.hid XB
          go_upto_region 10 with fail
          generalize w105.alloc (.cells #[.int .i64 bx, .int .i64 bt] 28) = w107 at CB LB RB MB XF XL XB KQ0 HBr KF0 QN HB ⊢
          obtain ⟨⟨LBc0, LBc1, LBc2, LBc3, LBc4, LBc5, LBc6⟩, ⟨LBf0, LBf1, LBf2, LBf3, LBf4, LBf5, LBf6⟩⟩ := blk7 LB.out
          obtain ⟨⟨XFc0, XFc1, XFc2, XFc3, XFc4, XFc5, XFc6, XFc7, XFc8, XFc9⟩, ⟨XFf0, XFf1, XFf2, XFf3, XFf4, XFf5, XFf6, XFf7, XFf8, XFf9⟩⟩ := blk10 XF.out
          go_upto_region 11 with fail
          clear LBc0 LBc1 LBc2 LBc3 LBc4 LBc5 LBc6 LBf0 LBf1 LBf2 LBf3 LBf4 LBf5 LBf6 XFc0 XFc1 XFc2 XFc3 XFc4 XFc5 XFc6 XFc7 XFc8 XFc9 XFf0 XFf1 XFf2 XFf3 XFf4 XFf5 XFf6 XFf7 XFf8 XFf9
          have hfar0 : ∀ k, ¬ k = w101.heap.size → (w107.setCell ⟨w101.heap.size, 1, none⟩ (.int .i64 seq)).heap[k]? = w107.heap[k]? := fun k hk => by rw [Below.heap_setCell _ _ _ k hk]
          have CBz : Hid ((w107.setCell ⟨w101.heap.size, 1, none⟩ (.int .i64 seq)).heap[w.heap.size]? = some (.cells #[.int .i64 ca, .int .i64 cb, .int .i64 cd, .int .i64 ce] 23 (0, 0))) := Lib.hid ((hfar0 (w.heap.size) (blk_ne CB.out XF.out (by decide))).trans CB.out)
          have LBz : Hid ((w107.setCell ⟨w101.heap.size, 1, none⟩ (.int .i64 seq)).heap[w.heap.size + 1]? = some (.cells #[.int .i64 seq, .slice qa qn qc, .bool la, .int .i64 tok, .int .i64 at', .bool false, .int .i64 dg] 30 (0, 0))) := Lib.hid ((hfar0 (w.heap.size + 1) (blk_ne LB.out XF.out (by decide))).trans LB.out)
          have RBz : Hid ((w107.setCell ⟨w101.heap.size, 1, none⟩ (.int .i64 seq)).heap[w.heap.size + 1 + 1]? = some (.cells #[.int .i64 0, .slice none 0 0, .bool false, .int .i64 0, .int .i64 0, .bool false, .int .i64 0] 30 (0, 0))) := Lib.hid ((hfar0 (w.heap.size + 1 + 1) (blk_ne RB.out XF.out (by decide))).trans RB.out)
          have MBz : Hid ((w107.setCell ⟨w101.heap.size, 1, none⟩ (.int .i64 seq)).heap[mbn]? = some (.cells #[.int .i64 ca, .int .i64 cb, .int .i64 cd, .int .i64 ce, .slice ta vn tc, .int .i64 now] 77 (0, 0))) := Lib.hid ((hfar0 (mbn) (blk_ne MB.out XF.out (by decide))).trans MB.out)
          have XFz : Hid ((w107.setCell ⟨w101.heap.size, 1, none⟩ (.int .i64 seq)).heap[w101.heap.size]? = some (.cells #[.int .i64 1, .int .i64 seq, .bool xo, .string ⟨xc.toArray⟩, .int .i64 xa, .int .i64 xb, .int .i64 xd, .string ⟨xs.toArray⟩, .int .u64 0, .slice none 0 0] 60 (0, 0))) := Lib.hid (heap_setCell_same _ (w101.heap.size) 1 _ _ (.int .i64 seq) XF.out)
          have XLz : Hid ((w107.setCell ⟨w101.heap.size, 1, none⟩ (.int .i64 seq)).heap[w101.heap.size + 1]? = some (.cells #[.int .i64 seq, .slice a2 rn c2, .bool la, .int .i64 tok, .int .i64 at', .bool false, .int .i64 dg] 30 (0, 0))) := Lib.hid ((hfar0 (w101.heap.size + 1) (blk_ne XL.out XF.out (by decide))).trans XL.out)
          have XBz : Hid ((w107.setCell ⟨w101.heap.size, 1, none⟩ (.int .i64 seq)).heap[w105.heap.size]? = some (.cells #[.int .i64 bx, .int .i64 bt] 28 (0, 0))) := Lib.hid ((hfar0 (w105.heap.size) (blk_ne XB.out XF.out (by decide))).trans XB.out)
          have KQ0z : Hid (KQ w (w107.setCell ⟨w101.heap.size, 1, none⟩ (.int .i64 seq)) (.slice qa qn qc) (⟨xc, xo, ⟨xa, xb, xd, xs⟩⟩ :: r)) := Lib.hid (KQ0.out.past XF.out (by decide) hfar0)
          have HBrz : Hid (Below wr.heap.size wr (w107.setCell ⟨w101.heap.size, 1, none⟩ (.int .i64 seq))) := Lib.hid (HBr.out.setCell hxfr _)
          have KF0z : Hid (KF w (w107.setCell ⟨w101.heap.size, 1, none⟩ (.int .i64 seq)) (.slice fa ps.length fc) ps) := Lib.hid (KFr.out.later HBrz.out)
          have QNz : Hid (KQ w (w107.setCell ⟨w101.heap.size, 1, none⟩ (.int .i64 seq)) (.slice a2 rn c2) r) := Lib.hid (QN.out.past XF.out (by decide) hfar0)
          have HBz : Hid (Below w.heap.size w (w107.setCell ⟨w101.heap.size, 1, none⟩ (.int .i64 seq))) := Lib.hid (HB.out.setCell hXF _)
          clear CB LB RB MB XF XL XB KQ0 HBr KF0 QN HB hfar0
          generalize w107.setCell ⟨w101.heap.size, 1, none⟩ (.int .i64 seq) = w108 at CBz LBz RBz MBz XFz XLz XBz KQ0z HBrz KF0z QNz HBz ⊢
          have CB := CBz
          have LB := LBz
          have RB := RBz
          have MB := MBz
          have XF := XFz
          have XL := XLz
          have XB := XBz
          have KQ0 := KQ0z
          have HBr := HBrz
          have KF0 := KF0z
          have QN := QNz
          have HB := HBz
          clear CBz LBz RBz MBz XFz XLz XBz KQ0z HBrz KF0z QNz HBz
          obtain ⟨⟨XFc0, XFc1, XFc2, XFc3, XFc4, XFc5, XFc6, XFc7, XFc8, XFc9⟩, ⟨XFf0, XFf1, XFf2, XFf3, XFf4, XFf5, XFf6, XFf7, XFf8, XFf9⟩⟩ := blk10 XF.out
          have b109 := bl_newZ w108 (.cells #[.int .i64 1, .int .i64 seq, .bool xo, .string ⟨xc.toArray⟩, .int .i64 xa, .int .i64 xb, .int .i64 xd, .string ⟨xs.toArray⟩, .int .u64 0, .slice none 0 0] 60)
          have XA := newQ w108 (.cells #[.int .i64 1, .int .i64 seq, .bool xo, .string ⟨xc.toArray⟩, .int .i64 xa, .int .i64 xb, .int .i64 xd, .string ⟨xs.toArray⟩, .int .u64 0, .slice none 0 0] 60)
          have hXA : w.heap.size ≤ w108.heap.size := HB.out.size
          replace CB := Lib.hid (upQ CB.out b109)
          replace LB := Lib.hid (upQ LB.out b109)
          replace RB := Lib.hid (upQ RB.out b109)
          replace MB := Lib.hid (upQ MB.out b109)
          replace XF := Lib.hid (upQ XF.out b109)
          replace XL := Lib.hid (upQ XL.out b109)
          replace XB := Lib.hid (upQ XB.out b109)
          replace KQ0 := Lib.hid (KQ.later KQ0.out b109)
          replace HBr := Lib.hid (below2Z HBr.out b109)
          replace KF0 := Lib.hid (KF.later KF0.out b109)
          replace QN := Lib.hid (KQ.later QN.out b109)
          replace HB := Lib.hid (below2Z HB.out b109)
          clear b109
          replace XA := Lib.hid XA
          have SRC := srcS_new (vals := frVals) (w := w108) (r := (⟨⟨1, seq, xo, xc, ⟨xa, xb, xd, xs⟩, 0, []⟩, none, 0, 0⟩ : FrS)) (cs := #[.int .i64 1, .int .i64 seq, .bool xo, .string ⟨xc.toArray⟩, .int .i64 xa, .int .i64 xb, .int .i64 xd, .string ⟨xs.toArray⟩, .int .u64 0, .slice none 0 0]) rfl (e := 60) (B := w108.heap.size) rfl _ rfl
          have KTP : KT w (w108.alloc (.cells #[.int .i64 1, .int .i64 seq, .bool xo, .string ⟨xc.toArray⟩, .int .i64 xa, .int .i64 xb, .int .i64 xd, .string ⟨xs.toArray⟩, .int .u64 0, .slice none 0 0] 60)) (⟨⟨1, seq, xo, xc, ⟨xa, xb, xd, xs⟩, 0, []⟩, none, 0, 0⟩ : FrS) := .inl ⟨rfl, rfl⟩
          go_wp2_with (at_builtin; go_must (refine wpList_append_fr rfl (.tmp 60) (.tmp 62) rfl w.heap.size _ ps rfl (by exact KF0.out.1) ⟨w108.heap.size, 0, none⟩ (⟨⟨1, seq, xo, xc, ⟨xa, xb, xd, xs⟩, 0, []⟩, none, 0, 0⟩ : FrS) rfl SRC (by omega) HB.out.size ?_))
          intro fv w110 ho hbl hfar
          have CBz := Lib.hid (blk_app CB.out KF0.out.1 (by decide) hfar)
          have LBz := Lib.hid (blk_app LB.out KF0.out.1 (by decide) hfar)
          have RBz := Lib.hid (blk_app RB.out KF0.out.1 (by decide) hfar)
          have MBz := Lib.hid (blk_app MB.out KF0.out.1 (by decide) hfar)
          have XLz := Lib.hid (blk_app XL.out KF0.out.1 (by decide) hfar)
          have XBz := Lib.hid (blk_app XB.out KF0.out.1 (by decide) hfar)
          have KQ0z := Lib.hid (KQ0.out.app KF0.out.1 hfar)
          have KF0z := Lib.hid (KF0.out.more KTP ho hfar)
          have HBz := Lib.hid (HB.out.trans hbl)
          have QNz := Lib.hid (QN.out.app KF0.out.1 hfar)
          clear XFc0 XFc1 XFc2 XFc3 XFc4 XFc5 XFc6 XFc7 XFc8 XFc9 XFf0 XFf1 XFf2 XFf3 XFf4 XFf5 XFf6 XFf7 XFf8 XFf9 CB LB RB MB XL XB KQ0 KF0 HB QN XF XA SRC KTP ho hbl hfar HBr KFr hxfr
          have CB := CBz
          have LB := LBz
          have RB := RBz
          have MB := MBz
          have XL := XLz
          have XB := XBz
          have KQ0 := KQ0z
          have KF0 := KF0z
          have HB := HBz
          have QN := QNz
          clear CBz LBz RBz MBz XLz XBz KQ0z KF0z HBz QNz
          obtain ⟨fa2, fc2, rfl⟩ := kf_shape KF0.out
          clear KQ0
          have KQ0 := QN
          clear QN
          obtain ⟨⟨XLc0, XLc1, XLc2, XLc3, XLc4, XLc5, XLc6⟩, ⟨XLf0, XLf1, XLf2, XLf3, XLf4, XLf5, XLf6⟩⟩ := blk7 XL.out
          obtain ⟨⟨LBc0, LBc1, LBc2, LBc3, LBc4, LBc5, LBc6⟩, ⟨LBf0, LBf1, LBf2, LBf3, LBf4, LBf5, LBf6⟩⟩ := blk7 LB.out
          go_upto_region 13 with fail
          clear XLc0 XLc1 XLc2 XLc3 XLc4 XLc5 XLc6 XLf0 XLf1 XLf2 XLf3 XLf4 XLf5 XLf6 LBc0 LBc1 LBc2 LBc3 LBc4 LBc5 LBc6 LBf0 LBf1 LBf2 LBf3 LBf4 LBf5 LBf6
          have hfar0 : ∀ k, ¬ k = w.heap.size + 1 → (((((((w110.setCell ⟨w.heap.size + 1, 0, none⟩ (.int .i64 seq)).setCell ⟨w.heap.size + 1, 1, none⟩ (.slice a2 rn c2)).setCell ⟨w.heap.size + 1, 2, none⟩ (.bool la)).setCell ⟨w.heap.size + 1, 3, none⟩ (.int .i64 tok)).setCell ⟨w.heap.size + 1, 4, none⟩ (.int .i64 at')).setCell ⟨w.heap.size + 1, 5, none⟩ (.bool false)).setCell ⟨w.heap.size + 1, 6, none⟩ (.int .i64 dg)).heap[k]? = w110.heap[k]? := fun k hk => by rw [Below.heap_setCell _ _ _ k hk, Below.heap_setCell _ _ _ k hk, Below.heap_setCell _ _ _ k hk, Below.heap_setCell _ _ _ k hk, Below.heap_setCell _ _ _ k hk, Below.heap_setCell _ _ _ k hk, Below.heap_setCell _ _ _ k hk]
          have CBz : Hid ((((((((w110.setCell ⟨w.heap.size + 1, 0, none⟩ (.int .i64 seq)).setCell ⟨w.heap.size + 1, 1, none⟩ (.slice a2 rn c2)).setCell ⟨w.heap.size + 1, 2, none⟩ (.bool la)).setCell ⟨w.heap.size + 1, 3, none⟩ (.int .i64 tok)).setCell ⟨w.heap.size + 1, 4, none⟩ (.int .i64 at')).setCell ⟨w.heap.size + 1, 5, none⟩ (.bool false)).setCell ⟨w.heap.size + 1, 6, none⟩ (.int .i64 dg)).heap[w.heap.size]? = some (.cells #[.int .i64 ca, .int .i64 cb, .int .i64 cd, .int .i64 ce] 23 (0, 0))) := Lib.hid ((hfar0 (w.heap.size) (blk_ne CB.out LB.out (by decide))).trans CB.out)
          have LBz : Hid ((((((((w110.setCell ⟨w.heap.size + 1, 0, none⟩ (.int .i64 seq)).setCell ⟨w.heap.size + 1, 1, none⟩ (.slice a2 rn c2)).setCell ⟨w.heap.size + 1, 2, none⟩ (.bool la)).setCell ⟨w.heap.size + 1, 3, none⟩ (.int .i64 tok)).setCell ⟨w.heap.size + 1, 4, none⟩ (.int .i64 at')).setCell ⟨w.heap.size + 1, 5, none⟩ (.bool false)).setCell ⟨w.heap.size + 1, 6, none⟩ (.int .i64 dg)).heap[w.heap.size + 1]? = some (.cells #[.int .i64 seq, .slice a2 rn c2, .bool la, .int .i64 tok, .int .i64 at', .bool false, .int .i64 dg] 30 (0, 0))) := Lib.hid (heap_setCell_same _ (w.heap.size + 1) 6 _ _ (.int .i64 dg) (heap_setCell_same _ (w.heap.size + 1) 5 _ _ (.bool false) (heap_setCell_same _ (w.heap.size + 1) 4 _ _ (.int .i64 at') (heap_setCell_same _ (w.heap.size + 1) 3 _ _ (.int .i64 tok) (heap_setCell_same _ (w.heap.size + 1) 2 _ _ (.bool la) (heap_setCell_same _ (w.heap.size + 1) 1 _ _ (.slice a2 rn c2) (heap_setCell_same _ (w.heap.size + 1) 0 _ _ (.int .i64 seq) LB.out)))))))
          have RBz : Hid ((((((((w110.setCell ⟨w.heap.size + 1, 0, none⟩ (.int .i64 seq)).setCell ⟨w.heap.size + 1, 1, none⟩ (.slice a2 rn c2)).setCell ⟨w.heap.size + 1, 2, none⟩ (.bool la)).setCell ⟨w.heap.size + 1, 3, none⟩ (.int .i64 tok)).setCell ⟨w.heap.size + 1, 4, none⟩ (.int .i64 at')).setCell ⟨w.heap.size + 1, 5, none⟩ (.bool false)).setCell ⟨w.heap.size + 1, 6, none⟩ (.int .i64 dg)).heap[w.heap.size + 1 + 1]? = some (.cells #[.int .i64 0, .slice none 0 0, .bool false, .int .i64 0, .int .i64 0, .bool false, .int .i64 0] 30 (0, 0))) := Lib.hid ((hfar0 (w.heap.size + 1 + 1) (by omega)).trans RB.out)
          have MBz : Hid ((((((((w110.setCell ⟨w.heap.size + 1, 0, none⟩ (.int .i64 seq)).setCell ⟨w.heap.size + 1, 1, none⟩ (.slice a2 rn c2)).setCell ⟨w.heap.size + 1, 2, none⟩ (.bool la)).setCell ⟨w.heap.size + 1, 3, none⟩ (.int .i64 tok)).setCell ⟨w.heap.size + 1, 4, none⟩ (.int .i64 at')).setCell ⟨w.heap.size + 1, 5, none⟩ (.bool false)).setCell ⟨w.heap.size + 1, 6, none⟩ (.int .i64 dg)).heap[mbn]? = some (.cells #[.int .i64 ca, .int .i64 cb, .int .i64 cd, .int .i64 ce, .slice ta vn tc, .int .i64 now] 77 (0, 0))) := Lib.hid ((hfar0 (mbn) (blk_ne MB.out LB.out (by decide))).trans MB.out)
          have XLz : Hid ((((((((w110.setCell ⟨w.heap.size + 1, 0, none⟩ (.int .i64 seq)).setCell ⟨w.heap.size + 1, 1, none⟩ (.slice a2 rn c2)).setCell ⟨w.heap.size + 1, 2, none⟩ (.bool la)).setCell ⟨w.heap.size + 1, 3, none⟩ (.int .i64 tok)).setCell ⟨w.heap.size + 1, 4, none⟩ (.int .i64 at')).setCell ⟨w.heap.size + 1, 5, none⟩ (.bool false)).setCell ⟨w.heap.size + 1, 6, none⟩ (.int .i64 dg)).heap[w101.heap.size + 1]? = some (.cells #[.int .i64 seq, .slice a2 rn c2, .bool la, .int .i64 tok, .int .i64 at', .bool false, .int .i64 dg] 30 (0, 0))) := Lib.hid ((hfar0 (w101.heap.size + 1) (by omega)).trans XL.out)
          have XBz : Hid ((((((((w110.setCell ⟨w.heap.size + 1, 0, none⟩ (.int .i64 seq)).setCell ⟨w.heap.size + 1, 1, none⟩ (.slice a2 rn c2)).setCell ⟨w.heap.size + 1, 2, none⟩ (.bool la)).setCell ⟨w.heap.size + 1, 3, none⟩ (.int .i64 tok)).setCell ⟨w.heap.size + 1, 4, none⟩ (.int .i64 at')).setCell ⟨w.heap.size + 1, 5, none⟩ (.bool false)).setCell ⟨w.heap.size + 1, 6, none⟩ (.int .i64 dg)).heap[w105.heap.size]? = some (.cells #[.int .i64 bx, .int .i64 bt] 28 (0, 0))) := Lib.hid ((hfar0 (w105.heap.size) (blk_ne XB.out LB.out (by decide))).trans XB.out)
          have KQ0z : Hid (KQ w (((((((w110.setCell ⟨w.heap.size + 1, 0, none⟩ (.int .i64 seq)).setCell ⟨w.heap.size + 1, 1, none⟩ (.slice a2 rn c2)).setCell ⟨w.heap.size + 1, 2, none⟩ (.bool la)).setCell ⟨w.heap.size + 1, 3, none⟩ (.int .i64 tok)).setCell ⟨w.heap.size + 1, 4, none⟩ (.int .i64 at')).setCell ⟨w.heap.size + 1, 5, none⟩ (.bool false)).setCell ⟨w.heap.size + 1, 6, none⟩ (.int .i64 dg)) (.slice a2 rn c2) r) := Lib.hid (KQ0.out.past LB.out (by decide) hfar0)
          have KF0z : Hid (KF w (((((((w110.setCell ⟨w.heap.size + 1, 0, none⟩ (.int .i64 seq)).setCell ⟨w.heap.size + 1, 1, none⟩ (.slice a2 rn c2)).setCell ⟨w.heap.size + 1, 2, none⟩ (.bool la)).setCell ⟨w.heap.size + 1, 3, none⟩ (.int .i64 tok)).setCell ⟨w.heap.size + 1, 4, none⟩ (.int .i64 at')).setCell ⟨w.heap.size + 1, 5, none⟩ (.bool false)).setCell ⟨w.heap.size + 1, 6, none⟩ (.int .i64 dg)) (.slice fa2 (ps ++ [(⟨⟨1, seq, xo, xc, ⟨xa, xb, xd, xs⟩, 0, []⟩, none, 0, 0⟩ : FrS)]).length fc2) (ps ++ [(⟨⟨1, seq, xo, xc, ⟨xa, xb, xd, xs⟩, 0, []⟩, none, 0, 0⟩ : FrS)])) := Lib.hid (KF0.out.past LB.out (by decide) (by decide) hfar0)
          have HBz : Hid (Below w.heap.size w (((((((w110.setCell ⟨w.heap.size + 1, 0, none⟩ (.int .i64 seq)).setCell ⟨w.heap.size + 1, 1, none⟩ (.slice a2 rn c2)).setCell ⟨w.heap.size + 1, 2, none⟩ (.bool la)).setCell ⟨w.heap.size + 1, 3, none⟩ (.int .i64 tok)).setCell ⟨w.heap.size + 1, 4, none⟩ (.int .i64 at')).setCell ⟨w.heap.size + 1, 5, none⟩ (.bool false)).setCell ⟨w.heap.size + 1, 6, none⟩ (.int .i64 dg))) := Lib.hid (((((((HB.out.setCell hle1 _).setCell hle1 _).setCell hle1 _).setCell hle1 _).setCell hle1 _).setCell hle1 _).setCell hle1 _)
          clear CB LB RB MB XL XB KQ0 KF0 HB hfar0
          generalize ((((((w110.setCell ⟨w.heap.size + 1, 0, none⟩ (.int .i64 seq)).setCell ⟨w.heap.size + 1, 1, none⟩ (.slice a2 rn c2)).setCell ⟨w.heap.size + 1, 2, none⟩ (.bool la)).setCell ⟨w.heap.size + 1, 3, none⟩ (.int .i64 tok)).setCell ⟨w.heap.size + 1, 4, none⟩ (.int .i64 at')).setCell ⟨w.heap.size + 1, 5, none⟩ (.bool false)).setCell ⟨w.heap.size + 1, 6, none⟩ (.int .i64 dg) = w111 at CBz LBz RBz MBz XLz XBz KQ0z KF0z HBz ⊢
          have CB := CBz
          have LB := LBz
          have RB := RBz
          have MB := MBz
          have XL := XLz
          have XB := XBz
          have KQ0 := KQ0z
          have KF0 := KF0z
          have HB := HBz
          clear CBz LBz RBz MBz XLz XBz KQ0z KF0z HBz
          clear XL
          obtain ⟨⟨XBc0, XBc1⟩, ⟨XBf0, XBf1⟩⟩ := blk2 XB.out
          obtain ⟨⟨LBc0, LBc1, LBc2, LBc3, LBc4, LBc5, LBc6⟩, ⟨LBf0, LBf1, LBf2, LBf3, LBf4, LBf5, LBf6⟩⟩ := blk7 LB.out
          go_upto_region 14 with fail
          clear XBc0 XBc1 XBf0 XBf1 LBc0 LBc1 LBc2 LBc3 LBc4 LBc5 LBc6 LBf0 LBf1 LBf2 LBf3 LBf4 LBf5 LBf6
          have hfar0 : ∀ k, ¬ k = w.heap.size + 1 → ((w111.setCell ⟨w.heap.size + 1, 3, none⟩ (.int .i64 bx)).setCell ⟨w.heap.size + 1, 4, none⟩ (.int .i64 bt)).heap[k]? = w111.heap[k]? := fun k hk => by rw [Below.heap_setCell _ _ _ k hk, Below.heap_setCell _ _ _ k hk]
          have CBz : Hid (((w111.setCell ⟨w.heap.size + 1, 3, none⟩ (.int .i64 bx)).setCell ⟨w.heap.size + 1, 4, none⟩ (.int .i64 bt)).heap[w.heap.size]? = some (.cells #[.int .i64 ca, .int .i64 cb, .int .i64 cd, .int .i64 ce] 23 (0, 0))) := Lib.hid ((hfar0 (w.heap.size) (blk_ne CB.out LB.out (by decide))).trans CB.out)
          have LBz : Hid (((w111.setCell ⟨w.heap.size + 1, 3, none⟩ (.int .i64 bx)).setCell ⟨w.heap.size + 1, 4, none⟩ (.int .i64 bt)).heap[w.heap.size + 1]? = some (.cells #[.int .i64 seq, .slice a2 rn c2, .bool la, .int .i64 bx, .int .i64 bt, .bool false, .int .i64 dg] 30 (0, 0))) := Lib.hid (heap_setCell_same _ (w.heap.size + 1) 4 _ _ (.int .i64 bt) (heap_setCell_same _ (w.heap.size + 1) 3 _ _ (.int .i64 bx) LB.out))
          have RBz : Hid (((w111.setCell ⟨w.heap.size + 1, 3, none⟩ (.int .i64 bx)).setCell ⟨w.heap.size + 1, 4, none⟩ (.int .i64 bt)).heap[w.heap.size + 1 + 1]? = some (.cells #[.int .i64 0, .slice none 0 0, .bool false, .int .i64 0, .int .i64 0, .bool false, .int .i64 0] 30 (0, 0))) := Lib.hid ((hfar0 (w.heap.size + 1 + 1) (by omega)).trans RB.out)
          have MBz : Hid (((w111.setCell ⟨w.heap.size + 1, 3, none⟩ (.int .i64 bx)).setCell ⟨w.heap.size + 1, 4, none⟩ (.int .i64 bt)).heap[mbn]? = some (.cells #[.int .i64 ca, .int .i64 cb, .int .i64 cd, .int .i64 ce, .slice ta vn tc, .int .i64 now] 77 (0, 0))) := Lib.hid ((hfar0 (mbn) (blk_ne MB.out LB.out (by decide))).trans MB.out)
          have XBz : Hid (((w111.setCell ⟨w.heap.size + 1, 3, none⟩ (.int .i64 bx)).setCell ⟨w.heap.size + 1, 4, none⟩ (.int .i64 bt)).heap[w105.heap.size]? = some (.cells #[.int .i64 bx, .int .i64 bt] 28 (0, 0))) := Lib.hid ((hfar0 (w105.heap.size) (blk_ne XB.out LB.out (by decide))).trans XB.out)
          have KQ0z : Hid (KQ w ((w111.setCell ⟨w.heap.size + 1, 3, none⟩ (.int .i64 bx)).setCell ⟨w.heap.size + 1, 4, none⟩ (.int .i64 bt)) (.slice a2 rn c2) r) := Lib.hid (KQ0.out.past LB.out (by decide) hfar0)
          have KF0z : Hid (KF w ((w111.setCell ⟨w.heap.size + 1, 3, none⟩ (.int .i64 bx)).setCell ⟨w.heap.size + 1, 4, none⟩ (.int .i64 bt)) (.slice fa2 (ps ++ [(⟨⟨1, seq, xo, xc, ⟨xa, xb, xd, xs⟩, 0, []⟩, none, 0, 0⟩ : FrS)]).length fc2) (ps ++ [(⟨⟨1, seq, xo, xc, ⟨xa, xb, xd, xs⟩, 0, []⟩, none, 0, 0⟩ : FrS)])) := Lib.hid (KF0.out.past LB.out (by decide) (by decide) hfar0)
          have HBz : Hid (Below w.heap.size w ((w111.setCell ⟨w.heap.size + 1, 3, none⟩ (.int .i64 bx)).setCell ⟨w.heap.size + 1, 4, none⟩ (.int .i64 bt))) := Lib.hid ((HB.out.setCell hle1 _).setCell hle1 _)
          clear CB LB RB MB XB KQ0 KF0 HB hfar0
          generalize (w111.setCell ⟨w.heap.size + 1, 3, none⟩ (.int .i64 bx)).setCell ⟨w.heap.size + 1, 4, none⟩ (.int .i64 bt) = w112 at CBz LBz RBz MBz XBz KQ0z KF0z HBz ⊢
          have CB := CBz
          have LB := LBz
          have RB := RBz
          have MB := MBz
          have XB := XBz
          have KQ0 := KQ0z
          have KF0 := KF0z
          have HB := HBz
          clear CBz LBz RBz MBz XBz KQ0z KF0z HBz
          clear XB
          obtain ⟨⟨LBc0, LBc1, LBc2, LBc3, LBc4, LBc5, LBc6⟩, ⟨LBf0, LBf1, LBf2, LBf3, LBf4, LBf5, LBf6⟩⟩ := blk7 LB.out
          go_wp2_with fail
          clear LBc0 LBc1 LBc2 LBc3 LBc4 LBc5 LBc6 LBf0 LBf1 LBf2 LBf3 LBf4 LBf5 LBf6
          have hfar0 : ∀ k, ¬ k = w.heap.size + 1 → (w112.setCell ⟨w.heap.size + 1, 0, none⟩ (.int .i64 (seq + 1))).heap[k]? = w112.heap[k]? := fun k hk => by rw [Below.heap_setCell _ _ _ k hk]
          have CBz : Hid ((w112.setCell ⟨w.heap.size + 1, 0, none⟩ (.int .i64 (seq + 1))).heap[w.heap.size]? = some (.cells #[.int .i64 ca, .int .i64 cb, .int .i64 cd, .int .i64 ce] 23 (0, 0))) := Lib.hid ((hfar0 (w.heap.size) (blk_ne CB.out LB.out (by decide))).trans CB.out)
          have LBz : Hid ((w112.setCell ⟨w.heap.size + 1, 0, none⟩ (.int .i64 (seq + 1))).heap[w.heap.size + 1]? = some (.cells #[.int .i64 (seq + 1), .slice a2 rn c2, .bool la, .int .i64 bx, .int .i64 bt, .bool false, .int .i64 dg] 30 (0, 0))) := Lib.hid (heap_setCell_same _ (w.heap.size + 1) 0 _ _ (.int .i64 (seq + 1)) LB.out)
          have RBz : Hid ((w112.setCell ⟨w.heap.size + 1, 0, none⟩ (.int .i64 (seq + 1))).heap[w.heap.size + 1 + 1]? = some (.cells #[.int .i64 0, .slice none 0 0, .bool false, .int .i64 0, .int .i64 0, .bool false, .int .i64 0] 30 (0, 0))) := Lib.hid ((hfar0 (w.heap.size + 1 + 1) (by omega)).trans RB.out)
          have MBz : Hid ((w112.setCell ⟨w.heap.size + 1, 0, none⟩ (.int .i64 (seq + 1))).heap[mbn]? = some (.cells #[.int .i64 ca, .int .i64 cb, .int .i64 cd, .int .i64 ce, .slice ta vn tc, .int .i64 now] 77 (0, 0))) := Lib.hid ((hfar0 (mbn) (blk_ne MB.out LB.out (by decide))).trans MB.out)
          have KQ0z : Hid (KQ w (w112.setCell ⟨w.heap.size + 1, 0, none⟩ (.int .i64 (seq + 1))) (.slice a2 rn c2) r) := Lib.hid (KQ0.out.past LB.out (by decide) hfar0)
          have KF0z : Hid (KF w (w112.setCell ⟨w.heap.size + 1, 0, none⟩ (.int .i64 (seq + 1))) (.slice fa2 (ps ++ [(⟨⟨1, seq, xo, xc, ⟨xa, xb, xd, xs⟩, 0, []⟩, none, 0, 0⟩ : FrS)]).length fc2) (ps ++ [(⟨⟨1, seq, xo, xc, ⟨xa, xb, xd, xs⟩, 0, []⟩, none, 0, 0⟩ : FrS)])) := Lib.hid (KF0.out.past LB.out (by decide) (by decide) hfar0)
          have HBz : Hid (Below w.heap.size w (w112.setCell ⟨w.heap.size + 1, 0, none⟩ (.int .i64 (seq + 1)))) := Lib.hid (HB.out.setCell hle1 _)
          clear CB LB RB MB KQ0 KF0 HB hfar0
          have CB := CBz
          have LB := LBz
          have RB := RBz
          have MB := MBz
          have KQ0 := KQ0z
          have KF0 := KF0z
          have HB := HBz
          clear CBz LBz RBz MBz KQ0z KF0z HBz
          go_roundw
          case rel => exact ⟨seq + 1, bx, bt, dg, false, la, r, a2, rn, c2, ps ++ [(⟨⟨1, seq, xo, xc, ⟨xa, xb, xd, xs⟩, 0, []⟩, none, 0, 0⟩ : FrS)], fa2, fc2, n - 1, rfl, Lib.hid (by rw [List.map_append]; exact HE2.out), CB, LB, RB, MB, KQ0, KF0, HB⟩
          case measure => simp [slLen]; omega
      case nil =>
        by_cases hdue : now - dg < ce
        case neg =>
          have HDUE : Hid (ce ≤ now - dg) := Lib.hid (Int.not_lt.1 hdue)
          obtain ⟨⟨MBc0, MBc1, MBc2, MBc3, MBc4, MBc5⟩, ⟨MBf0, MBf1, MBf2, MBf3, MBf4, MBf5⟩⟩ := blk6 MB.out
          obtain ⟨⟨LBc0, LBc1, LBc2, LBc3, LBc4, LBc5, LBc6⟩, ⟨LBf0, LBf1, LBf2, LBf3, LBf4, LBf5, LBf6⟩⟩ := blk7 LB.out
          go_wp2_with fail
          clear MBc0 MBc1 MBc2 MBc3 MBc4 MBc5 MBf0 MBf1 MBf2 MBf3 MBf4 MBf5 LBc0 LBc1 LBc2 LBc3 LBc4 LBc5 LBc6 LBf0 LBf1 LBf2 LBf3 LBf4 LBf5 LBf6 t1
          refine (lnext_g (KQ0.out.chgs HB.out) (HT.out _ HB.out) seq tok at' dg ca cb cd ce now la rfl hn0 hn1 hd0 hd1 (Int.not_lt.2 HDUE.out) HH.out hvl).mono ?_
          rintro e w101 ⟨rfl, b101⟩
          replace CB := Lib.hid (upQ CB.out b101)
          replace LB := Lib.hid (upQ LB.out b101)
          replace RB := Lib.hid (upQ RB.out b101)
          replace MB := Lib.hid (upQ MB.out b101)
          replace KQ0 := Lib.hid (KQ.later KQ0.out b101)
          replace HBr := Lib.hid (below2Z HBr.out b101)
          replace KF0 := Lib.hid (KF.later KF0.out b101)
          replace HB := Lib.hid (below2Z HB.out b101)
          clear b101
          have hlb := (Array.getElem?_eq_some_iff.1 LB.out).1
          have hrb := (Array.getElem?_eq_some_iff.1 RB.out).1
          have hmm := (Array.getElem?_eq_some_iff.1 MB.out).1
          have hxfr := HBr.out.size
          have b102 := bl_newZ w101 (.cells #[.int .i64 2, .int .i64 0, .bool false, .string ⟨#[]⟩, .int .i64 0, .int .i64 0, .int .i64 0, .string ⟨#[]⟩, .int .u64 (diSum view), .slice none 0 0] 60)
          have XF := newQ w101 (.cells #[.int .i64 2, .int .i64 0, .bool false, .string ⟨#[]⟩, .int .i64 0, .int .i64 0, .int .i64 0, .string ⟨#[]⟩, .int .u64 (diSum view), .slice none 0 0] 60)
          have hXF : w.heap.size ≤ w101.heap.size := HB.out.size
          replace CB := Lib.hid (upQ CB.out b102)
          replace LB := Lib.hid (upQ LB.out b102)
          replace RB := Lib.hid (upQ RB.out b102)
          replace MB := Lib.hid (upQ MB.out b102)
          replace KQ0 := Lib.hid (KQ.later KQ0.out b102)
          replace HBr := Lib.hid (below2Z HBr.out b102)
          replace KF0 := Lib.hid (KF.later KF0.out b102)
          replace HB := Lib.hid (below2Z HB.out b102)
          clear b102
          replace XF := Lib.hid XF
          have b103 := bl_newZ (w101.alloc (.cells #[.int .i64 2, .int .i64 0, .bool false, .string ⟨#[]⟩, .int .i64 0, .int .i64 0, .int .i64 0, .string ⟨#[]⟩, .int .u64 (diSum view), .slice none 0 0] 60)) (.cells #[.int .i64 seq, .slice qa qn qc, .bool la, .int .i64 tok, .int .i64 at', .bool false, .int .i64 now] 30)
          have XL := newQ (w101.alloc (.cells #[.int .i64 2, .int .i64 0, .bool false, .string ⟨#[]⟩, .int .i64 0, .int .i64 0, .int .i64 0, .string ⟨#[]⟩, .int .u64 (diSum view), .slice none 0 0] 60)) (.cells #[.int .i64 seq, .slice qa qn qc, .bool la, .int .i64 tok, .int .i64 at', .bool false, .int .i64 now] 30)
          have hXL : w.heap.size ≤ (w101.alloc (.cells #[.int .i64 2, .int .i64 0, .bool false, .string ⟨#[]⟩, .int .i64 0, .int .i64 0, .int .i64 0, .string ⟨#[]⟩, .int .u64 (diSum view), .slice none 0 0] 60)).heap.size := HB.out.size
          rw [World.size_alloc] at XL hXL
          replace CB := Lib.hid (upQ CB.out b103)
          replace LB := Lib.hid (upQ LB.out b103)
          replace RB := Lib.hid (upQ RB.out b103)
          replace MB := Lib.hid (upQ MB.out b103)
          replace XF := Lib.hid (upQ XF.out b103)
          replace KQ0 := Lib.hid (KQ.later KQ0.out b103)
          replace HBr := Lib.hid (below2Z HBr.out b103)
          replace KF0 := Lib.hid (KF.later KF0.out b103)
          replace HB := Lib.hid (below2Z HB.out b103)
          clear b103
          replace XL := Lib.hid XL
          go_upto_region 8 with fail
          generalize (w101.alloc (.cells #[.int .i64 2, .int .i64 0, .bool false, .string ⟨#[]⟩, .int .i64 0, .int .i64 0, .int .i64 0, .string ⟨#[]⟩, .int .u64 (diSum view), .slice none 0 0] 60)).alloc (.cells #[.int .i64 seq, .slice qa qn qc, .bool la, .int .i64 tok, .int .i64 at', .bool false, .int .i64 now] 30) = w104 at CB LB RB MB XF XL KQ0 HBr KF0 HB ⊢
          obtain ⟨⟨CBc0, CBc1, CBc2, CBc3⟩, ⟨CBf0, CBf1, CBf2, CBf3⟩⟩ := blk4 CB.out
          obtain ⟨⟨LBc0, LBc1, LBc2, LBc3, LBc4, LBc5, LBc6⟩, ⟨LBf0, LBf1, LBf2, LBf3, LBf4, LBf5, LBf6⟩⟩ := blk7 LB.out
          go_wp2_with fail
          clear CBc0 CBc1 CBc2 CBc3 CBf0 CBf1 CBf2 CBf3 LBc0 LBc1 LBc2 LBc3 LBc4 LBc5 LBc6 LBf0 LBf1 LBf2 LBf3 LBf4 LBf5 LBf6
          refine (ptake_any ca cb cd ce tok at' now HP _).mono ?_
          rintro e w105 ⟨rfl, b105⟩
          replace CB := Lib.hid (upQ CB.out b105)
          replace LB := Lib.hid (upQ LB.out b105)
          replace RB := Lib.hid (upQ RB.out b105)
          replace MB := Lib.hid (upQ MB.out b105)
          replace XF := Lib.hid (upQ XF.out b105)
          replace XL := Lib.hid (upQ XL.out b105)
          replace KQ0 := Lib.hid (KQ.later KQ0.out b105)
          replace HBr := Lib.hid (below2Z HBr.out b105)
          replace KF0 := Lib.hid (KF.later KF0.out b105)
          replace HB := Lib.hid (below2Z HB.out b105)
          clear b105
          have hxl := (Array.getElem?_eq_some_iff.1 XL.out).1
          cases is with
          | false =>
            have b156 := bl_newZ w105 (.cells #[.int .i64 bx, .int .i64 bt] 28)
            have XB := newQ w105 (.cells #[.int .i64 bx, .int .i64 bt] 28)
            have hXB : w.heap.size ≤ w105.heap.size := HB.out.size
            replace CB := Lib.hid (upQ CB.out b156)
            replace LB := Lib.hid (upQ LB.out b156)
            replace RB := Lib.hid (upQ RB.out b156)
            replace MB := Lib.hid (upQ MB.out b156)
            replace XF := Lib.hid (upQ XF.out b156)
            replace XL := Lib.hid (upQ XL.out b156)
            replace KQ0 := Lib.hid (KQ.later KQ0.out b156)
            replace HBr := Lib.hid (below2Z HBr.out b156)
            replace KF0 := Lib.hid (KF.later KF0.out b156)
            replace HB := Lib.hid (below2Z HB.out b156)
            clear b156
            replace XB := Lib.hid XB
            go_upto_region 15 with fail
            generalize w105.alloc (.cells #[.int .i64 bx, .int .i64 bt] 28) = w157 at CB LB RB MB XF XL XB KQ0 HBr KF0 HB ⊢
            have hend := emp_end HE.out (stp_tok HP.out)
            rw [HR.out] at hend
            simp only [Prod.mk.injEq] at hend
            obtain ⟨rfl, rfl⟩ := hend
            clear HE HR
            obtain ⟨⟨LBc0, LBc1, LBc2, LBc3, LBc4, LBc5, LBc6⟩, ⟨LBf0, LBf1, LBf2, LBf3, LBf4, LBf5, LBf6⟩⟩ := blk7 LB.out
            obtain ⟨⟨RBc0, RBc1, RBc2, RBc3, RBc4, RBc5, RBc6⟩, ⟨RBf0, RBf1, RBf2, RBf3, RBf4, RBf5, RBf6⟩⟩ := blk7 RB.out
            go_wp2_with fail
            have hz := stN7_heap RB.out (.int .i64 seq) (.slice qa qn qc) (.bool la) (.int .i64 tok) (.int .i64 at') (.bool false) (.int .i64 dg)
            have KQz := KQ0.out.past RB.out (by decide) (fun k hk => stN7_far w157 (w.heap.size + 1 + 1) (.int .i64 seq) (.slice qa qn qc) (.bool la) (.int .i64 tok) (.int .i64 at') (.bool false) (.int .i64 dg) hk)
            have KFz := KF0.out.past RB.out (by decide) (by decide) (fun k hk => stN7_far w157 (w.heap.size + 1 + 1) (.int .i64 seq) (.slice qa qn qc) (.bool la) (.int .i64 tok) (.int .i64 at') (.bool false) (.int .i64 dg) hk)
            have HBz := stN7_below HB.out hle2 (.int .i64 seq) (.slice qa qn qc) (.bool la) (.int .i64 tok) (.int .i64 at') (.bool false) (.int .i64 dg)
            obtain ⟨⟨z0, z1, z2, z3, z4, z5, z6⟩, -⟩ := blk7 hz
            unfold stN7 at z0 z1 z2 z3 z4 z5 z6
            refine bodyPost_ret (v := .tuple #[.agg #[.int .i64 seq, .slice qa qn qc, .bool la, .int .i64 tok, .int .i64 at', .bool false, .int .i64 dg], .slice fa ps.length fc]) (by simp [results, Tryz.results23, go_sem, z0, z1, z2, z3, z4, z5, z6]) rfl ⟨_, _, ps, rfl, KQz.chgs HBz, KFz, rfl, HBz⟩
          | true =>
            obtain ⟨he2, hpl⟩ := emp_step HE.out h2.out h3.out (stp_g hsq (Int.not_lt.2 HDUE.out) HP.out)
            rw [List.length_map] at hpl
            have HE2 := Lib.hid he2
            clear he2 HE HP
            have b106 := bl_newZ w105 (.cells #[.int .i64 bx, .int .i64 bt] 28)
            have XB := newQ w105 (.cells #[.int .i64 bx, .int .i64 bt] 28)
            have hXB : w.heap.size ≤ w105.heap.size := HB.out.size
            replace CB := Lib.hid (upQ CB.out b106)
            replace LB := Lib.hid (upQ LB.out b106)
            replace RB := Lib.hid (upQ RB.out b106)
            replace MB := Lib.hid (upQ MB.out b106)
            replace XF := Lib.hid (upQ XF.out b106)
            replace XL := Lib.hid (upQ XL.out b106)
            replace KQ0 := Lib.hid (KQ.later KQ0.out b106)
            replace HBr := Lib.hid (below2Z HBr.out b106)
            replace KF0 := Lib.hid (KF.later KF0.out b106)
            replace HB := Lib.hid (below2Z HB.out b106)
            clear b106
            replace XB := Lib.hid XB
            go_upto_region 10 with fail
            generalize w105.alloc (.cells #[.int .i64 bx, .int .i64 bt] 28) = w107 at CB LB RB MB XF XL XB KQ0 HBr KF0 HB ⊢
            obtain ⟨⟨LBc0, LBc1, LBc2, LBc3, LBc4, LBc5, LBc6⟩, ⟨LBf0, LBf1, LBf2, LBf3, LBf4, LBf5, LBf6⟩⟩ := blk7 LB.out
            obtain ⟨⟨XFc0, XFc1, XFc2, XFc3, XFc4, XFc5, XFc6, XFc7, XFc8, XFc9⟩, ⟨XFf0, XFf1, XFf2, XFf3, XFf4, XFf5, XFf6, XFf7, XFf8, XFf9⟩⟩ := blk10 XF.out
            go_upto_region 11 with fail
            clear LBc0 LBc1 LBc2 LBc3 LBc4 LBc5 LBc6 LBf0 LBf1 LBf2 LBf3 LBf4 LBf5 LBf6 XFc0 XFc1 XFc2 XFc3 XFc4 XFc5 XFc6 XFc7 XFc8 XFc9 XFf0 XFf1 XFf2 XFf3 XFf4 XFf5 XFf6 XFf7 XFf8 XFf9
            have hfar0 : ∀ k, ¬ k = w101.heap.size → (w107.setCell ⟨w101.heap.size, 1, none⟩ (.int .i64 seq)).heap[k]? = w107.heap[k]? := fun k hk => by rw [Below.heap_setCell _ _ _ k hk]
            have CBz : Hid ((w107.setCell ⟨w101.heap.size, 1, none⟩ (.int .i64 seq)).heap[w.heap.size]? = some (.cells #[.int .i64 ca, .int .i64 cb, .int .i64 cd, .int .i64 ce] 23 (0, 0))) := Lib.hid ((hfar0 (w.heap.size) (blk_ne CB.out XF.out (by decide))).trans CB.out)
            have LBz : Hid ((w107.setCell ⟨w101.heap.size, 1, none⟩ (.int .i64 seq)).heap[w.heap.size + 1]? = some (.cells #[.int .i64 seq, .slice qa qn qc, .bool la, .int .i64 tok, .int .i64 at', .bool false, .int .i64 dg] 30 (0, 0))) := Lib.hid ((hfar0 (w.heap.size + 1) (blk_ne LB.out XF.out (by decide))).trans LB.out)
            have RBz : Hid ((w107.setCell ⟨w101.heap.size, 1, none⟩ (.int .i64 seq)).heap[w.heap.size + 1 + 1]? = some (.cells #[.int .i64 0, .slice none 0 0, .bool false, .int .i64 0, .int .i64 0, .bool false, .int .i64 0] 30 (0, 0))) := Lib.hid ((hfar0 (w.heap.size + 1 + 1) (blk_ne RB.out XF.out (by decide))).trans RB.out)
            have MBz : Hid ((w107.setCell ⟨w101.heap.size, 1, none⟩ (.int .i64 seq)).heap[mbn]? = some (.cells #[.int .i64 ca, .int .i64 cb, .int .i64 cd, .int .i64 ce, .slice ta vn tc, .int .i64 now] 77 (0, 0))) := Lib.hid ((hfar0 (mbn) (blk_ne MB.out XF.out (by decide))).trans MB.out)
            have XFz : Hid ((w107.setCell ⟨w101.heap.size, 1, none⟩ (.int .i64 seq)).heap[w101.heap.size]? = some (.cells #[.int .i64 2, .int .i64 seq, .bool false, .string ⟨#[]⟩, .int .i64 0, .int .i64 0, .int .i64 0, .string ⟨#[]⟩, .int .u64 (diSum view), .slice none 0 0] 60 (0, 0))) := Lib.hid (heap_setCell_same _ (w101.heap.size) 1 _ _ (.int .i64 seq) XF.out)
            have XLz : Hid ((w107.setCell ⟨w101.heap.size, 1, none⟩ (.int .i64 seq)).heap[w101.heap.size + 1]? = some (.cells #[.int .i64 seq, .slice qa qn qc, .bool la, .int .i64 tok, .int .i64 at', .bool false, .int .i64 now] 30 (0, 0))) := Lib.hid ((hfar0 (w101.heap.size + 1) (blk_ne XL.out XF.out (by decide))).trans XL.out)
            have XBz : Hid ((w107.setCell ⟨w101.heap.size, 1, none⟩ (.int .i64 seq)).heap[w105.heap.size]? = some (.cells #[.int .i64 bx, .int .i64 bt] 28 (0, 0))) := Lib.hid ((hfar0 (w105.heap.size) (blk_ne XB.out XF.out (by decide))).trans XB.out)
            have KQ0z : Hid (KQ w (w107.setCell ⟨w101.heap.size, 1, none⟩ (.int .i64 seq)) (.slice qa qn qc) []) := Lib.hid (KQ0.out.past XF.out (by decide) hfar0)
            have HBrz : Hid (Below wr.heap.size wr (w107.setCell ⟨w101.heap.size, 1, none⟩ (.int .i64 seq))) := Lib.hid (HBr.out.setCell hxfr _)
            have KF0z : Hid (KF w (w107.setCell ⟨w101.heap.size, 1, none⟩ (.int .i64 seq)) (.slice fa ps.length fc) ps) := Lib.hid (KFr.out.later HBrz.out)
            have HBz : Hid (Below w.heap.size w (w107.setCell ⟨w101.heap.size, 1, none⟩ (.int .i64 seq))) := Lib.hid (HB.out.setCell hXF _)
            clear CB LB RB MB XF XL XB KQ0 HBr KF0 HB hfar0
            generalize w107.setCell ⟨w101.heap.size, 1, none⟩ (.int .i64 seq) = w108 at CBz LBz RBz MBz XFz XLz XBz KQ0z HBrz KF0z HBz ⊢
            have CB := CBz
            have LB := LBz
            have RB := RBz
            have MB := MBz
            have XF := XFz
            have XL := XLz
            have XB := XBz
            have KQ0 := KQ0z
            have HBr := HBrz
            have KF0 := KF0z
            have HB := HBz
            clear CBz LBz RBz MBz XFz XLz XBz KQ0z HBrz KF0z HBz
            obtain ⟨⟨XFc0, XFc1, XFc2, XFc3, XFc4, XFc5, XFc6, XFc7, XFc8, XFc9⟩, ⟨XFf0, XFf1, XFf2, XFf3, XFf4, XFf5, XFf6, XFf7, XFf8, XFf9⟩⟩ := blk10 XF.out
            have b109 := bl_newZ w108 (.cells #[.int .i64 2, .int .i64 seq, .bool false, .string ⟨#[]⟩, .int .i64 0, .int .i64 0, .int .i64 0, .string ⟨#[]⟩, .int .u64 (diSum view), .slice none 0 0] 60)
            have XA := newQ w108 (.cells #[.int .i64 2, .int .i64 seq, .bool false, .string ⟨#[]⟩, .int .i64 0, .int .i64 0, .int .i64 0, .string ⟨#[]⟩, .int .u64 (diSum view), .slice none 0 0] 60)
            have hXA : w.heap.size ≤ w108.heap.size := HB.out.size
            replace CB := Lib.hid (upQ CB.out b109)
            replace LB := Lib.hid (upQ LB.out b109)
            replace RB := Lib.hid (upQ RB.out b109)
            replace MB := Lib.hid (upQ MB.out b109)
            replace XF := Lib.hid (upQ XF.out b109)
            replace XL := Lib.hid (upQ XL.out b109)
            replace XB := Lib.hid (upQ XB.out b109)
            replace KQ0 := Lib.hid (KQ.later KQ0.out b109)
            replace HBr := Lib.hid (below2Z HBr.out b109)
            replace KF0 := Lib.hid (KF.later KF0.out b109)
            replace HB := Lib.hid (below2Z HB.out b109)
            clear b109
            replace XA := Lib.hid XA
            have SRC := srcS_new (vals := frVals) (w := w108) (r := (⟨⟨2, seq, false, [], Val.zero, diSum view, []⟩, none, 0, 0⟩ : FrS)) (cs := #[.int .i64 2, .int .i64 seq, .bool false, .string ⟨#[]⟩, .int .i64 0, .int .i64 0, .int .i64 0, .string ⟨#[]⟩, .int .u64 (diSum view), .slice none 0 0]) rfl (e := 60) (B := w108.heap.size) rfl _ rfl
            have KTP : KT w (w108.alloc (.cells #[.int .i64 2, .int .i64 seq, .bool false, .string ⟨#[]⟩, .int .i64 0, .int .i64 0, .int .i64 0, .string ⟨#[]⟩, .int .u64 (diSum view), .slice none 0 0] 60)) (⟨⟨2, seq, false, [], Val.zero, diSum view, []⟩, none, 0, 0⟩ : FrS) := .inl ⟨rfl, rfl⟩
            go_wp2_with (at_builtin; go_must (refine wpList_append_fr rfl (.tmp 60) (.tmp 62) rfl w.heap.size _ ps rfl (by exact KF0.out.1) ⟨w108.heap.size, 0, none⟩ (⟨⟨2, seq, false, [], Val.zero, diSum view, []⟩, none, 0, 0⟩ : FrS) rfl SRC (by omega) HB.out.size ?_))
            intro fv w110 ho hbl hfar
            have CBz := Lib.hid (blk_app CB.out KF0.out.1 (by decide) hfar)
            have LBz := Lib.hid (blk_app LB.out KF0.out.1 (by decide) hfar)
            have RBz := Lib.hid (blk_app RB.out KF0.out.1 (by decide) hfar)
            have MBz := Lib.hid (blk_app MB.out KF0.out.1 (by decide) hfar)
            have XLz := Lib.hid (blk_app XL.out KF0.out.1 (by decide) hfar)
            have XBz := Lib.hid (blk_app XB.out KF0.out.1 (by decide) hfar)
            have KQ0z := Lib.hid (KQ0.out.app KF0.out.1 hfar)
            have KF0z := Lib.hid (KF0.out.more KTP ho hfar)
            have HBz := Lib.hid (HB.out.trans hbl)
            clear XFc0 XFc1 XFc2 XFc3 XFc4 XFc5 XFc6 XFc7 XFc8 XFc9 XFf0 XFf1 XFf2 XFf3 XFf4 XFf5 XFf6 XFf7 XFf8 XFf9 CB LB RB MB XL XB KQ0 KF0 HB XF XA SRC KTP ho hbl hfar HBr KFr hxfr
            have CB := CBz
            have LB := LBz
            have RB := RBz
            have MB := MBz
            have XL := XLz
            have XB := XBz
            have KQ0 := KQ0z
            have KF0 := KF0z
            have HB := HBz
            clear CBz LBz RBz MBz XLz XBz KQ0z KF0z HBz
            obtain ⟨fa2, fc2, rfl⟩ := kf_shape KF0.out
            obtain ⟨⟨XLc0, XLc1, XLc2, XLc3, XLc4, XLc5, XLc6⟩, ⟨XLf0, XLf1, XLf2, XLf3, XLf4, XLf5, XLf6⟩⟩ := blk7 XL.out
            obtain ⟨⟨LBc0, LBc1, LBc2, LBc3, LBc4, LBc5, LBc6⟩, ⟨LBf0, LBf1, LBf2, LBf3, LBf4, LBf5, LBf6⟩⟩ := blk7 LB.out
            go_upto_region 13 with fail
            clear XLc0 XLc1 XLc2 XLc3 XLc4 XLc5 XLc6 XLf0 XLf1 XLf2 XLf3 XLf4 XLf5 XLf6 LBc0 LBc1 LBc2 LBc3 LBc4 LBc5 LBc6 LBf0 LBf1 LBf2 LBf3 LBf4 LBf5 LBf6
            have hfar0 : ∀ k, ¬ k = w.heap.size + 1 → (((((((w110.setCell ⟨w.heap.size + 1, 0, none⟩ (.int .i64 seq)).setCell ⟨w.heap.size + 1, 1, none⟩ (.slice qa qn qc)).setCell ⟨w.heap.size + 1, 2, none⟩ (.bool la)).setCell ⟨w.heap.size + 1, 3, none⟩ (.int .i64 tok)).setCell ⟨w.heap.size + 1, 4, none⟩ (.int .i64 at')).setCell ⟨w.heap.size + 1, 5, none⟩ (.bool false)).setCell ⟨w.heap.size + 1, 6, none⟩ (.int .i64 now)).heap[k]? = w110.heap[k]? := fun k hk => by rw [Below.heap_setCell _ _ _ k hk, Below.heap_setCell _ _ _ k hk, Below.heap_setCell _ _ _ k hk, Below.heap_setCell _ _ _ k hk, Below.heap_setCell _ _ _ k hk, Below.heap_setCell _ _ _ k hk, Below.heap_setCell _ _ _ k hk]
            have CBz : Hid ((((((((w110.setCell ⟨w.heap.size + 1, 0, none⟩ (.int .i64 seq)).setCell ⟨w.heap.size + 1, 1, none⟩ (.slice qa qn qc)).setCell ⟨w.heap.size + 1, 2, none⟩ (.bool la)).setCell ⟨w.heap.size + 1, 3, none⟩ (.int .i64 tok)).setCell ⟨w.heap.size + 1, 4, none⟩ (.int .i64 at')).setCell ⟨w.heap.size + 1, 5, none⟩ (.bool false)).setCell ⟨w.heap.size + 1, 6, none⟩ (.int .i64 now)).heap[w.heap.size]? = some (.cells #[.int .i64 ca, .int .i64 cb, .int .i64 cd, .int .i64 ce] 23 (0, 0))) := Lib.hid ((hfar0 (w.heap.size) (blk_ne CB.out LB.out (by decide))).trans CB.out)
            have LBz : Hid ((((((((w110.setCell ⟨w.heap.size + 1, 0, none⟩ (.int .i64 seq)).setCell ⟨w.heap.size + 1, 1, none⟩ (.slice qa qn qc)).setCell ⟨w.heap.size + 1, 2, none⟩ (.bool la)).setCell ⟨w.heap.size + 1, 3, none⟩ (.int .i64 tok)).setCell ⟨w.heap.size + 1, 4, none⟩ (.int .i64 at')).setCell ⟨w.heap.size + 1, 5, none⟩ (.bool false)).setCell ⟨w.heap.size + 1, 6, none⟩ (.int .i64 now)).heap[w.heap.size + 1]? = some (.cells #[.int .i64 seq, .slice qa qn qc, .bool la, .int .i64 tok, .int .i64 at', .bool false, .int .i64 now] 30 (0, 0))) := Lib.hid (heap_setCell_same _ (w.heap.size + 1) 6 _ _ (.int .i64 now) (heap_setCell_same _ (w.heap.size + 1) 5 _ _ (.bool false) (heap_setCell_same _ (w.heap.size + 1) 4 _ _ (.int .i64 at') (heap_setCell_same _ (w.heap.size + 1) 3 _ _ (.int .i64 tok) (heap_setCell_same _ (w.heap.size + 1) 2 _ _ (.bool la) (heap_setCell_same _ (w.heap.size + 1) 1 _ _ (.slice qa qn qc) (heap_setCell_same _ (w.heap.size + 1) 0 _ _ (.int .i64 seq) LB.out)))))))
            have RBz : Hid ((((((((w110.setCell ⟨w.heap.size + 1, 0, none⟩ (.int .i64 seq)).setCell ⟨w.heap.size + 1, 1, none⟩ (.slice qa qn qc)).setCell ⟨w.heap.size + 1, 2, none⟩ (.bool la)).setCell ⟨w.heap.size + 1, 3, none⟩ (.int .i64 tok)).setCell ⟨w.heap.size + 1, 4, none⟩ (.int .i64 at')).setCell ⟨w.heap.size + 1, 5, none⟩ (.bool false)).setCell ⟨w.heap.size + 1, 6, none⟩ (.int .i64 now)).heap[w.heap.size + 1 + 1]? = some (.cells #[.int .i64 0, .slice none 0 0, .bool false, .int .i64 0, .int .i64 0, .bool false, .int .i64 0] 30 (0, 0))) := Lib.hid ((hfar0 (w.heap.size + 1 + 1) (by omega)).trans RB.out)
            have MBz : Hid ((((((((w110.setCell ⟨w.heap.size + 1, 0, none⟩ (.int .i64 seq)).setCell ⟨w.heap.size + 1, 1, none⟩ (.slice qa qn qc)).setCell ⟨w.heap.size + 1, 2, none⟩ (.bool la)).setCell ⟨w.heap.size + 1, 3, none⟩ (.int .i64 tok)).setCell ⟨w.heap.size + 1, 4, none⟩ (.int .i64 at')).setCell ⟨w.heap.size + 1, 5, none⟩ (.bool false)).setCell ⟨w.heap.size + 1, 6, none⟩ (.int .i64 now)).heap[mbn]? = some (.cells #[.int .i64 ca, .int .i64 cb, .int .i64 cd, .int .i64 ce, .slice ta vn tc, .int .i64 now] 77 (0, 0))) := Lib.hid ((hfar0 (mbn) (blk_ne MB.out LB.out (by decide))).trans MB.out)
            have XLz : Hid ((((((((w110.setCell ⟨w.heap.size + 1, 0, none⟩ (.int .i64 seq)).setCell ⟨w.heap.size + 1, 1, none⟩ (.slice qa qn qc)).setCell ⟨w.heap.size + 1, 2, none⟩ (.bool la)).setCell ⟨w.heap.size + 1, 3, none⟩ (.int .i64 tok)).setCell ⟨w.heap.size + 1, 4, none⟩ (.int .i64 at')).setCell ⟨w.heap.size + 1, 5, none⟩ (.bool false)).setCell ⟨w.heap.size + 1, 6, none⟩ (.int .i64 now)).heap[w101.heap.size + 1]? = some (.cells #[.int .i64 seq, .slice qa qn qc, .bool la, .int .i64 tok, .int .i64 at', .bool false, .int .i64 now] 30 (0, 0))) := Lib.hid ((hfar0 (w101.heap.size + 1) (by omega)).trans XL.out)
            have XBz : Hid ((((((((w110.setCell ⟨w.heap.size + 1, 0, none⟩ (.int .i64 seq)).setCell ⟨w.heap.size + 1, 1, none⟩ (.slice qa qn qc)).setCell ⟨w.heap.size + 1, 2, none⟩ (.bool la)).setCell ⟨w.heap.size + 1, 3, none⟩ (.int .i64 tok)).setCell ⟨w.heap.size + 1, 4, none⟩ (.int .i64 at')).setCell ⟨w.heap.size + 1, 5, none⟩ (.bool false)).setCell ⟨w.heap.size + 1, 6, none⟩ (.int .i64 now)).heap[w105.heap.size]? = some (.cells #[.int .i64 bx, .int .i64 bt] 28 (0, 0))) := Lib.hid ((hfar0 (w105.heap.size) (blk_ne XB.out LB.out (by decide))).trans XB.out)
            have KQ0z : Hid (KQ w (((((((w110.setCell ⟨w.heap.size + 1, 0, none⟩ (.int .i64 seq)).setCell ⟨w.heap.size + 1, 1, none⟩ (.slice qa qn qc)).setCell ⟨w.heap.size + 1, 2, none⟩ (.bool la)).setCell ⟨w.heap.size + 1, 3, none⟩ (.int .i64 tok)).setCell ⟨w.heap.size + 1, 4, none⟩ (.int .i64 at')).setCell ⟨w.heap.size + 1, 5, none⟩ (.bool false)).setCell ⟨w.heap.size + 1, 6, none⟩ (.int .i64 now)) (.slice qa qn qc) []) := Lib.hid (KQ0.out.past LB.out (by decide) hfar0)
            have KF0z : Hid (KF w (((((((w110.setCell ⟨w.heap.size + 1, 0, none⟩ (.int .i64 seq)).setCell ⟨w.heap.size + 1, 1, none⟩ (.slice qa qn qc)).setCell ⟨w.heap.size + 1, 2, none⟩ (.bool la)).setCell ⟨w.heap.size + 1, 3, none⟩ (.int .i64 tok)).setCell ⟨w.heap.size + 1, 4, none⟩ (.int .i64 at')).setCell ⟨w.heap.size + 1, 5, none⟩ (.bool false)).setCell ⟨w.heap.size + 1, 6, none⟩ (.int .i64 now)) (.slice fa2 (ps ++ [(⟨⟨2, seq, false, [], Val.zero, diSum view, []⟩, none, 0, 0⟩ : FrS)]).length fc2) (ps ++ [(⟨⟨2, seq, false, [], Val.zero, diSum view, []⟩, none, 0, 0⟩ : FrS)])) := Lib.hid (KF0.out.past LB.out (by decide) (by decide) hfar0)
            have HBz : Hid (Below w.heap.size w (((((((w110.setCell ⟨w.heap.size + 1, 0, none⟩ (.int .i64 seq)).setCell ⟨w.heap.size + 1, 1, none⟩ (.slice qa qn qc)).setCell ⟨w.heap.size + 1, 2, none⟩ (.bool la)).setCell ⟨w.heap.size + 1, 3, none⟩ (.int .i64 tok)).setCell ⟨w.heap.size + 1, 4, none⟩ (.int .i64 at')).setCell ⟨w.heap.size + 1, 5, none⟩ (.bool false)).setCell ⟨w.heap.size + 1, 6, none⟩ (.int .i64 now))) := Lib.hid (((((((HB.out.setCell hle1 _).setCell hle1 _).setCell hle1 _).setCell hle1 _).setCell hle1 _).setCell hle1 _).setCell hle1 _)
            clear CB LB RB MB XL XB KQ0 KF0 HB hfar0
            generalize ((((((w110.setCell ⟨w.heap.size + 1, 0, none⟩ (.int .i64 seq)).setCell ⟨w.heap.size + 1, 1, none⟩ (.slice qa qn qc)).setCell ⟨w.heap.size + 1, 2, none⟩ (.bool la)).setCell ⟨w.heap.size + 1, 3, none⟩ (.int .i64 tok)).setCell ⟨w.heap.size + 1, 4, none⟩ (.int .i64 at')).setCell ⟨w.heap.size + 1, 5, none⟩ (.bool false)).setCell ⟨w.heap.size + 1, 6, none⟩ (.int .i64 now) = w111 at CBz LBz RBz MBz XLz XBz KQ0z KF0z HBz ⊢
            have CB := CBz
            have LB := LBz
            have RB := RBz
            have MB := MBz
            have XL := XLz
            have XB := XBz
            have KQ0 := KQ0z
            have KF0 := KF0z
            have HB := HBz
            clear CBz LBz RBz MBz XLz XBz KQ0z KF0z HBz
            clear XL
            obtain ⟨⟨XBc0, XBc1⟩, ⟨XBf0, XBf1⟩⟩ := blk2 XB.out
            obtain ⟨⟨LBc0, LBc1, LBc2, LBc3, LBc4, LBc5, LBc6⟩, ⟨LBf0, LBf1, LBf2, LBf3, LBf4, LBf5, LBf6⟩⟩ := blk7 LB.out
            go_upto_region 14 with fail
            clear XBc0 XBc1 XBf0 XBf1 LBc0 LBc1 LBc2 LBc3 LBc4 LBc5 LBc6 LBf0 LBf1 LBf2 LBf3 LBf4 LBf5 LBf6
            have hfar0 : ∀ k, ¬ k = w.heap.size + 1 → ((w111.setCell ⟨w.heap.size + 1, 3, none⟩ (.int .i64 bx)).setCell ⟨w.heap.size + 1, 4, none⟩ (.int .i64 bt)).heap[k]? = w111.heap[k]? := fun k hk => by rw [Below.heap_setCell _ _ _ k hk, Below.heap_setCell _ _ _ k hk]
            have CBz : Hid (((w111.setCell ⟨w.heap.size + 1, 3, none⟩ (.int .i64 bx)).setCell ⟨w.heap.size + 1, 4, none⟩ (.int .i64 bt)).heap[w.heap.size]? = some (.cells #[.int .i64 ca, .int .i64 cb, .int .i64 cd, .int .i64 ce] 23 (0, 0))) := Lib.hid ((hfar0 (w.heap.size) (blk_ne CB.out LB.out (by decide))).trans CB.out)
            have LBz : Hid (((w111.setCell ⟨w.heap.size + 1, 3, none⟩ (.int .i64 bx)).setCell ⟨w.heap.size + 1, 4, none⟩ (.int .i64 bt)).heap[w.heap.size + 1]? = some (.cells #[.int .i64 seq, .slice qa qn qc, .bool la, .int .i64 bx, .int .i64 bt, .bool false, .int .i64 now] 30 (0, 0))) := Lib.hid (heap_setCell_same _ (w.heap.size + 1) 4 _ _ (.int .i64 bt) (heap_setCell_same _ (w.heap.size + 1) 3 _ _ (.int .i64 bx) LB.out))
            have RBz : Hid (((w111.setCell ⟨w.heap.size + 1, 3, none⟩ (.int .i64 bx)).setCell ⟨w.heap.size + 1, 4, none⟩ (.int .i64 bt)).heap[w.heap.size + 1 + 1]? = some (.cells #[.int .i64 0, .slice none 0 0, .bool false, .int .i64 0, .int .i64 0, .bool false, .int .i64 0] 30 (0, 0))) := Lib.hid ((hfar0 (w.heap.size + 1 + 1) (by omega)).trans RB.out)
            have MBz : Hid (((w111.setCell ⟨w.heap.size + 1, 3, none⟩ (.int .i64 bx)).setCell ⟨w.heap.size + 1, 4, none⟩ (.int .i64 bt)).heap[mbn]? = some (.cells #[.int .i64 ca, .int .i64 cb, .int .i64 cd, .int .i64 ce, .slice ta vn tc, .int .i64 now] 77 (0, 0))) := Lib.hid ((hfar0 (mbn) (blk_ne MB.out LB.out (by decide))).trans MB.out)
            have XBz : Hid (((w111.setCell ⟨w.heap.size + 1, 3, none⟩ (.int .i64 bx)).setCell ⟨w.heap.size + 1, 4, none⟩ (.int .i64 bt)).heap[w105.heap.size]? = some (.cells #[.int .i64 bx, .int .i64 bt] 28 (0, 0))) := Lib.hid ((hfar0 (w105.heap.size) (blk_ne XB.out LB.out (by decide))).trans XB.out)
            have KQ0z : Hid (KQ w ((w111.setCell ⟨w.heap.size + 1, 3, none⟩ (.int .i64 bx)).setCell ⟨w.heap.size + 1, 4, none⟩ (.int .i64 bt)) (.slice qa qn qc) []) := Lib.hid (KQ0.out.past LB.out (by decide) hfar0)
            have KF0z : Hid (KF w ((w111.setCell ⟨w.heap.size + 1, 3, none⟩ (.int .i64 bx)).setCell ⟨w.heap.size + 1, 4, none⟩ (.int .i64 bt)) (.slice fa2 (ps ++ [(⟨⟨2, seq, false, [], Val.zero, diSum view, []⟩, none, 0, 0⟩ : FrS)]).length fc2) (ps ++ [(⟨⟨2, seq, false, [], Val.zero, diSum view, []⟩, none, 0, 0⟩ : FrS)])) := Lib.hid (KF0.out.past LB.out (by decide) (by decide) hfar0)
            have HBz : Hid (Below w.heap.size w ((w111.setCell ⟨w.heap.size + 1, 3, none⟩ (.int .i64 bx)).setCell ⟨w.heap.size + 1, 4, none⟩ (.int .i64 bt))) := Lib.hid ((HB.out.setCell hle1 _).setCell hle1 _)
            clear CB LB RB MB XB KQ0 KF0 HB hfar0
            generalize (w111.setCell ⟨w.heap.size + 1, 3, none⟩ (.int .i64 bx)).setCell ⟨w.heap.size + 1, 4, none⟩ (.int .i64 bt) = w112 at CBz LBz RBz MBz XBz KQ0z KF0z HBz ⊢
            have CB := CBz
            have LB := LBz
            have RB := RBz
            have MB := MBz
            have XB := XBz
            have KQ0 := KQ0z
            have KF0 := KF0z
            have HB := HBz
            clear CBz LBz RBz MBz XBz KQ0z KF0z HBz
            clear XB
            obtain ⟨⟨LBc0, LBc1, LBc2, LBc3, LBc4, LBc5, LBc6⟩, ⟨LBf0, LBf1, LBf2, LBf3, LBf4, LBf5, LBf6⟩⟩ := blk7 LB.out
            go_wp2_with fail
            clear LBc0 LBc1 LBc2 LBc3 LBc4 LBc5 LBc6 LBf0 LBf1 LBf2 LBf3 LBf4 LBf5 LBf6
            have hfar0 : ∀ k, ¬ k = w.heap.size + 1 → (w112.setCell ⟨w.heap.size + 1, 0, none⟩ (.int .i64 (seq + 1))).heap[k]? = w112.heap[k]? := fun k hk => by rw [Below.heap_setCell _ _ _ k hk]
            have CBz : Hid ((w112.setCell ⟨w.heap.size + 1, 0, none⟩ (.int .i64 (seq + 1))).heap[w.heap.size]? = some (.cells #[.int .i64 ca, .int .i64 cb, .int .i64 cd, .int .i64 ce] 23 (0, 0))) := Lib.hid ((hfar0 (w.heap.size) (blk_ne CB.out LB.out (by decide))).trans CB.out)
            have LBz : Hid ((w112.setCell ⟨w.heap.size + 1, 0, none⟩ (.int .i64 (seq + 1))).heap[w.heap.size + 1]? = some (.cells #[.int .i64 (seq + 1), .slice qa qn qc, .bool la, .int .i64 bx, .int .i64 bt, .bool false, .int .i64 now] 30 (0, 0))) := Lib.hid (heap_setCell_same _ (w.heap.size + 1) 0 _ _ (.int .i64 (seq + 1)) LB.out)
            have RBz : Hid ((w112.setCell ⟨w.heap.size + 1, 0, none⟩ (.int .i64 (seq + 1))).heap[w.heap.size + 1 + 1]? = some (.cells #[.int .i64 0, .slice none 0 0, .bool false, .int .i64 0, .int .i64 0, .bool false, .int .i64 0] 30 (0, 0))) := Lib.hid ((hfar0 (w.heap.size + 1 + 1) (by omega)).trans RB.out)
            have MBz : Hid ((w112.setCell ⟨w.heap.size + 1, 0, none⟩ (.int .i64 (seq + 1))).heap[mbn]? = some (.cells #[.int .i64 ca, .int .i64 cb, .int .i64 cd, .int .i64 ce, .slice ta vn tc, .int .i64 now] 77 (0, 0))) := Lib.hid ((hfar0 (mbn) (blk_ne MB.out LB.out (by decide))).trans MB.out)
            have KQ0z : Hid (KQ w (w112.setCell ⟨w.heap.size + 1, 0, none⟩ (.int .i64 (seq + 1))) (.slice qa qn qc) []) := Lib.hid (KQ0.out.past LB.out (by decide) hfar0)
            have KF0z : Hid (KF w (w112.setCell ⟨w.heap.size + 1, 0, none⟩ (.int .i64 (seq + 1))) (.slice fa2 (ps ++ [(⟨⟨2, seq, false, [], Val.zero, diSum view, []⟩, none, 0, 0⟩ : FrS)]).length fc2) (ps ++ [(⟨⟨2, seq, false, [], Val.zero, diSum view, []⟩, none, 0, 0⟩ : FrS)])) := Lib.hid (KF0.out.past LB.out (by decide) (by decide) hfar0)
            have HBz : Hid (Below w.heap.size w (w112.setCell ⟨w.heap.size + 1, 0, none⟩ (.int .i64 (seq + 1)))) := Lib.hid (HB.out.setCell hle1 _)
            clear CB LB RB MB KQ0 KF0 HB hfar0
            have CB := CBz
            have LB := LBz
            have RB := RBz
            have MB := MBz
            have KQ0 := KQ0z
            have KF0 := KF0z
            have HB := HBz
            clear CBz LBz RBz MBz KQ0z KF0z HBz
            go_roundw
            case rel => exact ⟨seq + 1, bx, bt, now, false, la, [], qa, qn, qc, ps ++ [(⟨⟨2, seq, false, [], Val.zero, diSum view, []⟩, none, 0, 0⟩ : FrS)], fa2, fc2, n - 1, rfl, Lib.hid (by rw [List.map_append]; exact HE2.out), CB, LB, RB, MB, KQ0, KF0, HB⟩
            case measure => simp [slLen]; omega
        case pos =>
          have HDUE := Lib.hid hdue
          obtain ⟨⟨MBc0, MBc1, MBc2, MBc3, MBc4, MBc5⟩, ⟨MBf0, MBf1, MBf2, MBf3, MBf4, MBf5⟩⟩ := blk6 MB.out
          obtain ⟨⟨LBc0, LBc1, LBc2, LBc3, LBc4, LBc5, LBc6⟩, ⟨LBf0, LBf1, LBf2, LBf3, LBf4, LBf5, LBf6⟩⟩ := blk7 LB.out
          go_wp2_with fail
          clear MBc0 MBc1 MBc2 MBc3 MBc4 MBc5 MBf0 MBf1 MBf2 MBf3 MBf4 MBf5 LBc0 LBc1 LBc2 LBc3 LBc4 LBc5 LBc6 LBf0 LBf1 LBf2 LBf3 LBf4 LBf5 LBf6 t1
          refine (lnext_n (KQ0.out.chgs HB.out) (HT.out _ HB.out) seq tok at' dg ca cb cd ce now la rfl hn0 hn1 hd0 hd1 HDUE.out).mono ?_
          rintro e w101 ⟨rfl, b101⟩
          replace CB := Lib.hid (upQ CB.out b101)
          replace LB := Lib.hid (upQ LB.out b101)
          replace RB := Lib.hid (upQ RB.out b101)
          replace MB := Lib.hid (upQ MB.out b101)
          replace KQ0 := Lib.hid (KQ.later KQ0.out b101)
          replace HBr := Lib.hid (below2Z HBr.out b101)
          replace KF0 := Lib.hid (KF.later KF0.out b101)
          replace HB := Lib.hid (below2Z HB.out b101)
          clear b101
          have hxfr := HBr.out.size
          have b102 := bl_newZ w101 (.cells #[.int .i64 0, .int .i64 0, .bool false, .string ⟨#[]⟩, .int .i64 0, .int .i64 0, .int .i64 0, .string ⟨#[]⟩, .int .u64 0, .slice none 0 0] 60)
          have XF := newQ w101 (.cells #[.int .i64 0, .int .i64 0, .bool false, .string ⟨#[]⟩, .int .i64 0, .int .i64 0, .int .i64 0, .string ⟨#[]⟩, .int .u64 0, .slice none 0 0] 60)
          have hXF : w.heap.size ≤ w101.heap.size := HB.out.size
          replace CB := Lib.hid (upQ CB.out b102)
          replace LB := Lib.hid (upQ LB.out b102)
          replace RB := Lib.hid (upQ RB.out b102)
          replace MB := Lib.hid (upQ MB.out b102)
          replace KQ0 := Lib.hid (KQ.later KQ0.out b102)
          replace HBr := Lib.hid (below2Z HBr.out b102)
          replace KF0 := Lib.hid (KF.later KF0.out b102)
          replace HB := Lib.hid (below2Z HB.out b102)
          clear b102
          replace XF := Lib.hid XF
          have b103 := bl_newZ (w101.alloc (.cells #[.int .i64 0, .int .i64 0, .bool false, .string ⟨#[]⟩, .int .i64 0, .int .i64 0, .int .i64 0, .string ⟨#[]⟩, .int .u64 0, .slice none 0 0] 60)) (.cells #[.int .i64 seq, .slice qa qn qc, .bool la, .int .i64 tok, .int .i64 at', .bool false, .int .i64 dg] 30)
          have XL := newQ (w101.alloc (.cells #[.int .i64 0, .int .i64 0, .bool false, .string ⟨#[]⟩, .int .i64 0, .int .i64 0, .int .i64 0, .string ⟨#[]⟩, .int .u64 0, .slice none 0 0] 60)) (.cells #[.int .i64 seq, .slice qa qn qc, .bool la, .int .i64 tok, .int .i64 at', .bool false, .int .i64 dg] 30)
          have hXL : w.heap.size ≤ (w101.alloc (.cells #[.int .i64 0, .int .i64 0, .bool false, .string ⟨#[]⟩, .int .i64 0, .int .i64 0, .int .i64 0, .string ⟨#[]⟩, .int .u64 0, .slice none 0 0] 60)).heap.size := HB.out.size
          rw [World.size_alloc] at XL hXL
          replace CB := Lib.hid (upQ CB.out b103)
          replace LB := Lib.hid (upQ LB.out b103)
          replace RB := Lib.hid (upQ RB.out b103)
          replace MB := Lib.hid (upQ MB.out b103)
          replace XF := Lib.hid (upQ XF.out b103)
          replace KQ0 := Lib.hid (KQ.later KQ0.out b103)
          replace HBr := Lib.hid (below2Z HBr.out b103)
          replace KF0 := Lib.hid (KF.later KF0.out b103)
          replace HB := Lib.hid (below2Z HB.out b103)
          clear b103
          replace XL := Lib.hid XL
          go_upto_region 15 with fail
          generalize (w101.alloc (.cells #[.int .i64 0, .int .i64 0, .bool false, .string ⟨#[]⟩, .int .i64 0, .int .i64 0, .int .i64 0, .string ⟨#[]⟩, .int .u64 0, .slice none 0 0] 60)).alloc (.cells #[.int .i64 seq, .slice qa qn qc, .bool la, .int .i64 tok, .int .i64 at', .bool false, .int .i64 dg] 30) = w104 at CB LB RB MB XF XL KQ0 HBr KF0 HB ⊢
          have hend := emp_end HE.out (stp_n HDUE.out)
          rw [HR.out] at hend
          simp only [Prod.mk.injEq] at hend
          obtain ⟨rfl, rfl⟩ := hend
          clear HE HR
          obtain ⟨⟨LBc0, LBc1, LBc2, LBc3, LBc4, LBc5, LBc6⟩, ⟨LBf0, LBf1, LBf2, LBf3, LBf4, LBf5, LBf6⟩⟩ := blk7 LB.out
          obtain ⟨⟨RBc0, RBc1, RBc2, RBc3, RBc4, RBc5, RBc6⟩, ⟨RBf0, RBf1, RBf2, RBf3, RBf4, RBf5, RBf6⟩⟩ := blk7 RB.out
          go_wp2_with fail
          have hz := stN7_heap RB.out (.int .i64 seq) (.slice qa qn qc) (.bool la) (.int .i64 tok) (.int .i64 at') (.bool false) (.int .i64 dg)
          have KQz := KQ0.out.past RB.out (by decide) (fun k hk => stN7_far w104 (w.heap.size + 1 + 1) (.int .i64 seq) (.slice qa qn qc) (.bool la) (.int .i64 tok) (.int .i64 at') (.bool false) (.int .i64 dg) hk)
          have KFz := KF0.out.past RB.out (by decide) (by decide) (fun k hk => stN7_far w104 (w.heap.size + 1 + 1) (.int .i64 seq) (.slice qa qn qc) (.bool la) (.int .i64 tok) (.int .i64 at') (.bool false) (.int .i64 dg) hk)
          have HBz := stN7_below HB.out hle2 (.int .i64 seq) (.slice qa qn qc) (.bool la) (.int .i64 tok) (.int .i64 at') (.bool false) (.int .i64 dg)
          obtain ⟨⟨z0, z1, z2, z3, z4, z5, z6⟩, -⟩ := blk7 hz
          unfold stN7 at z0 z1 z2 z3 z4 z5 z6
          refine bodyPost_ret (v := .tuple #[.agg #[.int .i64 seq, .slice qa qn qc, .bool la, .int .i64 tok, .int .i64 at', .bool false, .int .i64 dg], .slice fa ps.length fc]) (by simp [results, Tryz.results23, go_sem, z0, z1, z2, z3, z4, z5, z6]) rfl ⟨_, _, ps, rfl, KQz.chgs HBz, KFz, rfl, HBz⟩

/-- P18.3. -/
theorem lemit_any {w : World} {v vt : Value} {ql : List Chg} {view : List Row} (hv : Chgs w v ql) (ht : Tab w vt view) (hs : ShortC ql) (hl : ql.length ≤ 100) (hsh : Short view) (ca cb cd ce seq tok at' dg now : Int) (la sn : Bool) {M : Lnk} {fs : List Frm} (hr : Hid (lnEmit ⟨ca, cb, cd, ce⟩ ⟨seq, ⟨ql, la⟩, ⟨tok, at'⟩, sn, dg⟩ view now = (M, fs))) :
    Calls Tryz.prog 23 #[.agg #[.int .i64 ca, .int .i64 cb, .int .i64 cd, .int .i64 ce], .agg #[.int .i64 seq, v, .bool la, .int .i64 tok, .int .i64 at', .bool sn, .int .i64 dg], vt, .int .i64 now] w (Emitted w M fs) := by
  have hr' := hr.out
  unfold lnEmit at hr'
  cases h1 : lnMay ⟨ca, cb, cd, ce⟩ ⟨seq, ⟨ql, la⟩, ⟨tok, at'⟩, sn, dg⟩ with
  | false =>
    rw [h1] at hr'
    simp only [Bool.false_and, Bool.false_eq_true, if_false, Prod.mk.injEq] at hr'
    obtain ⟨rfl, rfl⟩ := hr'
    exact lemit_r1 hv ht hs hl hsh ca cb cd ce seq tok at' dg now la sn (Lib.hid h1)
  | true =>
    cases h2 : diMay view with
    | false =>
      rw [h1, h2] at hr'
      simp only [Bool.false_and, Bool.and_false, Bool.false_eq_true, if_false, Prod.mk.injEq] at hr'
      obtain ⟨rfl, rfl⟩ := hr'
      exact lemit_r2 hv ht hs hl hsh ca cb cd ce seq tok at' dg now la sn (Lib.hid h1) (Lib.hid h2)
    | true =>
      cases h3 : pcTime now with
      | false =>
        rw [h1, h2, h3] at hr'
        simp only [Bool.and_false, Bool.false_eq_true, if_false, Prod.mk.injEq] at hr'
        obtain ⟨rfl, rfl⟩ := hr'
        exact lemit_r3 hv ht hs hl hsh ca cb cd ce seq tok at' dg now la sn (Lib.hid h1) (Lib.hid h2) (Lib.hid h3)
      | true =>
        rw [h1, h2, h3] at hr'
        simp only [Bool.and_true, if_true] at hr'
        exact lemit_in hv ht hs hl hsh ca cb cd ce seq tok at' dg now la sn (Lib.hid h1) (Lib.hid h2) (Lib.hid h3) (Lib.hid hr')


end Go.Proofs.YtndicdomdndjaaaGreat

end

section

/-
  LAYER 18, THE DOCUMENT'S ANSWER: what stays while frames are told.
-/
namespace Go.Proofs.YtndicdomdndjaaaGreat
open Go.RowKit

set_option maxHeartbeats 3200000 in
set_option maxRecDepth 100000 in
theorem rqupop_tail {w : World} {v : Value} {l : List Chg} (hv : Chgs w v l) (la : Bool) (hpos : 1 ≤ l.length) {c st : List UInt8} {on : Bool} {a b d : Int} (hg : l.getD 0 Chg.zero = ⟨c, on, ⟨a, b, d, st⟩⟩) :
    Calls Tryz.prog 52 #[.agg #[v, .bool la]] w fun e w' => ∃ u, e = .returned (.tuple #[.agg #[.string ⟨c.toArray⟩, .bool on, .int .i64 a, .int .i64 b, .int .i64 d, .string ⟨st.toArray⟩], .agg #[u, .bool la], .bool true]) ∧ (∀ X, Chgs X v l → Chgs X u (l.drop 1)) ∧ Below w.heap.size w w' := by
  obtain ⟨ao, cap, rfl, _hmx⟩ := hv.open'
  have b0 := bl_newZ w (.cells #[.slice ao l.length cap, .bool la] 26)
  have b1 := bl_newZ (w.alloc (.cells #[.slice ao l.length cap, .bool la] 26)) (.cells #[.string ⟨#[]⟩, .bool false, .int .i64 0, .int .i64 0, .int .i64 0, .string ⟨#[]⟩] 34)
  have b2 := bl_newZ ((w.alloc (.cells #[.slice ao l.length cap, .bool la] 26)).alloc (.cells #[.string ⟨#[]⟩, .bool false, .int .i64 0, .int .i64 0, .int .i64 0, .string ⟨#[]⟩] 34)) (.cells #[.slice none 0 0, .bool false] 26)
  have HB := Lib.hid (below2Z (below2Z b0 b1) b2)
  have V := Lib.hid (((hv.later b0).later b1).later b2)
  have A := Lib.hid (upQ (upQ (newQ w (.cells #[.slice ao l.length cap, .bool la] 26)) b1) b2)
  have C := newQ (w.alloc (.cells #[.slice ao l.length cap, .bool la] 26)) (.cells #[.string ⟨#[]⟩, .bool false, .int .i64 0, .int .i64 0, .int .i64 0, .string ⟨#[]⟩] 34)
  rw [World.size_alloc] at C
  replace C := Lib.hid (upQ C b2)
  have R := newQ ((w.alloc (.cells #[.slice ao l.length cap, .bool la] 26)).alloc (.cells #[.string ⟨#[]⟩, .bool false, .int .i64 0, .int .i64 0, .int .i64 0, .string ⟨#[]⟩] 34)) (.cells #[.slice none 0 0, .bool false] 26)
  rw [World.size_alloc, World.size_alloc] at R
  replace R := Lib.hid R
  clear b0 b1 b2 hv
  have t1 : ((l.length : Int) == 0) = false := by rw [beq_eq_false_iff_ne]; omega
  obtain ⟨bk, off, rfl, h0, h1, h2, h3, h4, h5⟩ := V.out.row (Below.refl _ _) 0 hpos
  rw [hg] at h0 h1 h2 h3 h4 h5
  simp only [Nat.zero_mul, Nat.add_zero] at h0 h1 h2 h3 h4 h5
  have hsl := fun w => run_slice_from_S chgOK w ⟨bk, off, none⟩ l.length cap 1 1 rfl hpos
  have VT := Lib.hid (RdS.tail V.out.rdS (by decide) 1 hpos)
  have VX : Hid (∀ X, Chgs X (.slice (some ⟨bk, off, none⟩) l.length cap) l → RdS chgVals 6 Chg.zero X _ _) := Lib.hid (fun X hX => RdS.tail hX.rdS (by decide) 1 hpos)
  obtain ⟨ad, had⟩ : ∃ ad, (if cap = 1 then (⟨bk, off, none⟩ : Addr) else (⟨bk, off, none⟩ : Addr).add (1 * 6)) = ad := ⟨_, rfl⟩
  rw [had] at VT VX
  simp only [had] at hsl
  have HG := Lib.hid hg
  clear had hg
  obtain ⟨⟨q0, q1⟩, f0, f1⟩ := twoQ A.out
  obtain ⟨⟨p0, p1, p2, p3, p4, p5⟩, ⟨s0, s1, s2, s3, s4, s5⟩⟩ := sixQ C.out
  obtain ⟨⟨r0, r1⟩, g0, g1⟩ := twoQ R.out
  go_enter Tryz.func52, Tryz.ntmps52
  go_upto_region 3 with fail
  clear q0 q1 f0 f1 p0 p1 p2 p3 p4 p5 s0 s1 s2 s3 s4 s5 r0 r1 g0 g1 h0 h1 h2 h3 h4 h5
  generalize ((w.alloc (.cells #[.slice (some ⟨bk, off, none⟩) l.length cap, .bool la] 26)).alloc (.cells #[.string ⟨#[]⟩, .bool false, .int .i64 0, .int .i64 0, .int .i64 0, .string ⟨#[]⟩] 34)).alloc (.cells #[.slice none 0 0, .bool false] 26) = W1 at A C R V VT HB ⊢
  have hA := (Array.getElem?_eq_some_iff.1 A.out).1
  have hC := (Array.getElem?_eq_some_iff.1 C.out).1
  have hR := (Array.getElem?_eq_some_iff.1 R.out).1
  obtain ⟨bk', off', e', h0, h1, h2, h3, h4, h5⟩ := V.out.row (Below.refl _ _) 0 hpos
  rw [HG.out] at h0 h1 h2 h3 h4 h5
  simp only [Nat.zero_mul, Nat.add_zero] at h0 h1 h2 h3 h4 h5
  simp only [Option.some.injEq, Addr.mk.injEq, and_true] at e'
  obtain ⟨rfl, rfl⟩ := e'
  obtain ⟨⟨q0, q1⟩, f0, f1⟩ := twoQ A.out
  obtain ⟨⟨p0, p1, p2, p3, p4, p5⟩, ⟨s0, s1, s2, s3, s4, s5⟩⟩ := sixQ C.out
  obtain ⟨⟨r0, r1⟩, g0, g1⟩ := twoQ R.out
  go_wp2_with fail
  go_region
  go_wp2_with fail
  have hle1 : w.heap.size ≤ w.heap.size + 1 := by omega
  have hle2 : w.heap.size ≤ w.heap.size + 1 + 1 := by omega
  refine bodyPost_ret (v := .tuple #[.agg #[.string ⟨c.toArray⟩, .bool on, .int .i64 a, .int .i64 b, .int .i64 d, .string ⟨st.toArray⟩], .agg #[.slice (some ad) (l.length - 1) (cap - 1), .bool la], .bool true]) (by simp [results, Tryz.results52, go_sem, p0, p1, p2, p3, p4, p5, r0, r1]) rfl ⟨_, rfl, ?_, ?_⟩
  · exact fun X hX => chgs_of (VX.out X hX)
  · exact Below.drew (((store6Q HB.out hle1 0 1 2 3 4 5 _ _ _ _ _ _).setCell hle2 _).setCell hle2 _)

/-- What waits: rows that came in. -/
def KQR (w _W : World) (v : Value) (l : List Chg) : Prop := ∀ X, Below w.heap.size w X → Chgs X v l

theorem KQR.chgs {w W : World} {v : Value} {l : List Chg} (h : KQR w W v l) (hb : Below w.heap.size w W) : Chgs W v l := h W hb
theorem KQR.later {w W X : World} {v : Value} {l : List Chg} (h : KQR w W v l) (_ : Below W.heap.size W X) : KQR w X v l := h
theorem KQR.past {w W X : World} {v : Value} {l : List Chg} (h : KQR w W v l) {B : Nat} {cs : Array Value} {T : TypeId} (_ : W.heap[B]? = some (.cells cs T (0, 0))) (_ : 34 ≠ T) (_ : ∀ k, ¬ k = B → X.heap[k]? = W.heap[k]?) : KQR w X v l := h
theorem KQR.app {w W X : World} {v u : Value} {l : List Chg} {t : List FrS} (h : KQR w W v l) (_ : OwnS frVals 10 60 W w.heap.size u t) (_ : AppFar W X u) : KQR w X v l := h

/-- A frame's table: rows that came in, or none. -/
def KTR (w _W : World) (p : FrS) : Prop := ∀ X, Below w.heap.size w X → Tab X p.tv p.f.t

/-- Frames of the call's own. -/
def KG (w W : World) (v : Value) (ps : List FrS) : Prop := OwnS frVals 10 60 W w.heap.size v ps ∧ ∀ p ∈ ps, KTR w W p

theorem KG.later {w W X : World} {v : Value} {ps : List FrS} (h : KG w W v ps) (hb : Below W.heap.size W X) : KG w X v ps := ⟨OwnS.later h.1 hb, h.2⟩
theorem KG.past {w W X : World} {v : Value} {ps : List FrS} (h : KG w W v ps) {B : Nat} {cs : Array Value} {T : TypeId} (hb : W.heap[B]? = some (.cells cs T (0, 0))) (hne : 60 ≠ T) (hfar : ∀ k, ¬ k = B → X.heap[k]? = W.heap[k]?) : KG w X v ps :=
  ⟨row_past h.1 hb hne hfar, h.2⟩
theorem KG.more {w W X : World} {v u : Value} {ps : List FrS} {p : FrS} (h : KG w W v ps) (hp : KTR w W p) (hown : OwnS frVals 10 60 X w.heap.size u (ps ++ [p])) (_ : AppFar W X v) : KG w X u (ps ++ [p]) :=
  ⟨hown, fun q hq => by
    rcases List.mem_append.1 hq with hq | hq
    · exact h.2 q hq
    · rw [List.mem_singleton] at hq; subst hq; exact hp⟩

theorem kg_nil (w W : World) : KG w W (.slice none 0 0) [] := ⟨ownS_nil _ _, fun p hp => by cases hp⟩

theorem ktr_none (w W : World) (f : Frm) (h : f.t = []) : KTR w W ⟨f, none, 0, 0⟩ := fun X _ => by
  rw [show (⟨f, none, 0, 0⟩ : FrS).f.t = [] from h]
  exact OwnR.tab (ownR_nil X 0)

theorem kg_shape {w W : World} {v : Value} {ps : List FrS} (h : KG w W v ps) : ∃ a c, v = .slice a ps.length c := by
  rcases h.1.2 with ⟨rfl, h0⟩ | ⟨g, cap, cur, h', _⟩
  · exact ⟨none, 0, by rw [h0]⟩
  · exact ⟨_, _, h'⟩

/-- What the document's Emit tells. -/
def EmittedR (w : World) (M : Lnk) (fs : List Frm) (e : Ending) (w' : World) : Prop :=
  ∃ u fv ps, e = .returned (.tuple #[.agg #[.int .i64 M.seq, u, .bool M.q.la, .int .i64 M.b.tok, .int .i64 M.b.at', .bool M.sn, .int .i64 M.dg], fv]) ∧ Chgs w' u M.q.l ∧ KG w w' fv ps ∧ ps.map FrS.f = fs ∧ Below w.heap.size w w'

end Go.Proofs.YtndicdomdndjaaaGreat

end

section

/-
  LAYER 16, THE DOCUMENT's: what may be, levels, what is taken, waits.
-/
namespace Go.Proofs.YtndicdomdndjaaaGreat
open Go.RowKit

set_option maxHeartbeats 1600000 in
set_option maxRecDepth 100000 in
theorem rptime_any (n : Int) (w : World) :
    Calls Tryz.prog 27 #[.int .i64 n] w fun e w' => e = .returned (.bool (pcTime n)) ∧ w = w' := by
  unfold pcTime
  cases h1 : decide (0 ≤ n)
  · go_enter Tryz.func27, Tryz.ntmps27
    go_wp2_with fail
    go_ret
    exact ⟨rfl, rfl⟩
  · go_enter Tryz.func27, Tryz.ntmps27
    go_wp2_with fail
    go_ret
    exact ⟨rfl, rfl⟩

set_option maxHeartbeats 1600000 in
set_option maxRecDepth 100000 in
theorem rpmay_any (a b d e : Int) {r : Bool} (h : Hid (pcMay ⟨a, b, d, e⟩ = r)) (w : World) :
    Calls Tryz.prog 59 #[.agg #[.int .i64 a, .int .i64 b, .int .i64 d, .int .i64 e]] w fun e w' => e = .returned (.bool r) ∧ Below w.heap.size w w' := by
  have B0 := Lib.hid (bl_newZ w (.cells #[.int .i64 a, .int .i64 b, .int .i64 d, .int .i64 e] 23))
  have HR := h.out
  unfold pcMay at HR
  simp only at HR
  clear h
  cases t0 : decide (1 ≤ a) with
  | false =>
    rw [t0] at HR
    obtain rfl : false = r := HR
    go_enter Tryz.func59, Tryz.ntmps59
    go_wp2_with fail
    go_ret
    exact ⟨rfl, B0.out⟩
  | true =>
    cases t1 : decide (a ≤ 16) with
    | false =>
      rw [t0, t1] at HR
      obtain rfl : false = r := HR
      go_enter Tryz.func59, Tryz.ntmps59
      go_wp2_with fail
      go_ret
      exact ⟨rfl, B0.out⟩
    | true =>
      cases t2 : decide (1 ≤ b) with
      | false =>
        rw [t0, t1, t2] at HR
        obtain rfl : false = r := HR
        go_enter Tryz.func59, Tryz.ntmps59
        go_wp2_with fail
        go_ret
        exact ⟨rfl, B0.out⟩
      | true =>
        cases t3 : decide (b ≤ 64) with
        | false =>
          rw [t0, t1, t2, t3] at HR
          obtain rfl : false = r := HR
          go_enter Tryz.func59, Tryz.ntmps59
          go_wp2_with fail
          go_ret
          exact ⟨rfl, B0.out⟩
        | true =>
          cases t4 : decide (1 ≤ d) with
          | false =>
            rw [t0, t1, t2, t3, t4] at HR
            obtain rfl : false = r := HR
            go_enter Tryz.func59, Tryz.ntmps59
            go_wp2_with fail
            go_ret
            exact ⟨rfl, B0.out⟩
          | true =>
            cases t5 : decide (d ≤ 16) with
            | false =>
              rw [t0, t1, t2, t3, t4, t5] at HR
              obtain rfl : false = r := HR
              go_enter Tryz.func59, Tryz.ntmps59
              go_wp2_with fail
              go_ret
              exact ⟨rfl, B0.out⟩
            | true =>
              cases t6 : decide (1 ≤ e) with
              | false =>
                rw [t0, t1, t2, t3, t4, t5, t6] at HR
                obtain rfl : false = r := HR
                go_enter Tryz.func59, Tryz.ntmps59
                go_wp2_with fail
                go_ret
                exact ⟨rfl, B0.out⟩
              | true =>
                cases t7 : decide (e ≤ 1000) with
                | false =>
                  rw [t0, t1, t2, t3, t4, t5, t6, t7] at HR
                  obtain rfl : false = r := HR
                  go_enter Tryz.func59, Tryz.ntmps59
                  go_wp2_with fail
                  go_ret
                  exact ⟨rfl, B0.out⟩
                | true =>
                  rw [t0, t1, t2, t3, t4, t5, t6, t7] at HR
                  obtain rfl : true = r := HR
                  go_enter Tryz.func59, Tryz.ntmps59
                  go_wp2_with fail
                  go_ret
                  exact ⟨rfl, B0.out⟩

theorem pcOne_split (a b d e tok at' : Int) : pcOne ⟨a, b, d, e⟩ ⟨tok, at'⟩ = (pcMay ⟨a, b, d, e⟩ && (decide (0 ≤ tok) && (decide (tok ≤ b) && pcTime at'))) := rfl

set_option maxHeartbeats 1600000 in
set_option maxRecDepth 100000 in
theorem rpone_any (a b d e tok at' : Int) {r : Bool} (h : Hid (pcOne ⟨a, b, d, e⟩ ⟨tok, at'⟩ = r)) (w : World) :
    Calls Tryz.prog 42 #[.agg #[.int .i64 a, .int .i64 b, .int .i64 d, .int .i64 e], .agg #[.int .i64 tok, .int .i64 at']] w fun e w' => e = .returned (.bool r) ∧ Below w.heap.size w w' := by
  have HB := Lib.hid (boxes_below w a b d e tok at')
  have K0 := Lib.hid (boxes_cfg w a b d e tok at')
  have K1 := Lib.hid (boxes_bkt w a b d e tok at')
  have HR := h.out
  rw [pcOne_split] at HR
  obtain ⟨q1, h1⟩ : ∃ q, pcMay ⟨a, b, d, e⟩ = q := ⟨_, rfl⟩
  have H1 := Lib.hid (rpmay_any a b d e (Lib.hid h1))
  have H2 := Lib.hid (rptime_any at')
  obtain ⟨q2, h2⟩ : ∃ q, pcTime at' = q := ⟨_, rfl⟩
  rw [h2] at H2 HR
  rw [h1] at HR
  clear h h1 h2
  cases q1 with
  | false =>
    obtain rfl : false = r := HR
    go_enter Tryz.func42, Tryz.ntmps42
    go_wp2_with fail
    refine (H1.out _).mono ?_
    rintro e w1 ⟨rfl, b1⟩
    replace K0 := Lib.hid (K0.out.later b1)
    replace K1 := Lib.hid (K1.out.later b1)
    replace HB := Lib.hid (below2Z HB.out b1)
    obtain ⟨c0, c1, c2, c3⟩ := cells4P K0.out
    obtain ⟨d0, d1⟩ := cells2P K1.out
    clear b1
    go_wp2_with fail
    go_ret
    exact ⟨rfl, HB.out⟩
  | true =>
    cases t1 : decide (0 ≤ tok) with
    | false =>
      rw [t1] at HR
      obtain rfl : false = r := HR
      go_enter Tryz.func42, Tryz.ntmps42
      go_wp2_with fail
      refine (H1.out _).mono ?_
      rintro e w1 ⟨rfl, b1⟩
      replace K0 := Lib.hid (K0.out.later b1)
      replace K1 := Lib.hid (K1.out.later b1)
      replace HB := Lib.hid (below2Z HB.out b1)
      obtain ⟨c0, c1, c2, c3⟩ := cells4P K0.out
      obtain ⟨d0, d1⟩ := cells2P K1.out
      clear b1
      go_wp2_with fail
      go_ret
      exact ⟨rfl, HB.out⟩
    | true =>
      cases t2 : decide (tok ≤ b) with
      | false =>
        rw [t1, t2] at HR
        obtain rfl : false = r := HR
        go_enter Tryz.func42, Tryz.ntmps42
        go_wp2_with fail
        refine (H1.out _).mono ?_
        rintro e w1 ⟨rfl, b1⟩
        replace K0 := Lib.hid (K0.out.later b1)
        replace K1 := Lib.hid (K1.out.later b1)
        replace HB := Lib.hid (below2Z HB.out b1)
        obtain ⟨c0, c1, c2, c3⟩ := cells4P K0.out
        obtain ⟨d0, d1⟩ := cells2P K1.out
        clear b1
        go_wp2_with fail
        go_ret
        exact ⟨rfl, HB.out⟩
      | true =>
        rw [t1, t2] at HR
        replace HR : q2 = r := by rw [← HR]; rfl
        subst HR
        go_enter Tryz.func42, Tryz.ntmps42
        go_wp2_with fail
        refine (H1.out _).mono ?_
        rintro e w1 ⟨rfl, b1⟩
        replace K0 := Lib.hid (K0.out.later b1)
        replace K1 := Lib.hid (K1.out.later b1)
        replace HB := Lib.hid (below2Z HB.out b1)
        obtain ⟨c0, c1, c2, c3⟩ := cells4P K0.out
        obtain ⟨d0, d1⟩ := cells2P K1.out
        clear b1
        go_wp2_with fail
        refine (H2.out _).mono ?_
        rintro e w2 ⟨rfl, rfl⟩
        go_wp2_with fail
        go_ret
        exact ⟨rfl, HB.out⟩

set_option maxHeartbeats 1600000 in
set_option maxRecDepth 100000 in
theorem rplevel_any (a b d e tok at' now : Int) {r : Int} (h : Hid (pcLevel ⟨a, b, d, e⟩ ⟨tok, at'⟩ now = r)) (w : World) :
    Calls Tryz.prog 28 #[.agg #[.int .i64 a, .int .i64 b, .int .i64 d, .int .i64 e], .agg #[.int .i64 tok, .int .i64 at'], .int .i64 now] w fun e w' => e = .returned (.int .i64 r) ∧ Below w.heap.size w w' := by
  have HB := Lib.hid (boxes_below w a b d e tok at')
  have K0 := Lib.hid (boxes_cfg w a b d e tok at')
  have K1 := Lib.hid (boxes_bkt w a b d e tok at')
  have HR := h.out
  unfold pcLevel at HR
  clear h
  obtain ⟨q1, h1⟩ : ∃ q, pcOne ⟨a, b, d, e⟩ ⟨tok, at'⟩ = q := ⟨_, rfl⟩
  obtain ⟨q2, h2⟩ : ∃ q, pcTime now = q := ⟨_, rfl⟩
  have H1 := Lib.hid (rpone_any a b d e tok at' (Lib.hid h1))
  have H2 := Lib.hid (rptime_any now)
  rw [h2] at H2
  rw [h1, h2] at HR
  cases q1 with
  | false =>
    simp at HR
    subst HR
    clear h1 h2
    go_enter Tryz.func28, Tryz.ntmps28
    go_wp2_with fail
    refine (H1.out _).mono ?_
    rintro e w1 ⟨rfl, b1⟩
    replace K0 := Lib.hid (K0.out.later b1)
    replace K1 := Lib.hid (K1.out.later b1)
    replace HB := Lib.hid (below2Z HB.out b1)
    clear b1
    go_wp2_with fail
    go_ret
    exact ⟨rfl, HB.out⟩
  | true =>
    cases q2 with
    | false =>
      simp at HR
      subst HR
      clear h1 h2
      go_enter Tryz.func28, Tryz.ntmps28
      go_wp2_with fail
      refine (H1.out _).mono ?_
      rintro e w1 ⟨rfl, b1⟩
      replace K0 := Lib.hid (K0.out.later b1)
      replace K1 := Lib.hid (K1.out.later b1)
      replace HB := Lib.hid (below2Z HB.out b1)
      clear b1
      go_wp2_with fail
      refine (H2.out _).mono ?_
      rintro e w2 ⟨rfl, rfl⟩
      go_wp2_with fail
      go_ret
      exact ⟨rfl, HB.out⟩
    | true =>
      simp only [Bool.and_self, if_true] at HR
      obtain ⟨hm, o1, o2, o3, o4⟩ := pcOne_iff.1 h1
      obtain ⟨_, _, m1, m2, m3, m4, _, _⟩ := pcMay_iff.1 hm
      obtain ⟨s1, s2⟩ := pcTime_iff.1 h2
      simp only at o1 o2 o3 o4 m1 m2 m3 m4
      unfold pcLev at HR
      simp only at HR
      by_cases hn : now ≤ at'
      · rw [if_pos hn] at HR
        subst HR
        have t1 : decide (now ≤ at') = true := by simpa using hn
        clear h1 h2 hm o1 o2 o3 o4 m1 m2 m3 m4 s1 s2 hn
        go_enter Tryz.func28, Tryz.ntmps28
        go_wp2_with fail
        refine (H1.out _).mono ?_
        rintro e w1 ⟨rfl, b1⟩
        replace K0 := Lib.hid (K0.out.later b1)
        replace K1 := Lib.hid (K1.out.later b1)
        replace HB := Lib.hid (below2Z HB.out b1)
        obtain ⟨c0, c1, c2, c3⟩ := cells4P K0.out
        obtain ⟨d0, d1⟩ := cells2P K1.out
        clear b1
        go_wp2_with fail
        refine (H2.out _).mono ?_
        rintro e w2 ⟨rfl, rfl⟩
        go_wp2_with fail
        go_ret
        exact ⟨rfl, HB.out⟩
      · rw [if_neg hn] at HR
        subst HR
        have t1 : decide (now ≤ at') = false := by simpa using hn
        have hp : 0 ≤ (now - at') * d ∧ (now - at') * d ≤ 1099511627776 * 16 := ⟨Int.mul_nonneg (by omega) (by omega), Int.mul_le_mul (by omega) m4 (by omega) (by omega)⟩
        have w1' : IntKind.i64.wrap (now - at') = now - at' := IntWalk.i64_in _ (by omega)
        have w2' : IntKind.i64.wrap ((now - at') * d) = (now - at') * d := IntWalk.i64_in _ (by omega)
        have w3' : IntKind.i64.wrap (tok + (now - at') * d) = tok + (now - at') * d := IntWalk.i64_in _ (by omega)
        clear h1 h2 hm o1 o2 o3 o4 m1 m2 m3 m4 s1 s2 hn hp
        go_enter Tryz.func28, Tryz.ntmps28
        go_wp2_with fail
        refine (H1.out _).mono ?_
        rintro e w1 ⟨rfl, b1⟩
        replace K0 := Lib.hid (K0.out.later b1)
        replace K1 := Lib.hid (K1.out.later b1)
        replace HB := Lib.hid (below2Z HB.out b1)
        obtain ⟨c0, c1, c2, c3⟩ := cells4P K0.out
        obtain ⟨d0, d1⟩ := cells2P K1.out
        clear b1
        go_wp2_with fail
        refine (H2.out _).mono ?_
        rintro e w2 ⟨rfl, rfl⟩
        go_wp2_with fail
        go_ret
        exact ⟨rfl, HB.out⟩

set_option maxHeartbeats 1600000 in
set_option maxRecDepth 100000 in
theorem rptake_any (a b d e tok at' now : Int) {x y : Int} {is : Bool} (h : Hid (pcTake ⟨a, b, d, e⟩ ⟨tok, at'⟩ now = (⟨x, y⟩, is))) (w : World) :
    Calls Tryz.prog 51 #[.agg #[.int .i64 a, .int .i64 b, .int .i64 d, .int .i64 e], .agg #[.int .i64 tok, .int .i64 at'], .int .i64 now] w fun e w' => e = .returned (.tuple #[.agg #[.int .i64 x, .int .i64 y], .bool is]) ∧ Below w.heap.size w w' := by
  have HB := Lib.hid (below2Z (boxes_below w a b d e tok at') (bl_newZ _ (.cells #[.int .i64 0, .int .i64 0] 28)))
  have K0 := Lib.hid ((boxes_cfg w a b d e tok at').later (bl_newZ _ (.cells #[.int .i64 0, .int .i64 0] 28)))
  have K1 := Lib.hid ((boxes_bkt w a b d e tok at').later (bl_newZ _ (.cells #[.int .i64 0, .int .i64 0] 28)))
  have K2 := Lib.hid (boxR_at (boxes w a b d e tok at') (B := w.heap.size + 1 + 1) (by simp [boxes]))
  have FZ := Lib.hid (boxR_free (boxes w a b d e tok at') (B := w.heap.size + 1 + 1) (by simp [boxes]))
  have HR := h.out
  unfold pcTake at HR
  clear h
  obtain ⟨q1, h1⟩ : ∃ q, pcOne ⟨a, b, d, e⟩ ⟨tok, at'⟩ = q := ⟨_, rfl⟩
  obtain ⟨q2, h2⟩ : ∃ q, pcTime now = q := ⟨_, rfl⟩
  have H1 := Lib.hid (rpone_any a b d e tok at' (Lib.hid h1))
  have H2 := Lib.hid (rptime_any now)
  rw [h2] at H2
  rw [h1, h2] at HR
  cases q1 with
  | false =>
    simp at HR
    obtain ⟨⟨rfl, rfl⟩, rfl⟩ := HR
    clear h1 h2
    go_enter Tryz.func51, Tryz.ntmps51
    go_wp2_with fail
    refine (H1.out _).mono ?_
    rintro e w1 ⟨rfl, b1⟩
    have fz := free_later (World.block_lt_of_cell? _ _ (K2.out 0 _ rfl)) FZ.out b1
    replace K0 := Lib.hid (K0.out.later b1)
    replace K1 := Lib.hid (K1.out.later b1)
    replace K2 := Lib.hid (K2.out.later b1)
    replace FZ := Lib.hid fz
    replace HB := Lib.hid (below2Z HB.out b1)
    clear fz b1
    obtain ⟨c0, c1, c2, c3⟩ := cells4P K0.out
    obtain ⟨d0, d1⟩ := cells2P K1.out
    obtain ⟨z0, z1⟩ := cells2P K2.out
    have f0 := FZ.out 0
    have f1 := FZ.out 1
    go_wp2_with fail
    obtain ⟨r0, r1⟩ := set2_get w1 (w.heap.size + 1 + 1) (.int .i64 tok) (.int .i64 at') z0 z1
    have hB := set2_below HB.out (w.heap.size + 1 + 1) (by omega) (.int .i64 tok) (.int .i64 at')
    show bodyPost _ _ _ _ _ (setMany w1 [(⟨w.heap.size + 1 + 1, 0, none⟩, .int .i64 tok), (⟨w.heap.size + 1 + 1, 1, none⟩, .int .i64 at')])
    exact bodyPost_ret (v := .tuple #[.agg #[.int .i64 tok, .int .i64 at'], .bool false]) (by simp [results, Tryz.results51, go_sem, r0, r1]) rfl ⟨rfl, hB⟩
  | true =>
    cases q2 with
    | false =>
      simp at HR
      obtain ⟨⟨rfl, rfl⟩, rfl⟩ := HR
      clear h1 h2
      go_enter Tryz.func51, Tryz.ntmps51
      go_wp2_with fail
      refine (H1.out _).mono ?_
      rintro e w1 ⟨rfl, b1⟩
      have fz := free_later (World.block_lt_of_cell? _ _ (K2.out 0 _ rfl)) FZ.out b1
      replace K0 := Lib.hid (K0.out.later b1)
      replace K1 := Lib.hid (K1.out.later b1)
      replace K2 := Lib.hid (K2.out.later b1)
      replace FZ := Lib.hid fz
      replace HB := Lib.hid (below2Z HB.out b1)
      clear fz b1
      obtain ⟨c0, c1, c2, c3⟩ := cells4P K0.out
      obtain ⟨d0, d1⟩ := cells2P K1.out
      obtain ⟨z0, z1⟩ := cells2P K2.out
      have f0 := FZ.out 0
      have f1 := FZ.out 1
      go_wp2_with fail
      refine (H2.out _).mono ?_
      rintro e w2 ⟨rfl, rfl⟩
      go_wp2_with fail
      obtain ⟨r0, r1⟩ := set2_get w1 (w.heap.size + 1 + 1) (.int .i64 tok) (.int .i64 at') z0 z1
      have hB := set2_below HB.out (w.heap.size + 1 + 1) (by omega) (.int .i64 tok) (.int .i64 at')
      show bodyPost _ _ _ _ _ (setMany w1 [(⟨w.heap.size + 1 + 1, 0, none⟩, .int .i64 tok), (⟨w.heap.size + 1 + 1, 1, none⟩, .int .i64 at')])
      exact bodyPost_ret (v := .tuple #[.agg #[.int .i64 tok, .int .i64 at'], .bool false]) (by simp [results, Tryz.results51, go_sem, r0, r1]) rfl ⟨rfl, hB⟩
    | true =>
      simp only [Bool.and_self, if_true] at HR
      have hl := pcLevel_in h1 h2
      obtain ⟨g1, g2⟩ := pcLev_in (now := now) h1
      obtain ⟨lev, hlev⟩ : ∃ v, pcLev ⟨a, b, d, e⟩ ⟨tok, at'⟩ now = v := ⟨_, rfl⟩
      rw [hlev] at hl HR g1 g2
      have HL := Lib.hid (rplevel_any a b d e tok at' now (Lib.hid hl))
      clear h1 h2 hlev hl
      by_cases h0 : lev = 0
      · subst h0
        simp at HR
        obtain ⟨⟨rfl, rfl⟩, rfl⟩ := HR
        clear g1 g2
        go_enter Tryz.func51, Tryz.ntmps51
        go_wp2_with fail
        refine (H1.out _).mono ?_
        rintro e w1 ⟨rfl, b1⟩
        have fz := free_later (World.block_lt_of_cell? _ _ (K2.out 0 _ rfl)) FZ.out b1
        replace K0 := Lib.hid (K0.out.later b1)
        replace K1 := Lib.hid (K1.out.later b1)
        replace K2 := Lib.hid (K2.out.later b1)
        replace FZ := Lib.hid fz
        replace HB := Lib.hid (below2Z HB.out b1)
        clear fz b1
        obtain ⟨c0, c1, c2, c3⟩ := cells4P K0.out
        obtain ⟨d0, d1⟩ := cells2P K1.out
        obtain ⟨z0, z1⟩ := cells2P K2.out
        have f0 := FZ.out 0
        have f1 := FZ.out 1
        go_wp2_with fail
        refine (H2.out _).mono ?_
        rintro e w2 ⟨rfl, rfl⟩
        go_wp2_with fail
        clear c0 c1 c2 c3 d0 d1 z0 z1 f0 f1
        refine (HL.out _).mono ?_
        rintro e w3 ⟨rfl, b3⟩
        have fz := free_later (World.block_lt_of_cell? _ _ (K2.out 0 _ rfl)) FZ.out b3
        replace K0 := Lib.hid (K0.out.later b3)
        replace K1 := Lib.hid (K1.out.later b3)
        replace K2 := Lib.hid (K2.out.later b3)
        replace FZ := Lib.hid fz
        replace HB := Lib.hid (below2Z HB.out b3)
        clear fz b3
        obtain ⟨c0, c1, c2, c3⟩ := cells4P K0.out
        obtain ⟨d0, d1⟩ := cells2P K1.out
        obtain ⟨z0, z1⟩ := cells2P K2.out
        have f0 := FZ.out 0
        have f1 := FZ.out 1
        go_wp2_with fail
        obtain ⟨r0, r1⟩ := set2_get w3 (w.heap.size + 1 + 1) (.int .i64 0) (.int .i64 (max now at')) z0 z1
        have hB := set2_below HB.out (w.heap.size + 1 + 1) (by omega) (.int .i64 0) (.int .i64 (max now at'))
        show bodyPost _ _ _ _ _ (setMany w3 [(⟨w.heap.size + 1 + 1, 0, none⟩, .int .i64 0), (⟨w.heap.size + 1 + 1, 1, none⟩, .int .i64 (max now at'))])
        exact bodyPost_ret (v := .tuple #[.agg #[.int .i64 0, .int .i64 (max now at')], .bool false]) (by simp [results, Tryz.results51, go_sem, r0, r1]) rfl ⟨rfl, hB⟩
      · rw [if_neg h0] at HR
        simp only [Prod.mk.injEq, Bkt.mk.injEq] at HR
        obtain ⟨⟨rfl, rfl⟩, rfl⟩ := HR
        have t1 : (lev == 0) = false := by rw [beq_eq_false_iff_ne]; exact h0
        have w1' : IntKind.i64.wrap (lev - 1) = lev - 1 := IntWalk.i64_in _ (by omega)
        clear g1 g2 h0
        go_enter Tryz.func51, Tryz.ntmps51
        go_wp2_with fail
        refine (H1.out _).mono ?_
        rintro e w1 ⟨rfl, b1⟩
        have fz := free_later (World.block_lt_of_cell? _ _ (K2.out 0 _ rfl)) FZ.out b1
        replace K0 := Lib.hid (K0.out.later b1)
        replace K1 := Lib.hid (K1.out.later b1)
        replace K2 := Lib.hid (K2.out.later b1)
        replace FZ := Lib.hid fz
        replace HB := Lib.hid (below2Z HB.out b1)
        clear fz b1
        obtain ⟨c0, c1, c2, c3⟩ := cells4P K0.out
        obtain ⟨d0, d1⟩ := cells2P K1.out
        obtain ⟨z0, z1⟩ := cells2P K2.out
        have f0 := FZ.out 0
        have f1 := FZ.out 1
        go_wp2_with fail
        refine (H2.out _).mono ?_
        rintro e w2 ⟨rfl, rfl⟩
        go_wp2_with fail
        clear c0 c1 c2 c3 d0 d1 z0 z1 f0 f1
        refine (HL.out _).mono ?_
        rintro e w3 ⟨rfl, b3⟩
        have fz := free_later (World.block_lt_of_cell? _ _ (K2.out 0 _ rfl)) FZ.out b3
        replace K0 := Lib.hid (K0.out.later b3)
        replace K1 := Lib.hid (K1.out.later b3)
        replace K2 := Lib.hid (K2.out.later b3)
        replace FZ := Lib.hid fz
        replace HB := Lib.hid (below2Z HB.out b3)
        clear fz b3
        obtain ⟨c0, c1, c2, c3⟩ := cells4P K0.out
        obtain ⟨d0, d1⟩ := cells2P K1.out
        obtain ⟨z0, z1⟩ := cells2P K2.out
        have f0 := FZ.out 0
        have f1 := FZ.out 1
        go_wp2_with fail
        obtain ⟨r0, r1⟩ := set2_get w3 (w.heap.size + 1 + 1) (.int .i64 (lev - 1)) (.int .i64 (max now at')) z0 z1
        have hB := set2_below HB.out (w.heap.size + 1 + 1) (by omega) (.int .i64 (lev - 1)) (.int .i64 (max now at'))
        show bodyPost _ _ _ _ _ (setMany w3 [(⟨w.heap.size + 1 + 1, 0, none⟩, .int .i64 (lev - 1)), (⟨w.heap.size + 1 + 1, 1, none⟩, .int .i64 (max now at'))])
        exact bodyPost_ret (v := .tuple #[.agg #[.int .i64 (lev - 1), .int .i64 (max now at')], .bool true]) (by simp [results, Tryz.results51, go_sem, r0, r1]) rfl ⟨rfl, hB⟩

end Go.Proofs.YtndicdomdndjaaaGreat

end

section

/-
  LAYER 18: the document's New, May, Push, Ask, Quiet, Same, Few.
-/
namespace Go.Proofs.YtndicdomdndjaaaGreat
open Go.RowKit

set_option linter.unusedSimpArgs false

set_option maxHeartbeats 3200000 in
set_option maxRecDepth 100000 in
theorem rlfew_any {w : World} {v : Value} {l : List Chg} (hv : Chgs w v l) (la sn : Bool) (seq tok at' dg : Int) {r : Bool} (hr : Hid (fewC l 30 = r)) :
    Calls Tryz.prog 8 #[.agg #[.int .i64 seq, v, .bool la, .int .i64 tok, .int .i64 at', .bool sn, .int .i64 dg]] w fun e w' => e = .returned (.bool r) ∧ Below w.heap.size w w' := by
  obtain ⟨n, hn⟩ : ∃ n, l.length = n := ⟨_, rfl⟩
  obtain ⟨ao, cap, rfl⟩ := chgs_shape hv hn
  have b0 := bl_newZ w (.cells #[.int .i64 seq, .slice ao n cap, .bool la, .int .i64 tok, .int .i64 at', .bool sn, .int .i64 dg] 30)
  have HB := Lib.hid b0
  have V := Lib.hid (hv.later b0)
  have LB := newQ w (.cells #[.int .i64 seq, .slice ao n cap, .bool la, .int .i64 tok, .int .i64 at', .bool sn, .int .i64 dg] 30)
  replace LB := Lib.hid LB
  clear b0
  have HR := hr
  clear hv hn hr
  obtain ⟨⟨LBc0, LBc1, LBc2, LBc3, LBc4, LBc5, LBc6⟩, ⟨LBf0, LBf1, LBf2, LBf3, LBf4, LBf5, LBf6⟩⟩ := blk7 LB.out
  go_enter Tryz.func8, Tryz.ntmps8
  go_wp2_with fail
  clear LBc0 LBc1 LBc2 LBc3 LBc4 LBc5 LBc6 LBf0 LBf1 LBf2 LBf3 LBf4 LBf5 LBf6
  refine (fewq_any V.out la HR).mono ?_
  rintro e w2 ⟨rfl, b2⟩
  replace LB := Lib.hid (upQ LB.out b2)
  replace V := Lib.hid (V.out.later b2)
  replace HB := Lib.hid (below2Z HB.out b2)
  clear b2
  go_wp2_with fail
  go_ret
  exact ⟨rfl, HB.out⟩

theorem bkt_eqInL (d : Nat) (a b a' b' : Int) (w : World) :
    (Op.equalIn (d + 1 + 1) 28 (.agg #[.int .i64 a, .int .i64 b]) (.agg #[.int .i64 a', .int .i64 b'])).run Tryz.prog w = .ok (decide (a = a') && decide (b = b')) w := by
  have hS : Tryz.prog.underlying 28 = some (.struct (Tryz.prog.fieldsOf 28)) := by kernel_rfl
  have hp : Tryz.prog.stoodInHeld 28 = false := by kernel_rfl
  have u3 := Tryz.underlying3
  have a3 := Tryz.isAgg3
  have z3 := Tryz.sizeOf3
  rw [run_equalIn_agg w (d + 1) 28 _ _ hS hp]
  simp only [Program.fieldsOf, Tryz.underlying28]
  go_simp
  by_cases h1 : a = a' <;> by_cases h2 : b = b' <;> simp [h1, h2]

theorem bkt_eqlL (a b a' b' : Int) {r : Bool} (h : (decide (a = a') && decide (b = b')) = r) : ∀ w, (binOp .eql 28 (.agg #[.int .i64 a, .int .i64 b]) (.agg #[.int .i64 a', .int .i64 b'])).run Tryz.prog w = .ok (.bool r) w := fun w => by
  rw [run_eql_struct, show (10000 : Nat) = 9998 + 1 + 1 from rfl, bkt_eqInL 9998, h]
  rfl

theorem bool_eqlL (q : Bool) : (q == q) = true := by cases q <;> rfl

set_option maxHeartbeats 3200000 in
set_option maxRecDepth 100000 in
theorem rlsame_yes {w : World} {v u : Value} {l : List Chg} (hv : Chgs w v l) (hu : Chgs w u l) (la sn : Bool) (seq tok at' dg : Int) :
    Calls Tryz.prog 13 #[.agg #[.int .i64 seq, v, .bool la, .int .i64 tok, .int .i64 at', .bool sn, .int .i64 dg], .agg #[.int .i64 seq, u, .bool la, .int .i64 tok, .int .i64 at', .bool sn, .int .i64 dg]] w fun e w' => e = .returned (.bool true) ∧ Below w.heap.size w w' := by
  obtain ⟨n, hn⟩ : ∃ n, l.length = n := ⟨_, rfl⟩
  obtain ⟨ao, cap, rfl⟩ := chgs_shape hv hn
  obtain ⟨ao2, cap2, rfl⟩ := chgs_shape hu hn
  have b0 := bl_newZ w (.cells #[.int .i64 seq, .slice ao n cap, .bool la, .int .i64 tok, .int .i64 at', .bool sn, .int .i64 dg] 30)
  have b1 := bl_newZ (w.alloc (.cells #[.int .i64 seq, .slice ao n cap, .bool la, .int .i64 tok, .int .i64 at', .bool sn, .int .i64 dg] 30)) (.cells #[.int .i64 seq, .slice ao2 n cap2, .bool la, .int .i64 tok, .int .i64 at', .bool sn, .int .i64 dg] 30)
  have HB := Lib.hid (below2Z b0 b1)
  have V := Lib.hid ((hv.later b0).later b1)
  have U := Lib.hid ((hu.later b0).later b1)
  have LB := newQ w (.cells #[.int .i64 seq, .slice ao n cap, .bool la, .int .i64 tok, .int .i64 at', .bool sn, .int .i64 dg] 30)
  replace LB := upQ LB b1
  replace LB := Lib.hid LB
  have MB := newQ (w.alloc (.cells #[.int .i64 seq, .slice ao n cap, .bool la, .int .i64 tok, .int .i64 at', .bool sn, .int .i64 dg] 30)) (.cells #[.int .i64 seq, .slice ao2 n cap2, .bool la, .int .i64 tok, .int .i64 at', .bool sn, .int .i64 dg] 30)
  rw [World.size_alloc] at MB
  replace MB := Lib.hid MB
  clear b0 b1
  clear hv hu hn
  have e1 := bkt_eqlL tok at' tok at' (r := true) (by simp)
  have e2 := bool_eqlL la
  have e3 := bool_eqlL sn
  obtain ⟨⟨LBc0, LBc1, LBc2, LBc3, LBc4, LBc5, LBc6⟩, ⟨LBf0, LBf1, LBf2, LBf3, LBf4, LBf5, LBf6⟩⟩ := blk7 LB.out
  obtain ⟨⟨MBc0, MBc1, MBc2, MBc3, MBc4, MBc5, MBc6⟩, ⟨MBf0, MBf1, MBf2, MBf3, MBf4, MBf5, MBf6⟩⟩ := blk7 MB.out
  go_enter Tryz.func13, Tryz.ntmps13
  go_wp2_with fail
  clear LBc0 LBc1 LBc2 LBc3 LBc4 LBc5 LBc6 LBf0 LBf1 LBf2 LBf3 LBf4 LBf5 LBf6 MBc0 MBc1 MBc2 MBc3 MBc4 MBc5 MBc6 MBf0 MBf1 MBf2 MBf3 MBf4 MBf5 MBf6
  refine (qusame_any V.out U.out la la (Lib.hid (quSame_self _))).mono ?_
  rintro e w3 ⟨rfl, b3⟩
  replace LB := Lib.hid (upQ LB.out b3)
  replace MB := Lib.hid (upQ MB.out b3)
  replace V := Lib.hid (V.out.later b3)
  replace U := Lib.hid (U.out.later b3)
  replace HB := Lib.hid (below2Z HB.out b3)
  clear b3
  obtain ⟨⟨LBc0, LBc1, LBc2, LBc3, LBc4, LBc5, LBc6⟩, ⟨LBf0, LBf1, LBf2, LBf3, LBf4, LBf5, LBf6⟩⟩ := blk7 LB.out
  obtain ⟨⟨MBc0, MBc1, MBc2, MBc3, MBc4, MBc5, MBc6⟩, ⟨MBf0, MBf1, MBf2, MBf3, MBf4, MBf5, MBf6⟩⟩ := blk7 MB.out
  go_wp2_with fail
  go_ret
  exact ⟨rfl, HB.out⟩

set_option maxHeartbeats 3200000 in
set_option maxRecDepth 100000 in
/-- P18.1, the document's. -/
theorem rlmay_any {w : World} {v : Value} {l : List Chg} (hv : Chgs w v l) (hs : ShortC l) (hl : l.length ≤ 100) (la sn : Bool) (seq tok at' dg ca cb cd ce : Int) {r : Bool} (hr : Hid (lnMay ⟨ca, cb, cd, ce⟩ ⟨seq, ⟨l, la⟩, ⟨tok, at'⟩, sn, dg⟩ = r)) :
    Calls Tryz.prog 15 #[.agg #[.int .i64 ca, .int .i64 cb, .int .i64 cd, .int .i64 ce], .agg #[.int .i64 seq, v, .bool la, .int .i64 tok, .int .i64 at', .bool sn, .int .i64 dg]] w fun e w' => e = .returned (.bool r) ∧ Below w.heap.size w w' := by
  obtain ⟨n, hn⟩ : ∃ n, l.length = n := ⟨_, rfl⟩
  obtain ⟨ao, cap, rfl⟩ := chgs_shape hv hn
  have HS := Lib.hid hs
  obtain ⟨m0, h0⟩ : ∃ m, pcOne ⟨ca, cb, cd, ce⟩ ⟨tok, at'⟩ = m := ⟨_, rfl⟩
  obtain ⟨m1, h1⟩ : ∃ m, decide (0 ≤ seq) = m := ⟨_, rfl⟩
  obtain ⟨m2, h2⟩ : ∃ m, decide (seq ≤ 1099511627776) = m := ⟨_, rfl⟩
  obtain ⟨m3, h3⟩ : ∃ m, quMay ⟨l, la⟩ ca = m := ⟨_, rfl⟩
  obtain ⟨m4, h4⟩ : ∃ m, pcTime dg = m := ⟨_, rfl⟩
  obtain ⟨m5, h5⟩ : ∃ m, decide (l = []) = m := ⟨_, rfl⟩
  have hr := hr.out
  unfold lnMay at hr
  simp only at hr
  rw [h0, h1, h2, h3, h4, h5] at hr
  subst hr
  have H0 := Lib.hid h0
  have H3 := Lib.hid h3
  have H4 := Lib.hid h4
  clear hs h0 h3 h4
  have t1 : decide (seq < 0) = !m1 := by rw [← h1]; by_cases h : 0 ≤ seq <;> simp [h] <;> omega
  have t2 : decide (1099511627776 < seq) = !m2 := by rw [← h2]; by_cases h : seq ≤ 1099511627776 <;> simp [h] <;> omega
  have t3 : ((n : Int) == 0) = m5 := by rw [← h5, ← hn]; cases l <;> simp <;> omega
  have t4 : (n == 0) = m5 := by rw [← h5, ← hn]; cases l <;> simp
  clear h1 h2 h5
  have b0 := bl_newZ w (.cells #[.int .i64 ca, .int .i64 cb, .int .i64 cd, .int .i64 ce] 23)
  have b1 := bl_newZ (w.alloc (.cells #[.int .i64 ca, .int .i64 cb, .int .i64 cd, .int .i64 ce] 23)) (.cells #[.int .i64 seq, .slice ao n cap, .bool la, .int .i64 tok, .int .i64 at', .bool sn, .int .i64 dg] 30)
  have HB := Lib.hid (below2Z b0 b1)
  have V := Lib.hid ((hv.later b0).later b1)
  have CB := newQ w (.cells #[.int .i64 ca, .int .i64 cb, .int .i64 cd, .int .i64 ce] 23)
  replace CB := upQ CB b1
  replace CB := Lib.hid CB
  have LB := newQ (w.alloc (.cells #[.int .i64 ca, .int .i64 cb, .int .i64 cd, .int .i64 ce] 23)) (.cells #[.int .i64 seq, .slice ao n cap, .bool la, .int .i64 tok, .int .i64 at', .bool sn, .int .i64 dg] 30)
  rw [World.size_alloc] at LB
  replace LB := Lib.hid LB
  clear b0 b1
  clear hv hn
  obtain ⟨⟨CBc0, CBc1, CBc2, CBc3⟩, ⟨CBf0, CBf1, CBf2, CBf3⟩⟩ := blk4 CB.out
  obtain ⟨⟨LBc0, LBc1, LBc2, LBc3, LBc4, LBc5, LBc6⟩, ⟨LBf0, LBf1, LBf2, LBf3, LBf4, LBf5, LBf6⟩⟩ := blk7 LB.out
  go_enter Tryz.func15, Tryz.ntmps15
  go_wp2_with fail
  clear CBc0 CBc1 CBc2 CBc3 CBf0 CBf1 CBf2 CBf3 LBc0 LBc1 LBc2 LBc3 LBc4 LBc5 LBc6 LBf0 LBf1 LBf2 LBf3 LBf4 LBf5 LBf6
  refine (rpone_any ca cb cd ce tok at' H0 _).mono ?_
  rintro e w3 ⟨rfl, b3⟩
  replace CB := Lib.hid (upQ CB.out b3)
  replace LB := Lib.hid (upQ LB.out b3)
  replace V := Lib.hid (V.out.later b3)
  replace HB := Lib.hid (below2Z HB.out b3)
  clear b3
  cases m0 with
  | false =>
    obtain ⟨⟨CBc0, CBc1, CBc2, CBc3⟩, ⟨CBf0, CBf1, CBf2, CBf3⟩⟩ := blk4 CB.out
    obtain ⟨⟨LBc0, LBc1, LBc2, LBc3, LBc4, LBc5, LBc6⟩, ⟨LBf0, LBf1, LBf2, LBf3, LBf4, LBf5, LBf6⟩⟩ := blk7 LB.out
    go_wp2_with fail
    go_ret
    exact ⟨rfl, HB.out⟩
  | true =>
    cases m1 with
    | false =>
      obtain ⟨⟨CBc0, CBc1, CBc2, CBc3⟩, ⟨CBf0, CBf1, CBf2, CBf3⟩⟩ := blk4 CB.out
      obtain ⟨⟨LBc0, LBc1, LBc2, LBc3, LBc4, LBc5, LBc6⟩, ⟨LBf0, LBf1, LBf2, LBf3, LBf4, LBf5, LBf6⟩⟩ := blk7 LB.out
      go_wp2_with fail
      go_ret
      exact ⟨rfl, HB.out⟩
    | true =>
      cases m2 with
      | false =>
        obtain ⟨⟨CBc0, CBc1, CBc2, CBc3⟩, ⟨CBf0, CBf1, CBf2, CBf3⟩⟩ := blk4 CB.out
        obtain ⟨⟨LBc0, LBc1, LBc2, LBc3, LBc4, LBc5, LBc6⟩, ⟨LBf0, LBf1, LBf2, LBf3, LBf4, LBf5, LBf6⟩⟩ := blk7 LB.out
        go_wp2_with fail
        go_ret
        exact ⟨rfl, HB.out⟩
      | true =>
        obtain ⟨⟨CBc0, CBc1, CBc2, CBc3⟩, ⟨CBf0, CBf1, CBf2, CBf3⟩⟩ := blk4 CB.out
        obtain ⟨⟨LBc0, LBc1, LBc2, LBc3, LBc4, LBc5, LBc6⟩, ⟨LBf0, LBf1, LBf2, LBf3, LBf4, LBf5, LBf6⟩⟩ := blk7 LB.out
        go_wp2_with fail
        clear CBc0 CBc1 CBc2 CBc3 CBf0 CBf1 CBf2 CBf3 LBc0 LBc1 LBc2 LBc3 LBc4 LBc5 LBc6 LBf0 LBf1 LBf2 LBf3 LBf4 LBf5 LBf6
        refine (rqumay_any V.out HS.out hl la H3).mono ?_
        rintro e w4 ⟨rfl, b4⟩
        replace CB := Lib.hid (upQ CB.out b4)
        replace LB := Lib.hid (upQ LB.out b4)
        replace V := Lib.hid (V.out.later b4)
        replace HB := Lib.hid (below2Z HB.out b4)
        clear b4
        cases m3 with
        | false =>
          obtain ⟨⟨CBc0, CBc1, CBc2, CBc3⟩, ⟨CBf0, CBf1, CBf2, CBf3⟩⟩ := blk4 CB.out
          obtain ⟨⟨LBc0, LBc1, LBc2, LBc3, LBc4, LBc5, LBc6⟩, ⟨LBf0, LBf1, LBf2, LBf3, LBf4, LBf5, LBf6⟩⟩ := blk7 LB.out
          go_wp2_with fail
          go_ret
          exact ⟨rfl, HB.out⟩
        | true =>
          cases la with
          | true =>
            obtain ⟨⟨CBc0, CBc1, CBc2, CBc3⟩, ⟨CBf0, CBf1, CBf2, CBf3⟩⟩ := blk4 CB.out
            obtain ⟨⟨LBc0, LBc1, LBc2, LBc3, LBc4, LBc5, LBc6⟩, ⟨LBf0, LBf1, LBf2, LBf3, LBf4, LBf5, LBf6⟩⟩ := blk7 LB.out
            go_wp2_with fail
            go_ret
            exact ⟨rfl, HB.out⟩
          | false =>
            obtain ⟨⟨CBc0, CBc1, CBc2, CBc3⟩, ⟨CBf0, CBf1, CBf2, CBf3⟩⟩ := blk4 CB.out
            obtain ⟨⟨LBc0, LBc1, LBc2, LBc3, LBc4, LBc5, LBc6⟩, ⟨LBf0, LBf1, LBf2, LBf3, LBf4, LBf5, LBf6⟩⟩ := blk7 LB.out
            go_wp2_with fail
            refine (rptime_any dg _).mono ?_
            rintro e w95 ⟨rfl, rfl⟩
            rw [H4.out]
            clear CBc0 CBc1 CBc2 CBc3 CBf0 CBf1 CBf2 CBf3 LBc0 LBc1 LBc2 LBc3 LBc4 LBc5 LBc6 LBf0 LBf1 LBf2 LBf3 LBf4 LBf5 LBf6
            cases m4 with
            | false =>
              obtain ⟨⟨CBc0, CBc1, CBc2, CBc3⟩, ⟨CBf0, CBf1, CBf2, CBf3⟩⟩ := blk4 CB.out
              obtain ⟨⟨LBc0, LBc1, LBc2, LBc3, LBc4, LBc5, LBc6⟩, ⟨LBf0, LBf1, LBf2, LBf3, LBf4, LBf5, LBf6⟩⟩ := blk7 LB.out
              go_wp2_with fail
              go_ret
              exact ⟨rfl, HB.out⟩
            | true =>
              cases sn with
              | false =>
                obtain ⟨⟨CBc0, CBc1, CBc2, CBc3⟩, ⟨CBf0, CBf1, CBf2, CBf3⟩⟩ := blk4 CB.out
                obtain ⟨⟨LBc0, LBc1, LBc2, LBc3, LBc4, LBc5, LBc6⟩, ⟨LBf0, LBf1, LBf2, LBf3, LBf4, LBf5, LBf6⟩⟩ := blk7 LB.out
                go_wp2_with fail
                go_ret
                exact ⟨rfl, HB.out⟩
              | true =>
                cases m5 with
                | false =>
                  obtain ⟨⟨CBc0, CBc1, CBc2, CBc3⟩, ⟨CBf0, CBf1, CBf2, CBf3⟩⟩ := blk4 CB.out
                  obtain ⟨⟨LBc0, LBc1, LBc2, LBc3, LBc4, LBc5, LBc6⟩, ⟨LBf0, LBf1, LBf2, LBf3, LBf4, LBf5, LBf6⟩⟩ := blk7 LB.out
                  go_wp2_with fail
                  go_ret
                  exact ⟨rfl, HB.out⟩
                | true =>
                  obtain ⟨⟨CBc0, CBc1, CBc2, CBc3⟩, ⟨CBf0, CBf1, CBf2, CBf3⟩⟩ := blk4 CB.out
                  obtain ⟨⟨LBc0, LBc1, LBc2, LBc3, LBc4, LBc5, LBc6⟩, ⟨LBf0, LBf1, LBf2, LBf3, LBf4, LBf5, LBf6⟩⟩ := blk7 LB.out
                  go_wp2_with fail
                  go_ret
                  exact ⟨rfl, HB.out⟩

end Go.Proofs.YtndicdomdndjaaaGreat

end

section

/-
  LAYER 18: small words for the walks.
-/
namespace Go.Proofs.YtndicdomdndjaaaGreat
open Go.RowKit

theorem lemit_eq {w : World} {v vt : Value} {ql : List Chg} {view : List Row} (hv : Chgs w v ql) (ht : Tab w vt view) (hs : ShortC ql) (hl : ql.length ≤ 100) (hsh : Short view) (ca cb cd ce seq tok at' dg now : Int) (la sn : Bool)
    {ms mt ma md : Int} {mq : List Chg} {ml mn : Bool} {fs : List Frm} (hr : Hid (lnEmit ⟨ca, cb, cd, ce⟩ ⟨seq, ⟨ql, la⟩, ⟨tok, at'⟩, sn, dg⟩ view now = (⟨ms, ⟨mq, ml⟩, ⟨mt, ma⟩, mn, md⟩, fs))) :
    Calls Tryz.prog 23 #[.agg #[.int .i64 ca, .int .i64 cb, .int .i64 cd, .int .i64 ce], .agg #[.int .i64 seq, v, .bool la, .int .i64 tok, .int .i64 at', .bool sn, .int .i64 dg], vt, .int .i64 now] w fun e w' =>
      ∃ u fv ps, e = .returned (.tuple #[.agg #[.int .i64 ms, u, .bool ml, .int .i64 mt, .int .i64 ma, .bool mn, .int .i64 md], fv]) ∧ Chgs w' u mq ∧ KF w w' fv ps ∧ ps.map FrS.f = fs ∧ Below w.heap.size w w' :=
  lemit_any hv ht hs hl hsh ca cb cd ce seq tok at' dg now la sn hr

theorem lpush_eq {w : World} {v : Value} {l : List Chg} (hv : Chgs w v l) (hl : l.length ≤ 1000) (la sn : Bool) (ca cb cd ce seq tok at' dg xa xb xd : Int) (xo : Bool) (xc xs : List UInt8) {ms mt ma md : Int} {mq : List Chg} {ml mn : Bool}
    (hr : Hid (lnPush ⟨ca, cb, cd, ce⟩ ⟨seq, ⟨l, la⟩, ⟨tok, at'⟩, sn, dg⟩ ⟨xc, xo, ⟨xa, xb, xd, xs⟩⟩ = ⟨ms, ⟨mq, ml⟩, ⟨mt, ma⟩, mn, md⟩)) :
    Calls Tryz.prog 18 #[.agg #[.int .i64 ca, .int .i64 cb, .int .i64 cd, .int .i64 ce], .agg #[.int .i64 seq, v, .bool la, .int .i64 tok, .int .i64 at', .bool sn, .int .i64 dg], .agg #[.string ⟨xc.toArray⟩, .bool xo, .int .i64 xa, .int .i64 xb, .int .i64 xd, .string ⟨xs.toArray⟩]] w fun e w' => ∃ u, e = .returned (.agg #[.int .i64 ms, u, .bool ml, .int .i64 mt, .int .i64 ma, .bool mn, .int .i64 md]) ∧ Chgs w' u mq ∧ Below w.heap.size w w' :=
  lpush_any hv hl la sn ca cb cd ce seq tok at' dg xa xb xd xo xc xs hr

theorem lnew_eq (ca cb cd ce now : Int) {ms mt ma md : Int} {ml mn : Bool} {mq : List Chg} {n : Nat} (hr : Hid (lnNew ⟨ca, cb, cd, ce⟩ now = (⟨ms, ⟨mq, ml⟩, ⟨mt, ma⟩, mn, md⟩, n))) (w : World) :
    Calls Tryz.prog 11 #[.agg #[.int .i64 ca, .int .i64 cb, .int .i64 cd, .int .i64 ce], .int .i64 now] w fun e w' => e = .returned (.tuple #[.agg #[.int .i64 ms, .slice none 0 0, .bool ml, .int .i64 mt, .int .i64 ma, .bool mn, .int .i64 md], .int .i64 n]) ∧ Below w.heap.size w w' :=
  (lnew_any ca cb cd ce now hr w).mono fun _ _ ⟨h1, _, h3⟩ => ⟨h1, h3⟩

/-- A frame's cells. -/
def frCells (f : Frm) (tv : Value) : List Value := [.int .i64 f.k, .int .i64 f.s, .bool f.on, .string ⟨f.c.toArray⟩, .int .i64 f.v.sh, .int .i64 f.v.pr, .int .i64 f.v.si, .string ⟨f.v.st.toArray⟩, .int .u64 f.sum, tv]

/-- Frames that were told, as a caller reads them. -/
theorem kf_cells {w W : World} {v : Value} {ps : List FrS} {fs : List Frm} (h : KF w W v ps) (hm : ps.map FrS.f = fs) :
    ∃ a c, v = .slice a fs.length c ∧ ∀ k, k < fs.length → ∃ g pa pc, a = some ⟨g, 0, none⟩ ∧ CellsAt W g (k * 10) (frCells (fs.getD k Frm.zero) (.slice pa (fs.getD k Frm.zero).t.length pc)) ∧ Tab W (.slice pa (fs.getD k Frm.zero).t.length pc) (fs.getD k Frm.zero).t := by
  subst hm
  obtain ⟨a, c, rfl⟩ := kf_shape h
  refine ⟨a, c, by rw [List.length_map], fun k hk => ?_⟩
  rw [List.length_map] at hk
  have hf : (ps.map FrS.f).getD k Frm.zero = (ps.getD k FrS.zero).f := by
    rw [List.getD_eq_getElem?_getD, List.getElem?_map, List.getD_eq_getElem?_getD, List.getElem?_eq_getElem hk]
    rfl
  rw [hf]
  have ht := (h.2 (ps.getD k FrS.zero) (by rw [List.getD_eq_getElem?_getD, List.getElem?_eq_getElem hk]; exact List.getElem_mem hk)).tab
  rcases h.1.2 with ⟨e, h0⟩ | ⟨g, cap, cur, e, _⟩
  · omega
  · simp only [Value.slice.injEq] at e
    obtain ⟨rfl, _, rfl⟩ := e
    have hr := OwnS.row frSOK h.1 hk
    generalize ps.getD k FrS.zero = p at hr ht ⊢
    obtain ⟨f, pa, pn, pc⟩ := p
    have hn : pn = f.t.length := by
      obtain ⟨x, y, e, _⟩ := ht
      simp only [FrS.tv, Value.slice.injEq] at e
      exact e.2.1
    subst hn
    exact ⟨g, pa, pc, rfl, hr, ht⟩

theorem kf_zero {w W : World} {v : Value} {ps : List FrS} (h : KF w W v ps) (hm : ps.map FrS.f = []) : ∃ a c, v = .slice a 0 c := by
  obtain ⟨a, c, e, _⟩ := kf_cells h hm
  exact ⟨a, c, e⟩

theorem kf_one {w W : World} {v : Value} {ps : List FrS} {f : Frm} (h : KF w W v ps) (hm : ps.map FrS.f = [f]) : ∃ g c pa pc, v = .slice (some ⟨g, 0, none⟩) 1 c ∧ CellsAt W g 0 (frCells f (.slice pa f.t.length pc)) ∧ Tab W (.slice pa f.t.length pc) f.t := by
  obtain ⟨a, c, e, hk⟩ := kf_cells h hm
  obtain ⟨g, pa, pc, rfl, h1, h2⟩ := hk 0 (by simp)
  rw [Nat.zero_mul] at h1
  exact ⟨g, c, pa, pc, e, h1, h2⟩

theorem kf_two {w W : World} {v : Value} {ps : List FrS} {f1 f2 : Frm} (h : KF w W v ps) (hm : ps.map FrS.f = [f1, f2]) : ∃ g c pa pc qa qc, v = .slice (some ⟨g, 0, none⟩) 2 c ∧ CellsAt W g 0 (frCells f1 (.slice pa f1.t.length pc)) ∧ CellsAt W g 10 (frCells f2 (.slice qa f2.t.length qc)) := by
  obtain ⟨a, c, e, hk⟩ := kf_cells h hm
  obtain ⟨g, pa, pc, rfl, h1, h2⟩ := hk 0 (by simp)
  obtain ⟨g2, qa, qc, e2, h3, h4⟩ := hk 1 (by simp)
  simp only [Option.some.injEq, Addr.mk.injEq, and_true] at e2
  subst e2
  rw [Nat.zero_mul] at h1
  rw [Nat.one_mul] at h3
  exact ⟨g, c, pa, pc, qa, qc, e, h1, h3⟩

end Go.Proofs.YtndicdomdndjaaaGreat

end

section

/-
  LAYER 18: live of the statements tells true.
-/
namespace Go.Proofs.YtndicdomdndjaaaGreat
open Go.RowKit

theorem tab_oneL {W : World} {B : Nat} {c st : List UInt8} {a b d : Int} (h : CellsAt W B 0 [.string ⟨c.toArray⟩, .int .i64 a, .int .i64 b, .int .i64 d, .string ⟨st.toArray⟩]) : Tab W (.slice (some ⟨B, 0, none⟩) 1 1) [⟨c, ⟨a, b, d, st⟩⟩] := by
  refine ⟨_, 1, rfl, by simp, by decide, (fun e => by cases e), .inr ⟨B, 0, rfl, World.block_lt_of_cell? W _ (h 0 _ rfl), fun i hi => ?_⟩⟩
  obtain rfl : i = 0 := by simpa using hi
  exact ⟨h 0 _ rfl, h 1 _ rfl, h 2 _ rfl, h 3 _ rfl, h 4 _ rfl⟩

theorem tab_nilL (X : World) : Tab X (.slice none 0 0) [] := OwnR.tab (ownR_nil X 0)

theorem short_nilL : Short [] := fun r h => by cases h

theorem lnk_q1 : Hid (lnNew ⟨2, 2, 1, 5⟩ 10 = (⟨0, ⟨[], false⟩, ⟨2, 10⟩, true, 10⟩, 0)) := by show _ = _; kernel_rfl
theorem lnk_q2 : Hid (lnNew ⟨0, 0, 0, 0⟩ 10 = (⟨0, ⟨[], false⟩, ⟨0, 0⟩, false, 0⟩, 1)) := by show _ = _; kernel_rfl
theorem lnk_q3 : Hid (lnEmit ⟨2, 2, 1, 5⟩ ⟨0, ⟨[], false⟩, ⟨2, 10⟩, true, 10⟩ [⟨[97], ⟨4, 0, 0, []⟩⟩] 10 = (⟨1, ⟨[], false⟩, ⟨1, 10⟩, false, 10⟩, [⟨3, 0, false, [], Val.zero, 0, [⟨[97], ⟨4, 0, 0, []⟩⟩]⟩])) := by show _ = _; kernel_rfl
theorem lnk_q4 : Hid (lnPush ⟨2, 2, 1, 5⟩ ⟨1, ⟨[], false⟩, ⟨1, 10⟩, false, 10⟩ ⟨[97], false, ⟨0, 0, 0, []⟩⟩ = ⟨1, ⟨[⟨[97], false, ⟨0, 0, 0, []⟩⟩], false⟩, ⟨1, 10⟩, false, 10⟩) := by show _ = _; kernel_rfl
theorem lnk_q5 : Hid (lnPush ⟨2, 2, 1, 5⟩ ⟨1, ⟨[⟨[97], false, ⟨0, 0, 0, []⟩⟩], false⟩, ⟨1, 10⟩, false, 10⟩ ⟨[98], false, ⟨0, 0, 0, []⟩⟩ = ⟨1, ⟨[⟨[97], false, ⟨0, 0, 0, []⟩⟩, ⟨[98], false, ⟨0, 0, 0, []⟩⟩], false⟩, ⟨1, 10⟩, false, 10⟩) := by show _ = _; kernel_rfl
theorem lnk_q6 : Hid (lnEmit ⟨2, 2, 1, 5⟩ ⟨1, ⟨[⟨[97], false, ⟨0, 0, 0, []⟩⟩, ⟨[98], false, ⟨0, 0, 0, []⟩⟩], false⟩, ⟨1, 10⟩, false, 10⟩ [] 10 = (⟨2, ⟨[⟨[98], false, ⟨0, 0, 0, []⟩⟩], false⟩, ⟨0, 10⟩, false, 10⟩, [⟨1, 1, false, [97], ⟨0, 0, 0, []⟩, 0, []⟩])) := by show _ = _; kernel_rfl
theorem lnk_q7 : Hid (lnEmit ⟨2, 2, 1, 5⟩ ⟨2, ⟨[⟨[98], false, ⟨0, 0, 0, []⟩⟩], false⟩, ⟨0, 10⟩, false, 10⟩ [] 10 = (⟨2, ⟨[⟨[98], false, ⟨0, 0, 0, []⟩⟩], false⟩, ⟨0, 10⟩, false, 10⟩, [])) := by show _ = _; kernel_rfl
theorem lnk_q8 : Hid (lnEmit ⟨2, 2, 1, 5⟩ ⟨2, ⟨[⟨[98], false, ⟨0, 0, 0, []⟩⟩], false⟩, ⟨0, 10⟩, false, 10⟩ [] 16 = (⟨4, ⟨[], false⟩, ⟨0, 16⟩, false, 16⟩, [⟨1, 2, false, [98], ⟨0, 0, 0, []⟩, 0, []⟩, ⟨2, 3, false, [], Val.zero, diSum [], []⟩])) := by show _ = _; kernel_rfl
theorem lnk_q9 : Hid (lnPush ⟨2, 2, 1, 5⟩ ⟨1, ⟨[⟨[97], false, ⟨0, 0, 0, []⟩⟩, ⟨[98], false, ⟨0, 0, 0, []⟩⟩], false⟩, ⟨1, 10⟩, false, 10⟩ ⟨[99], false, ⟨0, 0, 0, []⟩⟩ = ⟨1, ⟨[], false⟩, ⟨1, 10⟩, true, 10⟩) := by show _ = _; kernel_rfl
theorem lnk_q10 : Hid (lnQuiet ⟨4, ⟨[], false⟩, ⟨0, 16⟩, false, 16⟩ = true) := by show _ = _; kernel_rfl
theorem lnk_q11 : Hid (lnQuiet ⟨2, ⟨[⟨[98], false, ⟨0, 0, 0, []⟩⟩], false⟩, ⟨0, 10⟩, false, 10⟩ = false) := by show _ = _; kernel_rfl
theorem lnk_q12 : Hid (lnMay ⟨2, 2, 1, 5⟩ ⟨4, ⟨[], false⟩, ⟨0, 16⟩, false, 16⟩ = true) := by show _ = _; kernel_rfl
theorem lnk_q13 : Hid (lnMay ⟨2, 2, 1, 5⟩ ⟨-1, ⟨[], false⟩, ⟨0, 0⟩, false, 0⟩ = false) := by show _ = _; kernel_rfl
theorem lnk_s1 : Short [⟨[97], ⟨4, 0, 0, []⟩⟩] := by intro r hr; simp only [List.mem_singleton] at hr; subst hr; exact ⟨by decide, by decide⟩
theorem lnk_s2 : ShortC [⟨[97], false, ⟨0, 0, 0, []⟩⟩, ⟨[98], false, ⟨0, 0, 0, []⟩⟩] := by intro r hr; simp only [List.mem_cons, List.not_mem_nil, or_false] at hr; rcases hr with rfl | rfl <;> exact ⟨by decide, by decide⟩
theorem lnk_s3 : ShortC [⟨[98], false, ⟨0, 0, 0, []⟩⟩] := by intro r hr; simp only [List.mem_singleton] at hr; subst hr; exact ⟨by decide, by decide⟩
theorem shortC_nilL : ShortC [] := fun r h => by cases h

set_option maxHeartbeats 12800000 in
set_option maxRecDepth 1000000 in
theorem live18 (w : World) : Calls Tryz.prog 10 #[] w fun e w' => e = .returned (.bool true) ∧ Below w.heap.size w w' := by
  have HB := Lib.hid (Below.refl w.heap.size w)
  go_enter Tryz.func10, Tryz.ntmps10
  have b1 := bl_newZ w (.cells #[.int .i64 2, .int .i64 2, .int .i64 1, .int .i64 5] 23)
  have CB := newQ w (.cells #[.int .i64 2, .int .i64 2, .int .i64 1, .int .i64 5] 23)
  have hCB : w.heap.size ≤ w.heap.size := HB.out.size
  replace HB := Lib.hid (below2Z HB.out b1)
  clear b1
  replace CB := Lib.hid CB
  have b2 := bl_newZ (w.alloc (.cells #[.int .i64 2, .int .i64 2, .int .i64 1, .int .i64 5] 23)) (.cells #[.int .i64 4, .int .i64 0, .int .i64 0, .string ⟨#[]⟩] 32)
  have VB := newQ (w.alloc (.cells #[.int .i64 2, .int .i64 2, .int .i64 1, .int .i64 5] 23)) (.cells #[.int .i64 4, .int .i64 0, .int .i64 0, .string ⟨#[]⟩] 32)
  have hVB : w.heap.size ≤ (w.alloc (.cells #[.int .i64 2, .int .i64 2, .int .i64 1, .int .i64 5] 23)).heap.size := HB.out.size
  rw [World.size_alloc] at VB hVB
  replace CB := Lib.hid (upQ CB.out b2)
  replace HB := Lib.hid (below2Z HB.out b2)
  clear b2
  replace VB := Lib.hid VB
  have b3 := bl_newZ ((w.alloc (.cells #[.int .i64 2, .int .i64 2, .int .i64 1, .int .i64 5] 23)).alloc (.cells #[.int .i64 4, .int .i64 0, .int .i64 0, .string ⟨#[]⟩] 32)) (.cells #[.string ⟨#[97]⟩, .int .i64 4, .int .i64 0, .int .i64 0, .string ⟨#[]⟩] 67)
  have TK := newQ ((w.alloc (.cells #[.int .i64 2, .int .i64 2, .int .i64 1, .int .i64 5] 23)).alloc (.cells #[.int .i64 4, .int .i64 0, .int .i64 0, .string ⟨#[]⟩] 32)) (.cells #[.string ⟨#[97]⟩, .int .i64 4, .int .i64 0, .int .i64 0, .string ⟨#[]⟩] 67)
  have hTK : w.heap.size ≤ ((w.alloc (.cells #[.int .i64 2, .int .i64 2, .int .i64 1, .int .i64 5] 23)).alloc (.cells #[.int .i64 4, .int .i64 0, .int .i64 0, .string ⟨#[]⟩] 32)).heap.size := HB.out.size
  rw [World.size_alloc, World.size_alloc] at TK hTK
  replace CB := Lib.hid (upQ CB.out b3)
  replace VB := Lib.hid (upQ VB.out b3)
  replace HB := Lib.hid (below2Z HB.out b3)
  clear b3
  replace TK := Lib.hid TK
  go_upto_region 4 with fail
  generalize ((w.alloc (.cells #[.int .i64 2, .int .i64 2, .int .i64 1, .int .i64 5] 23)).alloc (.cells #[.int .i64 4, .int .i64 0, .int .i64 0, .string ⟨#[]⟩] 32)).alloc (.cells #[.string ⟨#[97]⟩, .int .i64 4, .int .i64 0, .int .i64 0, .string ⟨#[]⟩] 67) = w4 at CB VB TK HB ⊢
  have T := Lib.hid (tab_oneL (c := [97]) (a := 4) (b := 0) (d := 0) (st := []) (cellsAt_block TK.out))
  clear VB
  clear TK
  obtain ⟨⟨CBc0, CBc1, CBc2, CBc3⟩, ⟨CBf0, CBf1, CBf2, CBf3⟩⟩ := blk4 CB.out
  go_wp2_with fail
  clear CBc0 CBc1 CBc2 CBc3 CBf0 CBf1 CBf2 CBf3
  refine (lnew_eq 2 2 1 5 10 lnk_q1 _).mono ?_
  rintro e w5 ⟨rfl, b5⟩
  replace CB := Lib.hid (upQ CB.out b5)
  replace T := Lib.hid (Tab.later T.out b5)
  replace HB := Lib.hid (below2Z HB.out b5)
  clear b5
  have b6 := bl_newZ w5 (.cells #[.int .i64 0, .slice none 0 0, .bool false, .int .i64 2, .int .i64 10, .bool true, .int .i64 10] 30)
  have L4 := newQ w5 (.cells #[.int .i64 0, .slice none 0 0, .bool false, .int .i64 2, .int .i64 10, .bool true, .int .i64 10] 30)
  have hL4 : w.heap.size ≤ w5.heap.size := HB.out.size
  replace CB := Lib.hid (upQ CB.out b6)
  replace T := Lib.hid (Tab.later T.out b6)
  replace HB := Lib.hid (below2Z HB.out b6)
  clear b6
  replace L4 := Lib.hid L4
  go_upto_region 5 with fail
  generalize w5.alloc (.cells #[.int .i64 0, .slice none 0 0, .bool false, .int .i64 2, .int .i64 10, .bool true, .int .i64 10] 30) = w7 at CB L4 T HB ⊢
  go_wp2_with fail
  refine (lnew_eq 0 0 0 0 10 lnk_q2 _).mono ?_
  rintro e w8 ⟨rfl, b8⟩
  replace CB := Lib.hid (upQ CB.out b8)
  replace L4 := Lib.hid (upQ L4.out b8)
  replace T := Lib.hid (Tab.later T.out b8)
  replace HB := Lib.hid (below2Z HB.out b8)
  clear b8
  have b9 := bl_newZ w8 (.cells #[.int .i64 0, .slice none 0 0, .bool false, .int .i64 0, .int .i64 0, .bool false, .int .i64 0] 30)
  have L6 := newQ w8 (.cells #[.int .i64 0, .slice none 0 0, .bool false, .int .i64 0, .int .i64 0, .bool false, .int .i64 0] 30)
  have hL6 : w.heap.size ≤ w8.heap.size := HB.out.size
  replace CB := Lib.hid (upQ CB.out b9)
  replace L4 := Lib.hid (upQ L4.out b9)
  replace T := Lib.hid (Tab.later T.out b9)
  replace HB := Lib.hid (below2Z HB.out b9)
  clear b9
  replace L6 := Lib.hid L6
  go_upto_region 6 with fail
  generalize w8.alloc (.cells #[.int .i64 0, .slice none 0 0, .bool false, .int .i64 0, .int .i64 0, .bool false, .int .i64 0] 30) = w10 at CB L4 L6 T HB ⊢
  clear L6
  obtain ⟨⟨CBc0, CBc1, CBc2, CBc3⟩, ⟨CBf0, CBf1, CBf2, CBf3⟩⟩ := blk4 CB.out
  obtain ⟨⟨L4c0, L4c1, L4c2, L4c3, L4c4, L4c5, L4c6⟩, ⟨L4f0, L4f1, L4f2, L4f3, L4f4, L4f5, L4f6⟩⟩ := blk7 L4.out
  go_wp2_with fail
  clear CBc0 CBc1 CBc2 CBc3 CBf0 CBf1 CBf2 CBf3 L4c0 L4c1 L4c2 L4c3 L4c4 L4c5 L4c6 L4f0 L4f1 L4f2 L4f3 L4f4 L4f5 L4f6
  refine (lemit_eq (chgs_nil _) T.out shortC_nilL (by decide) lnk_s1 2 2 1 5 0 2 10 10 10 false true lnk_q3).mono ?_
  rintro e w11 ⟨uM, fvM, psM, rfl, hM, kM, mM, b11⟩
  replace CB := Lib.hid (upQ CB.out b11)
  replace L4 := Lib.hid (upQ L4.out b11)
  replace T := Lib.hid (Tab.later T.out b11)
  replace HB := Lib.hid (below2Z HB.out b11)
  obtain ⟨uMa, uMc, rfl⟩ := chgs_shape hM (n := 0) rfl
  obtain ⟨gM, fMc, pMa, pMc, rfl, hFM, -⟩ := kf_one kM mM
  have QM := Lib.hid hM
  have FM := Lib.hid hFM
  clear hM kM mM hFM
  clear b11
  have b12 := bl_newZ w11 (.cells #[.int .i64 1, .slice uMa 0 uMc, .bool false, .int .i64 1, .int .i64 10, .bool false, .int .i64 10] 30)
  have L8 := newQ w11 (.cells #[.int .i64 1, .slice uMa 0 uMc, .bool false, .int .i64 1, .int .i64 10, .bool false, .int .i64 10] 30)
  have hL8 : w.heap.size ≤ w11.heap.size := HB.out.size
  replace CB := Lib.hid (upQ CB.out b12)
  replace L4 := Lib.hid (upQ L4.out b12)
  replace T := Lib.hid (Tab.later T.out b12)
  replace QM := Lib.hid (Chgs.later QM.out b12)
  replace FM := Lib.hid (CellsAt.later FM.out b12)
  replace HB := Lib.hid (below2Z HB.out b12)
  clear b12
  replace L8 := Lib.hid L8
  go_upto_region 7 with fail
  generalize w11.alloc (.cells #[.int .i64 1, .slice uMa 0 uMc, .bool false, .int .i64 1, .int .i64 10, .bool false, .int .i64 10] 30) = w13 at CB L4 L8 T QM FM HB ⊢
  clear T
  go_cut [10] from 40 to 46 (fun p wx => ∃ B ua uc, p = .pointer (some ⟨B, 0, none⟩) ∧ Hid (wx.heap[B]? = some (.cells #[.int .i64 1, .slice ua 2 uc, .bool false, .int .i64 1, .int .i64 10, .bool false, .int .i64 10] 30 (0, 0))) ∧ Hid (Chgs wx (.slice ua 2 uc) [⟨[97], false, ⟨0, 0, 0, []⟩⟩, ⟨[98], false, ⟨0, 0, 0, []⟩⟩]) ∧ Hid (Below w13.heap.size w13 wx))
  case first =>
    obtain ⟨BS, hBS⟩ : ∃ BS : List (Nat × List Value), BS = [(w.heap.size, [.int .i64 2, .int .i64 2, .int .i64 1, .int .i64 5]), (w11.heap.size, [.int .i64 1, .slice uMa 0 uMc, .bool false, .int .i64 1, .int .i64 10, .bool false, .int .i64 10])] := ⟨_, rfl⟩
    have D0 := Lib.hid (show heldB w13 BS from by rw [hBS]; exact heldB_cons (cellsAt_block CB.out) (heldB_cons (cellsAt_block L8.out) (heldB_nil _)))
    have hq0 : ∀ X, heldB X BS → X.cell? ⟨w.heap.size, 0, none⟩ = some (.int .i64 2) := fun X hx => heldB_get (vs := [.int .i64 2, .int .i64 2, .int .i64 1, .int .i64 5]) hx (by rw [hBS]; simp) rfl
    have hq1 : ∀ X, heldB X BS → X.cell? ⟨w.heap.size, 1, none⟩ = some (.int .i64 2) := fun X hx => heldB_get (vs := [.int .i64 2, .int .i64 2, .int .i64 1, .int .i64 5]) hx (by rw [hBS]; simp) rfl
    have hq2 : ∀ X, heldB X BS → X.cell? ⟨w.heap.size, 2, none⟩ = some (.int .i64 1) := fun X hx => heldB_get (vs := [.int .i64 2, .int .i64 2, .int .i64 1, .int .i64 5]) hx (by rw [hBS]; simp) rfl
    have hq3 : ∀ X, heldB X BS → X.cell? ⟨w.heap.size, 3, none⟩ = some (.int .i64 5) := fun X hx => heldB_get (vs := [.int .i64 2, .int .i64 2, .int .i64 1, .int .i64 5]) hx (by rw [hBS]; simp) rfl
    have hq4 : ∀ X, heldB X BS → X.cell? ⟨w11.heap.size, 0, none⟩ = some (.int .i64 1) := fun X hx => heldB_get (vs := [.int .i64 1, .slice uMa 0 uMc, .bool false, .int .i64 1, .int .i64 10, .bool false, .int .i64 10]) hx (by rw [hBS]; simp) rfl
    have hq5 : ∀ X, heldB X BS → X.cell? ⟨w11.heap.size, 1, none⟩ = some (.slice uMa 0 uMc) := fun X hx => heldB_get (vs := [.int .i64 1, .slice uMa 0 uMc, .bool false, .int .i64 1, .int .i64 10, .bool false, .int .i64 10]) hx (by rw [hBS]; simp) rfl
    have hq6 : ∀ X, heldB X BS → X.cell? ⟨w11.heap.size, 2, none⟩ = some (.bool false) := fun X hx => heldB_get (vs := [.int .i64 1, .slice uMa 0 uMc, .bool false, .int .i64 1, .int .i64 10, .bool false, .int .i64 10]) hx (by rw [hBS]; simp) rfl
    have hq7 : ∀ X, heldB X BS → X.cell? ⟨w11.heap.size, 3, none⟩ = some (.int .i64 1) := fun X hx => heldB_get (vs := [.int .i64 1, .slice uMa 0 uMc, .bool false, .int .i64 1, .int .i64 10, .bool false, .int .i64 10]) hx (by rw [hBS]; simp) rfl
    have hq8 : ∀ X, heldB X BS → X.cell? ⟨w11.heap.size, 4, none⟩ = some (.int .i64 10) := fun X hx => heldB_get (vs := [.int .i64 1, .slice uMa 0 uMc, .bool false, .int .i64 1, .int .i64 10, .bool false, .int .i64 10]) hx (by rw [hBS]; simp) rfl
    have hq9 : ∀ X, heldB X BS → X.cell? ⟨w11.heap.size, 5, none⟩ = some (.bool false) := fun X hx => heldB_get (vs := [.int .i64 1, .slice uMa 0 uMc, .bool false, .int .i64 1, .int .i64 10, .bool false, .int .i64 10]) hx (by rw [hBS]; simp) rfl
    have hq10 : ∀ X, heldB X BS → X.cell? ⟨w11.heap.size, 6, none⟩ = some (.int .i64 10) := fun X hx => heldB_get (vs := [.int .i64 1, .slice uMa 0 uMc, .bool false, .int .i64 1, .int .i64 10, .bool false, .int .i64 10]) hx (by rw [hBS]; simp) rfl
    clear hBS
    have K0 : Hid (Below w13.heap.size w13 w13.drew) := Lib.hid (Below.refl _ _).drew
    refine wp_region_held_drew (S := (fun X => heldB X BS)) (by kernel_rfl) ?_ (fun hHeld => ?_)
    · exact heldB_up K0.out D0.out
    generalize w13.drew = z0 at K0 hHeld ⊢
    refine wpAnyH_take (i := 0) (oi := { dst := some 40, op := Op.load 23 (Operand.tmp 1), type := 23, pos := "law.go:22", after := #[], guard := none }) (v := ?_) rfl (by as_aux_lemma => kernel_rfl) (by as_aux_lemma => kernel_rfl) (by as_aux_lemma => kernel_rfl) (fun _ _ _ h => h) (Or.inl ⟨by rfl, ?_⟩) (by assumption) ?_
    rotate_left
    · intro w' hSw
      try dsimp only at hSw
      go_simp
      try with_reducible rfl
    try simp only [Act.put, List.setIfInBounds_toArray, List.set_cons_zero, List.set_cons_succ]
    refine wpAnyH_take (i := 1) (oi := { dst := some 41, op := Op.load 23 (Operand.tmp 1), type := 23, pos := "law.go:22", after := #[], guard := none }) (v := ?_) rfl (by as_aux_lemma => kernel_rfl) (by as_aux_lemma => kernel_rfl) (by as_aux_lemma => kernel_rfl) (fun _ _ _ h => h) (Or.inl ⟨by rfl, ?_⟩) (by assumption) ?_
    rotate_left
    · intro w' hSw
      try dsimp only at hSw
      go_simp
      try with_reducible rfl
    try simp only [Act.put, List.setIfInBounds_toArray, List.set_cons_zero, List.set_cons_succ]
    refine wpAnyH_take (i := 2) (oi := { dst := some 42, op := Op.load 30 (Operand.tmp 8), type := 30, pos := "law.go:22", after := #[], guard := none }) (v := ?_) rfl (by as_aux_lemma => kernel_rfl) (by as_aux_lemma => kernel_rfl) (by as_aux_lemma => kernel_rfl) (fun _ _ _ h => h) (Or.inl ⟨by rfl, ?_⟩) (by assumption) ?_
    rotate_left
    · intro w' hSw
      try dsimp only at hSw
      go_simp
      try with_reducible rfl
    try simp only [Act.put, List.setIfInBounds_toArray, List.set_cons_zero, List.set_cons_succ]
    refine wpAnyH_take (i := 3) (oi := { dst := some 43, op := Op.build 34 #[(0, Operand.const (Value.string { data := #[97] }))], type := 34, pos := "law.go:22", after := #[], guard := none }) (v := ?_) rfl (by as_aux_lemma => kernel_rfl) (by as_aux_lemma => kernel_rfl) (by as_aux_lemma => kernel_rfl) (fun _ _ _ h => h) (Or.inl ⟨by rfl, ?_⟩) (by assumption) ?_
    rotate_left
    · intro w' hSw
      try dsimp only at hSw
      go_simp
      try with_reducible rfl
    try simp only [Act.put, List.setIfInBounds_toArray, List.set_cons_zero, List.set_cons_succ]
    refine wpAnyH_take (i := 5) (oi := { dst := some 45, op := Op.build 34 #[(0, Operand.const (Value.string { data := #[98] }))], type := 34, pos := "law.go:22", after := #[], guard := none }) (v := ?_) rfl (by as_aux_lemma => kernel_rfl) (by as_aux_lemma => kernel_rfl) (by as_aux_lemma => kernel_rfl) (fun _ _ _ h => h) (Or.inl ⟨by rfl, ?_⟩) (by assumption) ?_
    rotate_left
    · intro w' hSw
      try dsimp only at hSw
      go_simp
      try with_reducible rfl
    try simp only [Act.put, List.setIfInBounds_toArray, List.set_cons_zero, List.set_cons_succ]
    refine wpAnyH_ready (rs := [4, 7]) (by as_aux_lemma => kernel_rfl) (by simp) ?_
    refine AllReadyH.cons (o := { dst := some 44, op := Op.call { callee := Callee.value (Operand.func 18), args := #[Operand.tmp 41, Operand.tmp 42, Operand.tmp 43], argTypes := #[23, 30, 34] }, type := 30, pos := "law.go:22", after := #[{ on := 1, ground := Ground.data }, { on := 2, ground := Ground.data }, { on := 3, ground := Ground.data }], guard := none }) rfl (fun Kx hK => ?_) (AllReadyH.cons (o := { dst := some 10, op := Op.alloc 30, type := 0, pos := "law.go:22", after := #[], guard := none }) rfl (fun Kx hK => ?_) (AllReadyH.nil))
    · go_simp
      refine (lpush_eq (QM.out.later K0.out) (by decide) false false 2 2 1 5 1 1 10 10 0 0 0 false [97] [] lnk_q4).mono ?_
      rintro e z1 ⟨un1, rfl, hN1, bz1⟩
      have K1 := Lib.hid (below2Z K0.out bz1)
      have D1 := Lib.hid (heldB_up K1.out D0.out)
      obtain ⟨n1a, n1c, rfl⟩ := chgs_shape hN1 (n := 1) rfl
      have N1 := Lib.hid hN1
      clear hN1
      clear bz1
      go_wp2_with fail
      refine hK.out _ _ ?_ (fun hHeld2 => ?_)
      · exact D1.out
      clear hK Kx hHeld
      have hHeld := hHeld2
      clear hHeld2
      try simp only [Act.put, List.setIfInBounds_toArray, List.set_cons_zero, List.set_cons_succ]
      refine wpAnyH_ready (rs := [6, 7]) (by as_aux_lemma => kernel_rfl) (by simp) ?_
      refine AllReadyH.cons (o := { dst := some 46, op := Op.call { callee := Callee.value (Operand.func 18), args := #[Operand.tmp 40, Operand.tmp 44, Operand.tmp 45], argTypes := #[23, 30, 34] }, type := 30, pos := "law.go:22", after := #[{ on := 0, ground := Ground.data }, { on := 4, ground := Ground.data }, { on := 5, ground := Ground.data }, { on := 4, ground := Ground.chain }], guard := none }) rfl (fun Kx hK => ?_) (AllReadyH.cons (o := { dst := some 10, op := Op.alloc 30, type := 0, pos := "law.go:22", after := #[], guard := none }) rfl (fun Kx hK => ?_) (AllReadyH.nil))
      · go_simp
        refine (lpush_eq N1.out (by decide) false false 2 2 1 5 1 1 10 10 0 0 0 false [98] [] lnk_q5).mono ?_
        rintro e z2 ⟨un2, rfl, hN2, bz2⟩
        have K2 := Lib.hid (below2Z K1.out bz2)
        have D2 := Lib.hid (heldB_up K2.out D0.out)
        replace N1 := Lib.hid (Chgs.later (N1.out) bz2)
        obtain ⟨ua, uc, rfl⟩ := chgs_shape hN2 (n := 2) rfl
        have N2 := Lib.hid hN2
        clear hN2
        clear bz2
        go_wp2_with fail
        refine hK.out _ _ ?_ (fun hHeld2 => ?_)
        · exact D2.out
        clear hK Kx hHeld
        have hHeld := hHeld2
        clear hHeld2
        try simp only [Act.put, List.setIfInBounds_toArray, List.set_cons_zero, List.set_cons_succ]
        refine wpAnyH_ready (rs := [7]) (by as_aux_lemma => kernel_rfl) (by simp) ?_
        refine AllReadyH.cons (o := { dst := some 10, op := Op.alloc 30, type := 0, pos := "law.go:22", after := #[], guard := none }) rfl (fun Kx hK => ?_) AllReadyH.nil
        go_simp
        refine hK.out _ _ ?_ (fun hHeld2 => ?_)
        · exact heldB_up (below2Z K2.out (bl_newZ _ _)) D0.out
        clear hK Kx hHeld
        have hHeld := hHeld2
        clear hHeld2
        try simp only [Act.put, List.setIfInBounds_toArray, List.set_cons_zero, List.set_cons_succ]
        have bz3 := bl_newZ z2 (.cells #[.int .i64 0, .slice none 0 0, .bool false, .int .i64 0, .int .i64 0, .bool false, .int .i64 0] 30)
        have K3 := Lib.hid (below2Z K2.out bz3)
        have D3 := Lib.hid (heldB_up K3.out D0.out)
        have nz3 := Lib.hid ((MapKept.heap_alloc z2 (.cells #[.int .i64 0, .slice none 0 0, .bool false, .int .i64 0, .int .i64 0, .bool false, .int .i64 0] 30)).1)
        have hB3 : w13.heap.size ≤ z2.heap.size := (K2.out).size
        replace N2 := Lib.hid (Chgs.later (N2.out) bz3)
        clear bz3
        generalize z2.alloc (.cells #[.int .i64 0, .slice none 0 0, .bool false, .int .i64 0, .int .i64 0, .bool false, .int .i64 0] 30) = z3 at K3 D3 nz3 N2 hHeld ⊢
        generalize z2.heap.size = B3 at nz3 hB3  ⊢
        obtain ⟨⟨r0, r1, r2, r3, r4, r5, r6⟩, ⟨g0, g1, g2, g3, g4, g5, g6⟩⟩ := blk7 nz3.out
        refine wpAnyH_ready (rs := [8]) (by as_aux_lemma => kernel_rfl) (by simp) ?_
        refine AllReadyH.cons (o := { dst := none, op := Op.store 30 (Operand.tmp 10) (Operand.tmp 46), type := 0, pos := "law.go:22", after := #[{ on := 7, ground := Ground.data }, { on := 6, ground := Ground.data }, { on := 6, ground := Ground.chain }, { on := 0, ground := Ground.phase }, { on := 1, ground := Ground.phase }, { on := 2, ground := Ground.phase }, { on := 3, ground := Ground.phase }, { on := 4, ground := Ground.phase }, { on := 5, ground := Ground.phase }, { on := 6, ground := Ground.phase }, { on := 7, ground := Ground.phase }], guard := none }) rfl (fun Kx hK => ?_) AllReadyH.nil
        go_simp
        clear r0 r1 r2 r3 r4 r5 r6 g0 g1 g2 g3 g4 g5 g6
        have YB := Lib.hid (stN7_heap nz3.out (.int .i64 1) (.slice ua 2 uc) (.bool false) (.int .i64 1) (.int .i64 10) (.bool false) (.int .i64 10))
        have KE := Lib.hid (stN7_below (K3.out) hB3 (.int .i64 1) (.slice ua 2 uc) (.bool false) (.int .i64 1) (.int .i64 10) (.bool false) (.int .i64 10))
        have UZ := Lib.hid (chgs_keep N2.out nz3.out (noLink 0 0 0 0 none 0 0 false false) (fun k hk => stN7_far z3 B3 (.int .i64 1) (.slice ua 2 uc) (.bool false) (.int .i64 1) (.int .i64 10) (.bool false) (.int .i64 10) hk) (by rw [stN7_size]; exact Nat.le_refl _))
        refine hK.out _ _ ?_ (fun hHeld2 => ?_)
        · exact heldB_up KE.out D0.out
        clear hK Kx hHeld
        have hHeld := hHeld2
        clear hHeld2
        refine wpAnyH_done (by kernel_rfl) ?_ _
        go_wp2_with fail
        go_meet
        exact ⟨B3, ua, uc, rfl, YB, UZ, KE⟩
      · go_simp
        refine hK.out _ _ ?_ (fun hHeld2 => ?_)
        · exact heldB_up (below2Z K1.out (bl_newZ _ _)) D0.out
        clear hK Kx hHeld
        have hHeld := hHeld2
        clear hHeld2
        try simp only [Act.put, List.setIfInBounds_toArray, List.set_cons_zero, List.set_cons_succ]
        have bz5 := bl_newZ z1 (.cells #[.int .i64 0, .slice none 0 0, .bool false, .int .i64 0, .int .i64 0, .bool false, .int .i64 0] 30)
        have K5 := Lib.hid (below2Z K1.out bz5)
        have D5 := Lib.hid (heldB_up K5.out D0.out)
        have nz5 := Lib.hid ((MapKept.heap_alloc z1 (.cells #[.int .i64 0, .slice none 0 0, .bool false, .int .i64 0, .int .i64 0, .bool false, .int .i64 0] 30)).1)
        have hB5 : w13.heap.size ≤ z1.heap.size := (K1.out).size
        replace N1 := Lib.hid (Chgs.later (N1.out) bz5)
        clear bz5
        generalize z1.alloc (.cells #[.int .i64 0, .slice none 0 0, .bool false, .int .i64 0, .int .i64 0, .bool false, .int .i64 0] 30) = z5 at K5 D5 nz5 N1 hHeld ⊢
        generalize z1.heap.size = B5 at nz5 hB5  ⊢
        refine wpAnyH_ready (rs := [6]) (by as_aux_lemma => kernel_rfl) (by simp) ?_
        refine AllReadyH.cons (o := { dst := some 46, op := Op.call { callee := Callee.value (Operand.func 18), args := #[Operand.tmp 40, Operand.tmp 44, Operand.tmp 45], argTypes := #[23, 30, 34] }, type := 30, pos := "law.go:22", after := #[{ on := 0, ground := Ground.data }, { on := 4, ground := Ground.data }, { on := 5, ground := Ground.data }, { on := 4, ground := Ground.chain }], guard := none }) rfl (fun Kx hK => ?_) AllReadyH.nil
        go_simp
        refine (lpush_eq N1.out (by decide) false false 2 2 1 5 1 1 10 10 0 0 0 false [98] [] lnk_q5).mono ?_
        rintro e z6 ⟨un2, rfl, hN2, bz6⟩
        have K6 := Lib.hid (below2Z K5.out bz6)
        have D6 := Lib.hid (heldB_up K6.out D0.out)
        replace N1 := Lib.hid (Chgs.later (N1.out) bz6)
        replace nz5 := Lib.hid (((bz6).block _ (Array.getElem?_eq_some_iff.1 (nz5.out)).1).trans (nz5.out))
        obtain ⟨ua, uc, rfl⟩ := chgs_shape hN2 (n := 2) rfl
        have N2 := Lib.hid hN2
        clear hN2
        clear bz6
        go_wp2_with fail
        refine hK.out _ _ ?_ (fun hHeld2 => ?_)
        · exact D6.out
        clear hK Kx hHeld
        have hHeld := hHeld2
        clear hHeld2
        try simp only [Act.put, List.setIfInBounds_toArray, List.set_cons_zero, List.set_cons_succ]
        obtain ⟨⟨r0, r1, r2, r3, r4, r5, r6⟩, ⟨g0, g1, g2, g3, g4, g5, g6⟩⟩ := blk7 nz5.out
        refine wpAnyH_ready (rs := [8]) (by as_aux_lemma => kernel_rfl) (by simp) ?_
        refine AllReadyH.cons (o := { dst := none, op := Op.store 30 (Operand.tmp 10) (Operand.tmp 46), type := 0, pos := "law.go:22", after := #[{ on := 7, ground := Ground.data }, { on := 6, ground := Ground.data }, { on := 6, ground := Ground.chain }, { on := 0, ground := Ground.phase }, { on := 1, ground := Ground.phase }, { on := 2, ground := Ground.phase }, { on := 3, ground := Ground.phase }, { on := 4, ground := Ground.phase }, { on := 5, ground := Ground.phase }, { on := 6, ground := Ground.phase }, { on := 7, ground := Ground.phase }], guard := none }) rfl (fun Kx hK => ?_) AllReadyH.nil
        go_simp
        clear r0 r1 r2 r3 r4 r5 r6 g0 g1 g2 g3 g4 g5 g6
        have YB := Lib.hid (stN7_heap nz5.out (.int .i64 1) (.slice ua 2 uc) (.bool false) (.int .i64 1) (.int .i64 10) (.bool false) (.int .i64 10))
        have KE := Lib.hid (stN7_below (K6.out) hB5 (.int .i64 1) (.slice ua 2 uc) (.bool false) (.int .i64 1) (.int .i64 10) (.bool false) (.int .i64 10))
        have UZ := Lib.hid (chgs_keep N2.out nz5.out (noLink 0 0 0 0 none 0 0 false false) (fun k hk => stN7_far z6 B5 (.int .i64 1) (.slice ua 2 uc) (.bool false) (.int .i64 1) (.int .i64 10) (.bool false) (.int .i64 10) hk) (by rw [stN7_size]; exact Nat.le_refl _))
        refine hK.out _ _ ?_ (fun hHeld2 => ?_)
        · exact heldB_up KE.out D0.out
        clear hK Kx hHeld
        have hHeld := hHeld2
        clear hHeld2
        refine wpAnyH_done (by kernel_rfl) ?_ _
        go_wp2_with fail
        go_meet
        exact ⟨B5, ua, uc, rfl, YB, UZ, KE⟩
    · go_simp
      refine hK.out _ _ ?_ (fun hHeld2 => ?_)
      · exact heldB_up (below2Z K0.out (bl_newZ _ _)) D0.out
      clear hK Kx hHeld
      have hHeld := hHeld2
      clear hHeld2
      try simp only [Act.put, List.setIfInBounds_toArray, List.set_cons_zero, List.set_cons_succ]
      have bz8 := bl_newZ z0 (.cells #[.int .i64 0, .slice none 0 0, .bool false, .int .i64 0, .int .i64 0, .bool false, .int .i64 0] 30)
      have K8 := Lib.hid (below2Z K0.out bz8)
      have D8 := Lib.hid (heldB_up K8.out D0.out)
      have nz8 := Lib.hid ((MapKept.heap_alloc z0 (.cells #[.int .i64 0, .slice none 0 0, .bool false, .int .i64 0, .int .i64 0, .bool false, .int .i64 0] 30)).1)
      have hB8 : w13.heap.size ≤ z0.heap.size := (K0.out).size
      clear bz8
      generalize z0.alloc (.cells #[.int .i64 0, .slice none 0 0, .bool false, .int .i64 0, .int .i64 0, .bool false, .int .i64 0] 30) = z8 at K8 D8 nz8 hHeld ⊢
      generalize z0.heap.size = B8 at nz8 hB8  ⊢
      refine wpAnyH_ready (rs := [4]) (by as_aux_lemma => kernel_rfl) (by simp) ?_
      refine AllReadyH.cons (o := { dst := some 44, op := Op.call { callee := Callee.value (Operand.func 18), args := #[Operand.tmp 41, Operand.tmp 42, Operand.tmp 43], argTypes := #[23, 30, 34] }, type := 30, pos := "law.go:22", after := #[{ on := 1, ground := Ground.data }, { on := 2, ground := Ground.data }, { on := 3, ground := Ground.data }], guard := none }) rfl (fun Kx hK => ?_) AllReadyH.nil
      go_simp
      refine (lpush_eq (QM.out.later K8.out) (by decide) false false 2 2 1 5 1 1 10 10 0 0 0 false [97] [] lnk_q4).mono ?_
      rintro e z9 ⟨un1, rfl, hN1, bz9⟩
      have K9 := Lib.hid (below2Z K8.out bz9)
      have D9 := Lib.hid (heldB_up K9.out D0.out)
      replace nz8 := Lib.hid (((bz9).block _ (Array.getElem?_eq_some_iff.1 (nz8.out)).1).trans (nz8.out))
      obtain ⟨n1a, n1c, rfl⟩ := chgs_shape hN1 (n := 1) rfl
      have N1 := Lib.hid hN1
      clear hN1
      clear bz9
      go_wp2_with fail
      refine hK.out _ _ ?_ (fun hHeld2 => ?_)
      · exact D9.out
      clear hK Kx hHeld
      have hHeld := hHeld2
      clear hHeld2
      try simp only [Act.put, List.setIfInBounds_toArray, List.set_cons_zero, List.set_cons_succ]
      refine wpAnyH_ready (rs := [6]) (by as_aux_lemma => kernel_rfl) (by simp) ?_
      refine AllReadyH.cons (o := { dst := some 46, op := Op.call { callee := Callee.value (Operand.func 18), args := #[Operand.tmp 40, Operand.tmp 44, Operand.tmp 45], argTypes := #[23, 30, 34] }, type := 30, pos := "law.go:22", after := #[{ on := 0, ground := Ground.data }, { on := 4, ground := Ground.data }, { on := 5, ground := Ground.data }, { on := 4, ground := Ground.chain }], guard := none }) rfl (fun Kx hK => ?_) AllReadyH.nil
      go_simp
      refine (lpush_eq N1.out (by decide) false false 2 2 1 5 1 1 10 10 0 0 0 false [98] [] lnk_q5).mono ?_
      rintro e z10 ⟨un2, rfl, hN2, bz10⟩
      have K10 := Lib.hid (below2Z K9.out bz10)
      have D10 := Lib.hid (heldB_up K10.out D0.out)
      replace nz8 := Lib.hid (((bz10).block _ (Array.getElem?_eq_some_iff.1 (nz8.out)).1).trans (nz8.out))
      replace N1 := Lib.hid (Chgs.later (N1.out) bz10)
      obtain ⟨ua, uc, rfl⟩ := chgs_shape hN2 (n := 2) rfl
      have N2 := Lib.hid hN2
      clear hN2
      clear bz10
      go_wp2_with fail
      refine hK.out _ _ ?_ (fun hHeld2 => ?_)
      · exact D10.out
      clear hK Kx hHeld
      have hHeld := hHeld2
      clear hHeld2
      try simp only [Act.put, List.setIfInBounds_toArray, List.set_cons_zero, List.set_cons_succ]
      obtain ⟨⟨r0, r1, r2, r3, r4, r5, r6⟩, ⟨g0, g1, g2, g3, g4, g5, g6⟩⟩ := blk7 nz8.out
      refine wpAnyH_ready (rs := [8]) (by as_aux_lemma => kernel_rfl) (by simp) ?_
      refine AllReadyH.cons (o := { dst := none, op := Op.store 30 (Operand.tmp 10) (Operand.tmp 46), type := 0, pos := "law.go:22", after := #[{ on := 7, ground := Ground.data }, { on := 6, ground := Ground.data }, { on := 6, ground := Ground.chain }, { on := 0, ground := Ground.phase }, { on := 1, ground := Ground.phase }, { on := 2, ground := Ground.phase }, { on := 3, ground := Ground.phase }, { on := 4, ground := Ground.phase }, { on := 5, ground := Ground.phase }, { on := 6, ground := Ground.phase }, { on := 7, ground := Ground.phase }], guard := none }) rfl (fun Kx hK => ?_) AllReadyH.nil
      go_simp
      clear r0 r1 r2 r3 r4 r5 r6 g0 g1 g2 g3 g4 g5 g6
      have YB := Lib.hid (stN7_heap nz8.out (.int .i64 1) (.slice ua 2 uc) (.bool false) (.int .i64 1) (.int .i64 10) (.bool false) (.int .i64 10))
      have KE := Lib.hid (stN7_below (K10.out) hB8 (.int .i64 1) (.slice ua 2 uc) (.bool false) (.int .i64 1) (.int .i64 10) (.bool false) (.int .i64 10))
      have UZ := Lib.hid (chgs_keep N2.out nz8.out (noLink 0 0 0 0 none 0 0 false false) (fun k hk => stN7_far z10 B8 (.int .i64 1) (.slice ua 2 uc) (.bool false) (.int .i64 1) (.int .i64 10) (.bool false) (.int .i64 10) hk) (by rw [stN7_size]; exact Nat.le_refl _))
      refine hK.out _ _ ?_ (fun hHeld2 => ?_)
      · exact heldB_up KE.out D0.out
      clear hK Kx hHeld
      have hHeld := hHeld2
      clear hHeld2
      refine wpAnyH_done (by kernel_rfl) ?_ _
      go_wp2_with fail
      go_meet
      exact ⟨B8, ua, uc, rfl, YB, UZ, KE⟩
  case rest =>
    obtain ⟨BL, nna, nnc, rfl, LN, QN, KB⟩ := hcut
    obtain ⟨w14, hw14⟩ : ∃ X, X = wc := ⟨_, rfl⟩
    subst hw14
    replace CB := Lib.hid (upQ CB.out KB.out)
    replace L4 := Lib.hid (upQ L4.out KB.out)
    replace L8 := Lib.hid (upQ L8.out KB.out)
    replace QM := Lib.hid (Chgs.later QM.out KB.out)
    replace FM := Lib.hid (CellsAt.later FM.out KB.out)
    replace HB := Lib.hid (below2Z HB.out KB.out)
    clear KB
    have L10 := LN
    clear LN
    obtain ⟨⟨CBc0, CBc1, CBc2, CBc3⟩, ⟨CBf0, CBf1, CBf2, CBf3⟩⟩ := blk4 CB.out
    obtain ⟨⟨L10c0, L10c1, L10c2, L10c3, L10c4, L10c5, L10c6⟩, ⟨L10f0, L10f1, L10f2, L10f3, L10f4, L10f5, L10f6⟩⟩ := blk7 L10.out
    go_wp2_with fail
    clear CBc0 CBc1 CBc2 CBc3 CBf0 CBf1 CBf2 CBf3 L10c0 L10c1 L10c2 L10c3 L10c4 L10c5 L10c6 L10f0 L10f1 L10f2 L10f3 L10f4 L10f5 L10f6
    refine (lemit_eq QN.out (tab_nilL _) lnk_s2 (by decide) short_nilL 2 2 1 5 1 1 10 10 10 false false lnk_q6).mono ?_
    rintro e w15 ⟨uO, fvO, psO, rfl, hO, kO, mO, b15⟩
    replace CB := Lib.hid (upQ CB.out b15)
    replace L4 := Lib.hid (upQ L4.out b15)
    replace L8 := Lib.hid (upQ L8.out b15)
    replace L10 := Lib.hid (upQ L10.out b15)
    replace QM := Lib.hid (Chgs.later QM.out b15)
    replace FM := Lib.hid (CellsAt.later FM.out b15)
    replace QN := Lib.hid (Chgs.later QN.out b15)
    replace HB := Lib.hid (below2Z HB.out b15)
    obtain ⟨uOa, uOc, rfl⟩ := chgs_shape hO (n := 1) rfl
    obtain ⟨gO, fOc, pOa, pOc, rfl, hFO, -⟩ := kf_one kO mO
    have QO := Lib.hid hO
    have FO := Lib.hid hFO
    clear hO kO mO hFO
    clear b15
    have b16 := bl_newZ w15 (.cells #[.int .i64 2, .slice uOa 1 uOc, .bool false, .int .i64 0, .int .i64 10, .bool false, .int .i64 10] 30)
    have L11 := newQ w15 (.cells #[.int .i64 2, .slice uOa 1 uOc, .bool false, .int .i64 0, .int .i64 10, .bool false, .int .i64 10] 30)
    have hL11 : w.heap.size ≤ w15.heap.size := HB.out.size
    replace CB := Lib.hid (upQ CB.out b16)
    replace L4 := Lib.hid (upQ L4.out b16)
    replace L8 := Lib.hid (upQ L8.out b16)
    replace L10 := Lib.hid (upQ L10.out b16)
    replace QM := Lib.hid (Chgs.later QM.out b16)
    replace FM := Lib.hid (CellsAt.later FM.out b16)
    replace QN := Lib.hid (Chgs.later QN.out b16)
    replace QO := Lib.hid (Chgs.later QO.out b16)
    replace FO := Lib.hid (CellsAt.later FO.out b16)
    replace HB := Lib.hid (below2Z HB.out b16)
    clear b16
    replace L11 := Lib.hid L11
    go_upto_region 9 with fail
    generalize w15.alloc (.cells #[.int .i64 2, .slice uOa 1 uOc, .bool false, .int .i64 0, .int .i64 10, .bool false, .int .i64 10] 30) = w17 at CB L4 L8 L10 L11 QM FM QN QO FO HB ⊢
    obtain ⟨⟨CBc0, CBc1, CBc2, CBc3⟩, ⟨CBf0, CBf1, CBf2, CBf3⟩⟩ := blk4 CB.out
    obtain ⟨⟨L11c0, L11c1, L11c2, L11c3, L11c4, L11c5, L11c6⟩, ⟨L11f0, L11f1, L11f2, L11f3, L11f4, L11f5, L11f6⟩⟩ := blk7 L11.out
    go_wp2_with fail
    clear CBc0 CBc1 CBc2 CBc3 CBf0 CBf1 CBf2 CBf3 L11c0 L11c1 L11c2 L11c3 L11c4 L11c5 L11c6 L11f0 L11f1 L11f2 L11f3 L11f4 L11f5 L11f6
    refine (lemit_eq QO.out (tab_nilL _) lnk_s3 (by decide) short_nilL 2 2 1 5 2 0 10 10 10 false false lnk_q7).mono ?_
    rintro e w18 ⟨uP, fvP, psP, rfl, hP, kP, mP, b18⟩
    replace CB := Lib.hid (upQ CB.out b18)
    replace L4 := Lib.hid (upQ L4.out b18)
    replace L8 := Lib.hid (upQ L8.out b18)
    replace L10 := Lib.hid (upQ L10.out b18)
    replace L11 := Lib.hid (upQ L11.out b18)
    replace QM := Lib.hid (Chgs.later QM.out b18)
    replace FM := Lib.hid (CellsAt.later FM.out b18)
    replace QN := Lib.hid (Chgs.later QN.out b18)
    replace QO := Lib.hid (Chgs.later QO.out b18)
    replace FO := Lib.hid (CellsAt.later FO.out b18)
    replace HB := Lib.hid (below2Z HB.out b18)
    obtain ⟨uPa, uPc, rfl⟩ := chgs_shape hP (n := 1) rfl
    obtain ⟨fPa, fPc, rfl⟩ := kf_zero kP mP
    have QP := Lib.hid hP
    clear hP kP mP
    clear b18
    have b19 := bl_newZ w18 (.cells #[.int .i64 2, .slice uPa 1 uPc, .bool false, .int .i64 0, .int .i64 10, .bool false, .int .i64 10] 30)
    have L13 := newQ w18 (.cells #[.int .i64 2, .slice uPa 1 uPc, .bool false, .int .i64 0, .int .i64 10, .bool false, .int .i64 10] 30)
    have hL13 : w.heap.size ≤ w18.heap.size := HB.out.size
    replace CB := Lib.hid (upQ CB.out b19)
    replace L4 := Lib.hid (upQ L4.out b19)
    replace L8 := Lib.hid (upQ L8.out b19)
    replace L10 := Lib.hid (upQ L10.out b19)
    replace L11 := Lib.hid (upQ L11.out b19)
    replace QM := Lib.hid (Chgs.later QM.out b19)
    replace FM := Lib.hid (CellsAt.later FM.out b19)
    replace QN := Lib.hid (Chgs.later QN.out b19)
    replace QO := Lib.hid (Chgs.later QO.out b19)
    replace FO := Lib.hid (CellsAt.later FO.out b19)
    replace QP := Lib.hid (Chgs.later QP.out b19)
    replace HB := Lib.hid (below2Z HB.out b19)
    clear b19
    replace L13 := Lib.hid L13
    go_upto_region 10 with fail
    generalize w18.alloc (.cells #[.int .i64 2, .slice uPa 1 uPc, .bool false, .int .i64 0, .int .i64 10, .bool false, .int .i64 10] 30) = w20 at CB L4 L8 L10 L11 L13 QM FM QN QO FO QP HB ⊢
    obtain ⟨⟨CBc0, CBc1, CBc2, CBc3⟩, ⟨CBf0, CBf1, CBf2, CBf3⟩⟩ := blk4 CB.out
    obtain ⟨⟨L11c0, L11c1, L11c2, L11c3, L11c4, L11c5, L11c6⟩, ⟨L11f0, L11f1, L11f2, L11f3, L11f4, L11f5, L11f6⟩⟩ := blk7 L11.out
    go_wp2_with fail
    clear CBc0 CBc1 CBc2 CBc3 CBf0 CBf1 CBf2 CBf3 L11c0 L11c1 L11c2 L11c3 L11c4 L11c5 L11c6 L11f0 L11f1 L11f2 L11f3 L11f4 L11f5 L11f6
    refine (lemit_eq QO.out (tab_nilL _) lnk_s3 (by decide) short_nilL 2 2 1 5 2 0 10 10 16 false false lnk_q8).mono ?_
    rintro e w21 ⟨uI, fvI, psI, rfl, hI, kI, mI, b21⟩
    replace CB := Lib.hid (upQ CB.out b21)
    replace L4 := Lib.hid (upQ L4.out b21)
    replace L8 := Lib.hid (upQ L8.out b21)
    replace L10 := Lib.hid (upQ L10.out b21)
    replace L11 := Lib.hid (upQ L11.out b21)
    replace L13 := Lib.hid (upQ L13.out b21)
    replace QM := Lib.hid (Chgs.later QM.out b21)
    replace FM := Lib.hid (CellsAt.later FM.out b21)
    replace QN := Lib.hid (Chgs.later QN.out b21)
    replace QO := Lib.hid (Chgs.later QO.out b21)
    replace FO := Lib.hid (CellsAt.later FO.out b21)
    replace QP := Lib.hid (Chgs.later QP.out b21)
    replace HB := Lib.hid (below2Z HB.out b21)
    obtain ⟨uIa, uIc, rfl⟩ := chgs_shape hI (n := 0) rfl
    obtain ⟨gI, fIc, pIa, pIc, rIa, rIc, rfl, hFI, hGI⟩ := kf_two kI mI
    have QI := Lib.hid hI
    have FI := Lib.hid hFI
    have GI := Lib.hid hGI
    clear hI kI mI hFI hGI
    clear b21
    have b22 := bl_newZ w21 (.cells #[.int .i64 4, .slice uIa 0 uIc, .bool false, .int .i64 0, .int .i64 16, .bool false, .int .i64 16] 30)
    have L15 := newQ w21 (.cells #[.int .i64 4, .slice uIa 0 uIc, .bool false, .int .i64 0, .int .i64 16, .bool false, .int .i64 16] 30)
    have hL15 : w.heap.size ≤ w21.heap.size := HB.out.size
    replace CB := Lib.hid (upQ CB.out b22)
    replace L4 := Lib.hid (upQ L4.out b22)
    replace L8 := Lib.hid (upQ L8.out b22)
    replace L10 := Lib.hid (upQ L10.out b22)
    replace L11 := Lib.hid (upQ L11.out b22)
    replace L13 := Lib.hid (upQ L13.out b22)
    replace QM := Lib.hid (Chgs.later QM.out b22)
    replace FM := Lib.hid (CellsAt.later FM.out b22)
    replace QN := Lib.hid (Chgs.later QN.out b22)
    replace QO := Lib.hid (Chgs.later QO.out b22)
    replace FO := Lib.hid (CellsAt.later FO.out b22)
    replace QP := Lib.hid (Chgs.later QP.out b22)
    replace QI := Lib.hid (Chgs.later QI.out b22)
    replace FI := Lib.hid (CellsAt.later FI.out b22)
    replace GI := Lib.hid (CellsAt.later GI.out b22)
    replace HB := Lib.hid (below2Z HB.out b22)
    clear b22
    replace L15 := Lib.hid L15
    go_upto_region 11 with fail
    generalize w21.alloc (.cells #[.int .i64 4, .slice uIa 0 uIc, .bool false, .int .i64 0, .int .i64 16, .bool false, .int .i64 16] 30) = w23 at CB L4 L8 L10 L11 L13 L15 QM FM QN QO FO QP QI FI GI HB ⊢
    obtain ⟨⟨CBc0, CBc1, CBc2, CBc3⟩, ⟨CBf0, CBf1, CBf2, CBf3⟩⟩ := blk4 CB.out
    obtain ⟨⟨L10c0, L10c1, L10c2, L10c3, L10c4, L10c5, L10c6⟩, ⟨L10f0, L10f1, L10f2, L10f3, L10f4, L10f5, L10f6⟩⟩ := blk7 L10.out
    go_wp2_with fail
    clear CBc0 CBc1 CBc2 CBc3 CBf0 CBf1 CBf2 CBf3 L10c0 L10c1 L10c2 L10c3 L10c4 L10c5 L10c6 L10f0 L10f1 L10f2 L10f3 L10f4 L10f5 L10f6
    refine (lpush_eq QN.out (by decide) false false 2 2 1 5 1 1 10 10 0 0 0 false [99] [] lnk_q9).mono ?_
    rintro e w24 ⟨uR, rfl, hR, b24⟩
    replace CB := Lib.hid (upQ CB.out b24)
    replace L4 := Lib.hid (upQ L4.out b24)
    replace L8 := Lib.hid (upQ L8.out b24)
    replace L10 := Lib.hid (upQ L10.out b24)
    replace L11 := Lib.hid (upQ L11.out b24)
    replace L13 := Lib.hid (upQ L13.out b24)
    replace L15 := Lib.hid (upQ L15.out b24)
    replace QM := Lib.hid (Chgs.later QM.out b24)
    replace FM := Lib.hid (CellsAt.later FM.out b24)
    replace QN := Lib.hid (Chgs.later QN.out b24)
    replace QO := Lib.hid (Chgs.later QO.out b24)
    replace FO := Lib.hid (CellsAt.later FO.out b24)
    replace QP := Lib.hid (Chgs.later QP.out b24)
    replace QI := Lib.hid (Chgs.later QI.out b24)
    replace FI := Lib.hid (CellsAt.later FI.out b24)
    replace GI := Lib.hid (CellsAt.later GI.out b24)
    replace HB := Lib.hid (below2Z HB.out b24)
    obtain ⟨uRa, uRc, rfl⟩ := chgs_shape hR (n := 0) rfl
    clear hR
    clear b24
    have b25 := bl_newZ w24 (.cells #[.int .i64 1, .slice uRa 0 uRc, .bool false, .int .i64 1, .int .i64 10, .bool true, .int .i64 10] 30)
    have L17 := newQ w24 (.cells #[.int .i64 1, .slice uRa 0 uRc, .bool false, .int .i64 1, .int .i64 10, .bool true, .int .i64 10] 30)
    have hL17 : w.heap.size ≤ w24.heap.size := HB.out.size
    replace CB := Lib.hid (upQ CB.out b25)
    replace L4 := Lib.hid (upQ L4.out b25)
    replace L8 := Lib.hid (upQ L8.out b25)
    replace L10 := Lib.hid (upQ L10.out b25)
    replace L11 := Lib.hid (upQ L11.out b25)
    replace L13 := Lib.hid (upQ L13.out b25)
    replace L15 := Lib.hid (upQ L15.out b25)
    replace QM := Lib.hid (Chgs.later QM.out b25)
    replace FM := Lib.hid (CellsAt.later FM.out b25)
    replace QN := Lib.hid (Chgs.later QN.out b25)
    replace QO := Lib.hid (Chgs.later QO.out b25)
    replace FO := Lib.hid (CellsAt.later FO.out b25)
    replace QP := Lib.hid (Chgs.later QP.out b25)
    replace QI := Lib.hid (Chgs.later QI.out b25)
    replace FI := Lib.hid (CellsAt.later FI.out b25)
    replace GI := Lib.hid (CellsAt.later GI.out b25)
    replace HB := Lib.hid (below2Z HB.out b25)
    clear b25
    replace L17 := Lib.hid L17
    go_upto_region 12 with fail
    generalize w24.alloc (.cells #[.int .i64 1, .slice uRa 0 uRc, .bool false, .int .i64 1, .int .i64 10, .bool true, .int .i64 10] 30) = w26 at CB L4 L8 L10 L11 L13 L15 L17 QM FM QN QO FO QP QI FI GI HB ⊢
    clear L10
    clear QN QM
    obtain ⟨⟨CBc0, CBc1, CBc2, CBc3⟩, ⟨CBf0, CBf1, CBf2, CBf3⟩⟩ := blk4 CB.out
    obtain ⟨⟨L4c0, L4c1, L4c2, L4c3, L4c4, L4c5, L4c6⟩, ⟨L4f0, L4f1, L4f2, L4f3, L4f4, L4f5, L4f6⟩⟩ := blk7 L4.out
    obtain ⟨⟨L8c0, L8c1, L8c2, L8c3, L8c4, L8c5, L8c6⟩, ⟨L8f0, L8f1, L8f2, L8f3, L8f4, L8f5, L8f6⟩⟩ := blk7 L8.out
    obtain ⟨⟨L11c0, L11c1, L11c2, L11c3, L11c4, L11c5, L11c6⟩, ⟨L11f0, L11f1, L11f2, L11f3, L11f4, L11f5, L11f6⟩⟩ := blk7 L11.out
    obtain ⟨⟨L13c0, L13c1, L13c2, L13c3, L13c4, L13c5, L13c6⟩, ⟨L13f0, L13f1, L13f2, L13f3, L13f4, L13f5, L13f6⟩⟩ := blk7 L13.out
    obtain ⟨⟨L15c0, L15c1, L15c2, L15c3, L15c4, L15c5, L15c6⟩, ⟨L15f0, L15f1, L15f2, L15f3, L15f4, L15f5, L15f6⟩⟩ := blk7 L15.out
    obtain ⟨⟨L17c0, L17c1, L17c2, L17c3, L17c4, L17c5, L17c6⟩, ⟨L17f0, L17f1, L17f2, L17f3, L17f4, L17f5, L17f6⟩⟩ := blk7 L17.out
    have fc0 : w26.cell? ⟨gM, 0, none⟩ = some (.int .i64 3) := FM.out 0 _ rfl
    have fc1 : w26.cell? ⟨gM, 9, none⟩ = some (.slice pMa 1 pMc) := FM.out 9 _ rfl
    have fc2 : w26.cell? ⟨gO, 0, none⟩ = some (.int .i64 1) := FO.out 0 _ rfl
    have fc3 : w26.cell? ⟨gO, 3, none⟩ = some (.string ⟨#[97]⟩) := FO.out 3 _ rfl
    have fc4 : w26.cell? ⟨gO, 1, none⟩ = some (.int .i64 1) := FO.out 1 _ rfl
    have fc5 : w26.cell? ⟨gI, 3, none⟩ = some (.string ⟨#[98]⟩) := FI.out 3 _ rfl
    have fc6 : w26.cell? ⟨gI, 10, none⟩ = some (.int .i64 2) := GI.out 0 _ rfl
    have fc7 : w26.cell? ⟨gI, 11, none⟩ = some (.int .i64 3) := GI.out 1 _ rfl
    go_wp2_with fail
    clear CBc0 CBc1 CBc2 CBc3 CBf0 CBf1 CBf2 CBf3 L4c0 L4c1 L4c2 L4c3 L4c4 L4c5 L4c6 L4f0 L4f1 L4f2 L4f3 L4f4 L4f5 L4f6 L8c0 L8c1 L8c2 L8c3 L8c4 L8c5 L8c6 L8f0 L8f1 L8f2 L8f3 L8f4 L8f5 L8f6 L11c0 L11c1 L11c2 L11c3 L11c4 L11c5 L11c6 L11f0 L11f1 L11f2 L11f3 L11f4 L11f5 L11f6 L13c0 L13c1 L13c2 L13c3 L13c4 L13c5 L13c6 L13f0 L13f1 L13f2 L13f3 L13f4 L13f5 L13f6 L15c0 L15c1 L15c2 L15c3 L15c4 L15c5 L15c6 L15f0 L15f1 L15f2 L15f3 L15f4 L15f5 L15f6 L17c0 L17c1 L17c2 L17c3 L17c4 L17c5 L17c6 L17f0 L17f1 L17f2 L17f3 L17f4 L17f5 L17f6 fc0 fc1 fc2 fc3 fc4 fc5 fc6 fc7
    refine (rlsame_yes QO.out QP.out false false 2 0 10 10).mono ?_
    rintro e w27 ⟨rfl, b27⟩
    replace CB := Lib.hid (upQ CB.out b27)
    replace L4 := Lib.hid (upQ L4.out b27)
    replace L8 := Lib.hid (upQ L8.out b27)
    replace L11 := Lib.hid (upQ L11.out b27)
    replace L13 := Lib.hid (upQ L13.out b27)
    replace L15 := Lib.hid (upQ L15.out b27)
    replace L17 := Lib.hid (upQ L17.out b27)
    replace FM := Lib.hid (CellsAt.later FM.out b27)
    replace QO := Lib.hid (Chgs.later QO.out b27)
    replace FO := Lib.hid (CellsAt.later FO.out b27)
    replace QP := Lib.hid (Chgs.later QP.out b27)
    replace QI := Lib.hid (Chgs.later QI.out b27)
    replace FI := Lib.hid (CellsAt.later FI.out b27)
    replace GI := Lib.hid (CellsAt.later GI.out b27)
    replace HB := Lib.hid (below2Z HB.out b27)
    clear b27
    obtain ⟨⟨CBc0, CBc1, CBc2, CBc3⟩, ⟨CBf0, CBf1, CBf2, CBf3⟩⟩ := blk4 CB.out
    obtain ⟨⟨L4c0, L4c1, L4c2, L4c3, L4c4, L4c5, L4c6⟩, ⟨L4f0, L4f1, L4f2, L4f3, L4f4, L4f5, L4f6⟩⟩ := blk7 L4.out
    obtain ⟨⟨L8c0, L8c1, L8c2, L8c3, L8c4, L8c5, L8c6⟩, ⟨L8f0, L8f1, L8f2, L8f3, L8f4, L8f5, L8f6⟩⟩ := blk7 L8.out
    obtain ⟨⟨L11c0, L11c1, L11c2, L11c3, L11c4, L11c5, L11c6⟩, ⟨L11f0, L11f1, L11f2, L11f3, L11f4, L11f5, L11f6⟩⟩ := blk7 L11.out
    obtain ⟨⟨L13c0, L13c1, L13c2, L13c3, L13c4, L13c5, L13c6⟩, ⟨L13f0, L13f1, L13f2, L13f3, L13f4, L13f5, L13f6⟩⟩ := blk7 L13.out
    obtain ⟨⟨L15c0, L15c1, L15c2, L15c3, L15c4, L15c5, L15c6⟩, ⟨L15f0, L15f1, L15f2, L15f3, L15f4, L15f5, L15f6⟩⟩ := blk7 L15.out
    obtain ⟨⟨L17c0, L17c1, L17c2, L17c3, L17c4, L17c5, L17c6⟩, ⟨L17f0, L17f1, L17f2, L17f3, L17f4, L17f5, L17f6⟩⟩ := blk7 L17.out
    have fc0 : w27.cell? ⟨gM, 0, none⟩ = some (.int .i64 3) := FM.out 0 _ rfl
    have fc1 : w27.cell? ⟨gM, 9, none⟩ = some (.slice pMa 1 pMc) := FM.out 9 _ rfl
    have fc2 : w27.cell? ⟨gO, 0, none⟩ = some (.int .i64 1) := FO.out 0 _ rfl
    have fc3 : w27.cell? ⟨gO, 3, none⟩ = some (.string ⟨#[97]⟩) := FO.out 3 _ rfl
    have fc4 : w27.cell? ⟨gO, 1, none⟩ = some (.int .i64 1) := FO.out 1 _ rfl
    have fc5 : w27.cell? ⟨gI, 3, none⟩ = some (.string ⟨#[98]⟩) := FI.out 3 _ rfl
    have fc6 : w27.cell? ⟨gI, 10, none⟩ = some (.int .i64 2) := GI.out 0 _ rfl
    have fc7 : w27.cell? ⟨gI, 11, none⟩ = some (.int .i64 3) := GI.out 1 _ rfl
    go_wp2_with fail
    clear CBc0 CBc1 CBc2 CBc3 CBf0 CBf1 CBf2 CBf3 L4c0 L4c1 L4c2 L4c3 L4c4 L4c5 L4c6 L4f0 L4f1 L4f2 L4f3 L4f4 L4f5 L4f6 L8c0 L8c1 L8c2 L8c3 L8c4 L8c5 L8c6 L8f0 L8f1 L8f2 L8f3 L8f4 L8f5 L8f6 L11c0 L11c1 L11c2 L11c3 L11c4 L11c5 L11c6 L11f0 L11f1 L11f2 L11f3 L11f4 L11f5 L11f6 L13c0 L13c1 L13c2 L13c3 L13c4 L13c5 L13c6 L13f0 L13f1 L13f2 L13f3 L13f4 L13f5 L13f6 L15c0 L15c1 L15c2 L15c3 L15c4 L15c5 L15c6 L15f0 L15f1 L15f2 L15f3 L15f4 L15f5 L15f6 L17c0 L17c1 L17c2 L17c3 L17c4 L17c5 L17c6 L17f0 L17f1 L17f2 L17f3 L17f4 L17f5 L17f6 fc0 fc1 fc2 fc3 fc4 fc5 fc6 fc7
    refine (lquiet_any QI.out false false 4 0 16 16 lnk_q10).mono ?_
    rintro e w28 ⟨rfl, b28⟩
    replace CB := Lib.hid (upQ CB.out b28)
    replace L4 := Lib.hid (upQ L4.out b28)
    replace L8 := Lib.hid (upQ L8.out b28)
    replace L11 := Lib.hid (upQ L11.out b28)
    replace L13 := Lib.hid (upQ L13.out b28)
    replace L15 := Lib.hid (upQ L15.out b28)
    replace L17 := Lib.hid (upQ L17.out b28)
    replace FM := Lib.hid (CellsAt.later FM.out b28)
    replace QO := Lib.hid (Chgs.later QO.out b28)
    replace FO := Lib.hid (CellsAt.later FO.out b28)
    replace QP := Lib.hid (Chgs.later QP.out b28)
    replace QI := Lib.hid (Chgs.later QI.out b28)
    replace FI := Lib.hid (CellsAt.later FI.out b28)
    replace GI := Lib.hid (CellsAt.later GI.out b28)
    replace HB := Lib.hid (below2Z HB.out b28)
    clear b28
    obtain ⟨⟨CBc0, CBc1, CBc2, CBc3⟩, ⟨CBf0, CBf1, CBf2, CBf3⟩⟩ := blk4 CB.out
    obtain ⟨⟨L4c0, L4c1, L4c2, L4c3, L4c4, L4c5, L4c6⟩, ⟨L4f0, L4f1, L4f2, L4f3, L4f4, L4f5, L4f6⟩⟩ := blk7 L4.out
    obtain ⟨⟨L8c0, L8c1, L8c2, L8c3, L8c4, L8c5, L8c6⟩, ⟨L8f0, L8f1, L8f2, L8f3, L8f4, L8f5, L8f6⟩⟩ := blk7 L8.out
    obtain ⟨⟨L11c0, L11c1, L11c2, L11c3, L11c4, L11c5, L11c6⟩, ⟨L11f0, L11f1, L11f2, L11f3, L11f4, L11f5, L11f6⟩⟩ := blk7 L11.out
    obtain ⟨⟨L13c0, L13c1, L13c2, L13c3, L13c4, L13c5, L13c6⟩, ⟨L13f0, L13f1, L13f2, L13f3, L13f4, L13f5, L13f6⟩⟩ := blk7 L13.out
    obtain ⟨⟨L15c0, L15c1, L15c2, L15c3, L15c4, L15c5, L15c6⟩, ⟨L15f0, L15f1, L15f2, L15f3, L15f4, L15f5, L15f6⟩⟩ := blk7 L15.out
    obtain ⟨⟨L17c0, L17c1, L17c2, L17c3, L17c4, L17c5, L17c6⟩, ⟨L17f0, L17f1, L17f2, L17f3, L17f4, L17f5, L17f6⟩⟩ := blk7 L17.out
    have fc0 : w28.cell? ⟨gM, 0, none⟩ = some (.int .i64 3) := FM.out 0 _ rfl
    have fc1 : w28.cell? ⟨gM, 9, none⟩ = some (.slice pMa 1 pMc) := FM.out 9 _ rfl
    have fc2 : w28.cell? ⟨gO, 0, none⟩ = some (.int .i64 1) := FO.out 0 _ rfl
    have fc3 : w28.cell? ⟨gO, 3, none⟩ = some (.string ⟨#[97]⟩) := FO.out 3 _ rfl
    have fc4 : w28.cell? ⟨gO, 1, none⟩ = some (.int .i64 1) := FO.out 1 _ rfl
    have fc5 : w28.cell? ⟨gI, 3, none⟩ = some (.string ⟨#[98]⟩) := FI.out 3 _ rfl
    have fc6 : w28.cell? ⟨gI, 10, none⟩ = some (.int .i64 2) := GI.out 0 _ rfl
    have fc7 : w28.cell? ⟨gI, 11, none⟩ = some (.int .i64 3) := GI.out 1 _ rfl
    go_wp2_with fail
    clear CBc0 CBc1 CBc2 CBc3 CBf0 CBf1 CBf2 CBf3 L4c0 L4c1 L4c2 L4c3 L4c4 L4c5 L4c6 L4f0 L4f1 L4f2 L4f3 L4f4 L4f5 L4f6 L8c0 L8c1 L8c2 L8c3 L8c4 L8c5 L8c6 L8f0 L8f1 L8f2 L8f3 L8f4 L8f5 L8f6 L11c0 L11c1 L11c2 L11c3 L11c4 L11c5 L11c6 L11f0 L11f1 L11f2 L11f3 L11f4 L11f5 L11f6 L13c0 L13c1 L13c2 L13c3 L13c4 L13c5 L13c6 L13f0 L13f1 L13f2 L13f3 L13f4 L13f5 L13f6 L15c0 L15c1 L15c2 L15c3 L15c4 L15c5 L15c6 L15f0 L15f1 L15f2 L15f3 L15f4 L15f5 L15f6 L17c0 L17c1 L17c2 L17c3 L17c4 L17c5 L17c6 L17f0 L17f1 L17f2 L17f3 L17f4 L17f5 L17f6 fc0 fc1 fc2 fc3 fc4 fc5 fc6 fc7
    refine (lquiet_any QO.out false false 2 0 10 10 lnk_q11).mono ?_
    rintro e w29 ⟨rfl, b29⟩
    replace CB := Lib.hid (upQ CB.out b29)
    replace L4 := Lib.hid (upQ L4.out b29)
    replace L8 := Lib.hid (upQ L8.out b29)
    replace L11 := Lib.hid (upQ L11.out b29)
    replace L13 := Lib.hid (upQ L13.out b29)
    replace L15 := Lib.hid (upQ L15.out b29)
    replace L17 := Lib.hid (upQ L17.out b29)
    replace FM := Lib.hid (CellsAt.later FM.out b29)
    replace QO := Lib.hid (Chgs.later QO.out b29)
    replace FO := Lib.hid (CellsAt.later FO.out b29)
    replace QP := Lib.hid (Chgs.later QP.out b29)
    replace QI := Lib.hid (Chgs.later QI.out b29)
    replace FI := Lib.hid (CellsAt.later FI.out b29)
    replace GI := Lib.hid (CellsAt.later GI.out b29)
    replace HB := Lib.hid (below2Z HB.out b29)
    clear b29
    obtain ⟨⟨CBc0, CBc1, CBc2, CBc3⟩, ⟨CBf0, CBf1, CBf2, CBf3⟩⟩ := blk4 CB.out
    obtain ⟨⟨L4c0, L4c1, L4c2, L4c3, L4c4, L4c5, L4c6⟩, ⟨L4f0, L4f1, L4f2, L4f3, L4f4, L4f5, L4f6⟩⟩ := blk7 L4.out
    obtain ⟨⟨L8c0, L8c1, L8c2, L8c3, L8c4, L8c5, L8c6⟩, ⟨L8f0, L8f1, L8f2, L8f3, L8f4, L8f5, L8f6⟩⟩ := blk7 L8.out
    obtain ⟨⟨L11c0, L11c1, L11c2, L11c3, L11c4, L11c5, L11c6⟩, ⟨L11f0, L11f1, L11f2, L11f3, L11f4, L11f5, L11f6⟩⟩ := blk7 L11.out
    obtain ⟨⟨L13c0, L13c1, L13c2, L13c3, L13c4, L13c5, L13c6⟩, ⟨L13f0, L13f1, L13f2, L13f3, L13f4, L13f5, L13f6⟩⟩ := blk7 L13.out
    obtain ⟨⟨L15c0, L15c1, L15c2, L15c3, L15c4, L15c5, L15c6⟩, ⟨L15f0, L15f1, L15f2, L15f3, L15f4, L15f5, L15f6⟩⟩ := blk7 L15.out
    obtain ⟨⟨L17c0, L17c1, L17c2, L17c3, L17c4, L17c5, L17c6⟩, ⟨L17f0, L17f1, L17f2, L17f3, L17f4, L17f5, L17f6⟩⟩ := blk7 L17.out
    have fc0 : w29.cell? ⟨gM, 0, none⟩ = some (.int .i64 3) := FM.out 0 _ rfl
    have fc1 : w29.cell? ⟨gM, 9, none⟩ = some (.slice pMa 1 pMc) := FM.out 9 _ rfl
    have fc2 : w29.cell? ⟨gO, 0, none⟩ = some (.int .i64 1) := FO.out 0 _ rfl
    have fc3 : w29.cell? ⟨gO, 3, none⟩ = some (.string ⟨#[97]⟩) := FO.out 3 _ rfl
    have fc4 : w29.cell? ⟨gO, 1, none⟩ = some (.int .i64 1) := FO.out 1 _ rfl
    have fc5 : w29.cell? ⟨gI, 3, none⟩ = some (.string ⟨#[98]⟩) := FI.out 3 _ rfl
    have fc6 : w29.cell? ⟨gI, 10, none⟩ = some (.int .i64 2) := GI.out 0 _ rfl
    have fc7 : w29.cell? ⟨gI, 11, none⟩ = some (.int .i64 3) := GI.out 1 _ rfl
    go_wp2_with fail
    clear CBc0 CBc1 CBc2 CBc3 CBf0 CBf1 CBf2 CBf3 L4c0 L4c1 L4c2 L4c3 L4c4 L4c5 L4c6 L4f0 L4f1 L4f2 L4f3 L4f4 L4f5 L4f6 L8c0 L8c1 L8c2 L8c3 L8c4 L8c5 L8c6 L8f0 L8f1 L8f2 L8f3 L8f4 L8f5 L8f6 L11c0 L11c1 L11c2 L11c3 L11c4 L11c5 L11c6 L11f0 L11f1 L11f2 L11f3 L11f4 L11f5 L11f6 L13c0 L13c1 L13c2 L13c3 L13c4 L13c5 L13c6 L13f0 L13f1 L13f2 L13f3 L13f4 L13f5 L13f6 L15c0 L15c1 L15c2 L15c3 L15c4 L15c5 L15c6 L15f0 L15f1 L15f2 L15f3 L15f4 L15f5 L15f6 L17c0 L17c1 L17c2 L17c3 L17c4 L17c5 L17c6 L17f0 L17f1 L17f2 L17f3 L17f4 L17f5 L17f6 fc0 fc1 fc2 fc3 fc4 fc5 fc6 fc7
    refine (lmay_any QI.out shortC_nilL (by decide) false false 4 0 16 16 2 2 1 5 lnk_q12).mono ?_
    rintro e w30 ⟨rfl, b30⟩
    replace CB := Lib.hid (upQ CB.out b30)
    replace L4 := Lib.hid (upQ L4.out b30)
    replace L8 := Lib.hid (upQ L8.out b30)
    replace L11 := Lib.hid (upQ L11.out b30)
    replace L13 := Lib.hid (upQ L13.out b30)
    replace L15 := Lib.hid (upQ L15.out b30)
    replace L17 := Lib.hid (upQ L17.out b30)
    replace FM := Lib.hid (CellsAt.later FM.out b30)
    replace QO := Lib.hid (Chgs.later QO.out b30)
    replace FO := Lib.hid (CellsAt.later FO.out b30)
    replace QP := Lib.hid (Chgs.later QP.out b30)
    replace QI := Lib.hid (Chgs.later QI.out b30)
    replace FI := Lib.hid (CellsAt.later FI.out b30)
    replace GI := Lib.hid (CellsAt.later GI.out b30)
    replace HB := Lib.hid (below2Z HB.out b30)
    clear b30
    obtain ⟨⟨CBc0, CBc1, CBc2, CBc3⟩, ⟨CBf0, CBf1, CBf2, CBf3⟩⟩ := blk4 CB.out
    obtain ⟨⟨L4c0, L4c1, L4c2, L4c3, L4c4, L4c5, L4c6⟩, ⟨L4f0, L4f1, L4f2, L4f3, L4f4, L4f5, L4f6⟩⟩ := blk7 L4.out
    obtain ⟨⟨L8c0, L8c1, L8c2, L8c3, L8c4, L8c5, L8c6⟩, ⟨L8f0, L8f1, L8f2, L8f3, L8f4, L8f5, L8f6⟩⟩ := blk7 L8.out
    obtain ⟨⟨L11c0, L11c1, L11c2, L11c3, L11c4, L11c5, L11c6⟩, ⟨L11f0, L11f1, L11f2, L11f3, L11f4, L11f5, L11f6⟩⟩ := blk7 L11.out
    obtain ⟨⟨L13c0, L13c1, L13c2, L13c3, L13c4, L13c5, L13c6⟩, ⟨L13f0, L13f1, L13f2, L13f3, L13f4, L13f5, L13f6⟩⟩ := blk7 L13.out
    obtain ⟨⟨L15c0, L15c1, L15c2, L15c3, L15c4, L15c5, L15c6⟩, ⟨L15f0, L15f1, L15f2, L15f3, L15f4, L15f5, L15f6⟩⟩ := blk7 L15.out
    obtain ⟨⟨L17c0, L17c1, L17c2, L17c3, L17c4, L17c5, L17c6⟩, ⟨L17f0, L17f1, L17f2, L17f3, L17f4, L17f5, L17f6⟩⟩ := blk7 L17.out
    have fc0 : w30.cell? ⟨gM, 0, none⟩ = some (.int .i64 3) := FM.out 0 _ rfl
    have fc1 : w30.cell? ⟨gM, 9, none⟩ = some (.slice pMa 1 pMc) := FM.out 9 _ rfl
    have fc2 : w30.cell? ⟨gO, 0, none⟩ = some (.int .i64 1) := FO.out 0 _ rfl
    have fc3 : w30.cell? ⟨gO, 3, none⟩ = some (.string ⟨#[97]⟩) := FO.out 3 _ rfl
    have fc4 : w30.cell? ⟨gO, 1, none⟩ = some (.int .i64 1) := FO.out 1 _ rfl
    have fc5 : w30.cell? ⟨gI, 3, none⟩ = some (.string ⟨#[98]⟩) := FI.out 3 _ rfl
    have fc6 : w30.cell? ⟨gI, 10, none⟩ = some (.int .i64 2) := GI.out 0 _ rfl
    have fc7 : w30.cell? ⟨gI, 11, none⟩ = some (.int .i64 3) := GI.out 1 _ rfl
    go_wp2_with fail
    clear CBc0 CBc1 CBc2 CBc3 CBf0 CBf1 CBf2 CBf3 L4c0 L4c1 L4c2 L4c3 L4c4 L4c5 L4c6 L4f0 L4f1 L4f2 L4f3 L4f4 L4f5 L4f6 L8c0 L8c1 L8c2 L8c3 L8c4 L8c5 L8c6 L8f0 L8f1 L8f2 L8f3 L8f4 L8f5 L8f6 L11c0 L11c1 L11c2 L11c3 L11c4 L11c5 L11c6 L11f0 L11f1 L11f2 L11f3 L11f4 L11f5 L11f6 L13c0 L13c1 L13c2 L13c3 L13c4 L13c5 L13c6 L13f0 L13f1 L13f2 L13f3 L13f4 L13f5 L13f6 L15c0 L15c1 L15c2 L15c3 L15c4 L15c5 L15c6 L15f0 L15f1 L15f2 L15f3 L15f4 L15f5 L15f6 L17c0 L17c1 L17c2 L17c3 L17c4 L17c5 L17c6 L17f0 L17f1 L17f2 L17f3 L17f4 L17f5 L17f6 fc0 fc1 fc2 fc3 fc4 fc5 fc6 fc7
    refine (lmay_any (chgs_nil _) shortC_nilL (by decide) false false (-1) 0 0 0 2 2 1 5 lnk_q13).mono ?_
    rintro e w31 ⟨rfl, b31⟩
    replace CB := Lib.hid (upQ CB.out b31)
    replace L4 := Lib.hid (upQ L4.out b31)
    replace L8 := Lib.hid (upQ L8.out b31)
    replace L11 := Lib.hid (upQ L11.out b31)
    replace L13 := Lib.hid (upQ L13.out b31)
    replace L15 := Lib.hid (upQ L15.out b31)
    replace L17 := Lib.hid (upQ L17.out b31)
    replace FM := Lib.hid (CellsAt.later FM.out b31)
    replace QO := Lib.hid (Chgs.later QO.out b31)
    replace FO := Lib.hid (CellsAt.later FO.out b31)
    replace QP := Lib.hid (Chgs.later QP.out b31)
    replace QI := Lib.hid (Chgs.later QI.out b31)
    replace FI := Lib.hid (CellsAt.later FI.out b31)
    replace GI := Lib.hid (CellsAt.later GI.out b31)
    replace HB := Lib.hid (below2Z HB.out b31)
    clear b31
    go_wp2_with fail
    go_ret
    exact ⟨rfl, HB.out⟩

end Go.Proofs.YtndicdomdndjaaaGreat

end

section

/-
  LAYER 18: words for the walks of what is told.
-/
namespace Go.Proofs.YtndicdomdndjaaaGreat
open Go.RowKit

theorem fewt_eqL {w : World} {v : Value} {t : List Row} (hv : Tab w v t) {r : Bool} (h : Hid (fewT t = r)) :
    Calls Tryz.prog 22 #[v] w fun e w' => e = .returned (.bool r) ∧ Below w.heap.size w w' := by
  rw [← h.out]
  exact (fewt_any hv).mono fun _ _ ⟨he, hw⟩ => ⟨he, hw ▸ Below.refl _ _⟩

theorem rptime_eqL (n : Int) {r : Bool} (h : Hid (pcTime n = r)) (w : World) :
    Calls Tryz.prog 27 #[.int .i64 n] w fun e w' => e = .returned (.bool r) ∧ Below w.heap.size w w' := by
  rw [← h.out]
  exact (rptime_any n w).mono fun _ _ ⟨he, hw⟩ => ⟨he, hw ▸ Below.refl _ _⟩

theorem emit_run {c : Cfg} {l : Lnk} {view : List Row} {now : Int} (h1 : lnMay c l = true) (h2 : diMay view = true) (h3 : pcTime now = true) : lnEmit c l view now = lnRun c view now 65 l := by
  unfold lnEmit
  rw [if_pos (by rw [h1, h2, h3]; rfl)]

end Go.Proofs.YtndicdomdndjaaaGreat

end
