/-
  TEXTS OF THE PROOF, one behind the other: LnkREmit, FraMay, FraRsame, HeldC, LnkRW.
-/
import Derived.Test.YtndicdomdndjaaaGreatE08
import Derived.Test.YtndicdomdndjaaaGreatE02
import Derived.Deep.Cut
import Derived.Test.YtndicdomdndjaaaGreatE04
import Derived.Test.YtndicdomdndjaaaGreatE03
import Derived.Deep.RegionHeld3
import Derived.Laws.EntriesVeiled
import Derived.Test.YtndicdomdndjaaaGreatE05

section

/-
  LAYER 18, THE DOCUMENT'S ANSWER: Emit.
-/
namespace Go.Proofs.YtndicdomdndjaaaGreat
open Go.RowKit

set_option linter.unusedSimpArgs false
set_option linter.unusedVariables false

set_option maxHeartbeats 6400000 in
set_option maxRecDepth 100000 in
theorem rlemit_r1 {w : World} {v vt : Value} {ql : List Chg} {view : List Row} (hv : Chgs w v ql) (ht : Tab w vt view) (hs : ShortC ql) (hl : ql.length ≤ 100) (hsh : Short view) (ca cb cd ce seq tok at' dg now : Int) (la sn : Bool) (h1 : Hid (lnMay ⟨ca, cb, cd, ce⟩ ⟨seq, ⟨ql, la⟩, ⟨tok, at'⟩, sn, dg⟩ = false)) :
    Calls Tryz.prog 24 #[.agg #[.int .i64 ca, .int .i64 cb, .int .i64 cd, .int .i64 ce], .agg #[.int .i64 seq, v, .bool la, .int .i64 tok, .int .i64 at', .bool sn, .int .i64 dg], vt, .int .i64 now] w (EmittedR w ⟨seq, ⟨ql, la⟩, ⟨tok, at'⟩, sn, dg⟩ []) := by
  obtain ⟨qn, hqn⟩ : ∃ n, ql.length = n := ⟨_, rfl⟩
  obtain ⟨ao, cap, rfl⟩ := chgs_shape hv hqn
  have b0 := bl_newZ w (.cells #[.int .i64 ca, .int .i64 cb, .int .i64 cd, .int .i64 ce] 23)
  have b1 := bl_newZ (w.alloc (.cells #[.int .i64 ca, .int .i64 cb, .int .i64 cd, .int .i64 ce] 23)) (.cells #[.int .i64 seq, .slice ao qn cap, .bool la, .int .i64 tok, .int .i64 at', .bool sn, .int .i64 dg] 30)
  have b2 := bl_newZ ((w.alloc (.cells #[.int .i64 ca, .int .i64 cb, .int .i64 cd, .int .i64 ce] 23)).alloc (.cells #[.int .i64 seq, .slice ao qn cap, .bool la, .int .i64 tok, .int .i64 at', .bool sn, .int .i64 dg] 30)) (.cells #[.int .i64 0, .slice none 0 0, .bool false, .int .i64 0, .int .i64 0, .bool false, .int .i64 0] 30)
  have HB := Lib.hid (below2Z (below2Z b0 b1) b2)
  have V := Lib.hid (((hv.later b0).later b1).later b2)
  have T := Lib.hid (((ht.later b0).later b1).later b2)
  have CB := newQ w (.cells #[.int .i64 ca, .int .i64 cb, .int .i64 cd, .int .i64 ce] 23)
  replace CB := upQ CB b1
  replace CB := upQ CB b2
  replace CB := Lib.hid CB
  have LB := newQ (w.alloc (.cells #[.int .i64 ca, .int .i64 cb, .int .i64 cd, .int .i64 ce] 23)) (.cells #[.int .i64 seq, .slice ao qn cap, .bool la, .int .i64 tok, .int .i64 at', .bool sn, .int .i64 dg] 30)
  rw [World.size_alloc] at LB
  replace LB := upQ LB b2
  replace LB := Lib.hid LB
  have RB := newQ ((w.alloc (.cells #[.int .i64 ca, .int .i64 cb, .int .i64 cd, .int .i64 ce] 23)).alloc (.cells #[.int .i64 seq, .slice ao qn cap, .bool la, .int .i64 tok, .int .i64 at', .bool sn, .int .i64 dg] 30)) (.cells #[.int .i64 0, .slice none 0 0, .bool false, .int .i64 0, .int .i64 0, .bool false, .int .i64 0] 30)
  rw [World.size_alloc, World.size_alloc] at RB
  replace RB := Lib.hid RB
  clear b0 b1 b2
  have hle1 : w.heap.size ≤ w.heap.size + 1 := Nat.le_succ _
  have hle2 : w.heap.size ≤ w.heap.size + 1 + 1 := by omega
  have KQ0 : Hid (KQR w (((w.alloc (.cells #[.int .i64 ca, .int .i64 cb, .int .i64 cd, .int .i64 ce] 23)).alloc (.cells #[.int .i64 seq, .slice ao qn cap, .bool la, .int .i64 tok, .int .i64 at', .bool sn, .int .i64 dg] 30)).alloc (.cells #[.int .i64 0, .slice none 0 0, .bool false, .int .i64 0, .int .i64 0, .bool false, .int .i64 0] 30)) (.slice ao qn cap) ql) := Lib.hid (fun X hX => hv.later hX)
  have HS := Lib.hid hs
  have HH := Lib.hid hsh
  clear hs hsh
  obtain ⟨⟨CBc0, CBc1, CBc2, CBc3⟩, ⟨CBf0, CBf1, CBf2, CBf3⟩⟩ := blk4 CB.out
  obtain ⟨⟨LBc0, LBc1, LBc2, LBc3, LBc4, LBc5, LBc6⟩, ⟨LBf0, LBf1, LBf2, LBf3, LBf4, LBf5, LBf6⟩⟩ := blk7 LB.out
  go_enter Tryz.func24, Tryz.ntmps24
  go_wp2_with fail
  clear CBc0 CBc1 CBc2 CBc3 CBf0 CBf1 CBf2 CBf3 LBc0 LBc1 LBc2 LBc3 LBc4 LBc5 LBc6 LBf0 LBf1 LBf2 LBf3 LBf4 LBf5 LBf6
  refine (rlmay_any V.out HS.out hl la sn seq tok at' dg ca cb cd ce h1).mono ?_
  rintro e w4 ⟨rfl, b4⟩
  replace CB := Lib.hid (upQ CB.out b4)
  replace LB := Lib.hid (upQ LB.out b4)
  replace RB := Lib.hid (upQ RB.out b4)
  replace V := Lib.hid (V.out.later b4)
  replace T := Lib.hid (T.out.later b4)
  replace KQ0 := Lib.hid (KQR.later KQ0.out b4)
  replace HB := Lib.hid (below2Z HB.out b4)
  clear b4
  obtain ⟨⟨LBc0, LBc1, LBc2, LBc3, LBc4, LBc5, LBc6⟩, ⟨LBf0, LBf1, LBf2, LBf3, LBf4, LBf5, LBf6⟩⟩ := blk7 LB.out
  obtain ⟨⟨RBc0, RBc1, RBc2, RBc3, RBc4, RBc5, RBc6⟩, ⟨RBf0, RBf1, RBf2, RBf3, RBf4, RBf5, RBf6⟩⟩ := blk7 RB.out
  go_wp2_with fail
  have hz := stN7_heap RB.out (.int .i64 seq) (.slice ao qn cap) (.bool la) (.int .i64 tok) (.int .i64 at') (.bool sn) (.int .i64 dg)
  have KQz := KQ0.out.past RB.out (by decide) (fun k hk => stN7_far w4 (w.heap.size + 1 + 1) (.int .i64 seq) (.slice ao qn cap) (.bool la) (.int .i64 tok) (.int .i64 at') (.bool sn) (.int .i64 dg) hk)
  have KFz := kg_nil w (stN7 w4 (w.heap.size + 1 + 1) (.int .i64 seq) (.slice ao qn cap) (.bool la) (.int .i64 tok) (.int .i64 at') (.bool sn) (.int .i64 dg))
  have HBz := stN7_below HB.out hle2 (.int .i64 seq) (.slice ao qn cap) (.bool la) (.int .i64 tok) (.int .i64 at') (.bool sn) (.int .i64 dg)
  obtain ⟨⟨z0, z1, z2, z3, z4, z5, z6⟩, -⟩ := blk7 hz
  unfold stN7 at z0 z1 z2 z3 z4 z5 z6
  refine bodyPost_ret (v := .tuple #[.agg #[.int .i64 seq, .slice ao qn cap, .bool la, .int .i64 tok, .int .i64 at', .bool sn, .int .i64 dg], .slice none 0 0]) (by simp [results, Tryz.results24, go_sem, z0, z1, z2, z3, z4, z5, z6]) rfl ⟨_, _, [], rfl, KQz.chgs HBz, KFz, rfl, HBz⟩

set_option maxHeartbeats 6400000 in
set_option maxRecDepth 100000 in
theorem rlemit_r2 {w : World} {v vt : Value} {ql : List Chg} {view : List Row} (hv : Chgs w v ql) (ht : Tab w vt view) (hs : ShortC ql) (hl : ql.length ≤ 100) (hsh : Short view) (ca cb cd ce seq tok at' dg now : Int) (la sn : Bool) (h1 : Hid (lnMay ⟨ca, cb, cd, ce⟩ ⟨seq, ⟨ql, la⟩, ⟨tok, at'⟩, sn, dg⟩ = true)) (h2 : Hid (diMay view = false)) :
    Calls Tryz.prog 24 #[.agg #[.int .i64 ca, .int .i64 cb, .int .i64 cd, .int .i64 ce], .agg #[.int .i64 seq, v, .bool la, .int .i64 tok, .int .i64 at', .bool sn, .int .i64 dg], vt, .int .i64 now] w (EmittedR w ⟨seq, ⟨ql, la⟩, ⟨tok, at'⟩, sn, dg⟩ []) := by
  obtain ⟨qn, hqn⟩ : ∃ n, ql.length = n := ⟨_, rfl⟩
  obtain ⟨ao, cap, rfl⟩ := chgs_shape hv hqn
  have b0 := bl_newZ w (.cells #[.int .i64 ca, .int .i64 cb, .int .i64 cd, .int .i64 ce] 23)
  have b1 := bl_newZ (w.alloc (.cells #[.int .i64 ca, .int .i64 cb, .int .i64 cd, .int .i64 ce] 23)) (.cells #[.int .i64 seq, .slice ao qn cap, .bool la, .int .i64 tok, .int .i64 at', .bool sn, .int .i64 dg] 30)
  have b2 := bl_newZ ((w.alloc (.cells #[.int .i64 ca, .int .i64 cb, .int .i64 cd, .int .i64 ce] 23)).alloc (.cells #[.int .i64 seq, .slice ao qn cap, .bool la, .int .i64 tok, .int .i64 at', .bool sn, .int .i64 dg] 30)) (.cells #[.int .i64 0, .slice none 0 0, .bool false, .int .i64 0, .int .i64 0, .bool false, .int .i64 0] 30)
  have HB := Lib.hid (below2Z (below2Z b0 b1) b2)
  have V := Lib.hid (((hv.later b0).later b1).later b2)
  have T := Lib.hid (((ht.later b0).later b1).later b2)
  have CB := newQ w (.cells #[.int .i64 ca, .int .i64 cb, .int .i64 cd, .int .i64 ce] 23)
  replace CB := upQ CB b1
  replace CB := upQ CB b2
  replace CB := Lib.hid CB
  have LB := newQ (w.alloc (.cells #[.int .i64 ca, .int .i64 cb, .int .i64 cd, .int .i64 ce] 23)) (.cells #[.int .i64 seq, .slice ao qn cap, .bool la, .int .i64 tok, .int .i64 at', .bool sn, .int .i64 dg] 30)
  rw [World.size_alloc] at LB
  replace LB := upQ LB b2
  replace LB := Lib.hid LB
  have RB := newQ ((w.alloc (.cells #[.int .i64 ca, .int .i64 cb, .int .i64 cd, .int .i64 ce] 23)).alloc (.cells #[.int .i64 seq, .slice ao qn cap, .bool la, .int .i64 tok, .int .i64 at', .bool sn, .int .i64 dg] 30)) (.cells #[.int .i64 0, .slice none 0 0, .bool false, .int .i64 0, .int .i64 0, .bool false, .int .i64 0] 30)
  rw [World.size_alloc, World.size_alloc] at RB
  replace RB := Lib.hid RB
  clear b0 b1 b2
  have hle1 : w.heap.size ≤ w.heap.size + 1 := Nat.le_succ _
  have hle2 : w.heap.size ≤ w.heap.size + 1 + 1 := by omega
  have KQ0 : Hid (KQR w (((w.alloc (.cells #[.int .i64 ca, .int .i64 cb, .int .i64 cd, .int .i64 ce] 23)).alloc (.cells #[.int .i64 seq, .slice ao qn cap, .bool la, .int .i64 tok, .int .i64 at', .bool sn, .int .i64 dg] 30)).alloc (.cells #[.int .i64 0, .slice none 0 0, .bool false, .int .i64 0, .int .i64 0, .bool false, .int .i64 0] 30)) (.slice ao qn cap) ql) := Lib.hid (fun X hX => hv.later hX)
  have HS := Lib.hid hs
  have HH := Lib.hid hsh
  clear hs hsh
  obtain ⟨⟨CBc0, CBc1, CBc2, CBc3⟩, ⟨CBf0, CBf1, CBf2, CBf3⟩⟩ := blk4 CB.out
  obtain ⟨⟨LBc0, LBc1, LBc2, LBc3, LBc4, LBc5, LBc6⟩, ⟨LBf0, LBf1, LBf2, LBf3, LBf4, LBf5, LBf6⟩⟩ := blk7 LB.out
  go_enter Tryz.func24, Tryz.ntmps24
  go_wp2_with fail
  clear CBc0 CBc1 CBc2 CBc3 CBf0 CBf1 CBf2 CBf3 LBc0 LBc1 LBc2 LBc3 LBc4 LBc5 LBc6 LBf0 LBf1 LBf2 LBf3 LBf4 LBf5 LBf6
  refine (rlmay_any V.out HS.out hl la sn seq tok at' dg ca cb cd ce h1).mono ?_
  rintro e w4 ⟨rfl, b4⟩
  replace CB := Lib.hid (upQ CB.out b4)
  replace LB := Lib.hid (upQ LB.out b4)
  replace RB := Lib.hid (upQ RB.out b4)
  replace V := Lib.hid (V.out.later b4)
  replace T := Lib.hid (T.out.later b4)
  replace KQ0 := Lib.hid (KQR.later KQ0.out b4)
  replace HB := Lib.hid (below2Z HB.out b4)
  clear b4
  go_wp2_with fail
  refine (rdimay_eq T.out HH.out h2).mono ?_
  rintro e w5 ⟨rfl, b5⟩
  replace CB := Lib.hid (upQ CB.out b5)
  replace LB := Lib.hid (upQ LB.out b5)
  replace RB := Lib.hid (upQ RB.out b5)
  replace V := Lib.hid (V.out.later b5)
  replace T := Lib.hid (T.out.later b5)
  replace KQ0 := Lib.hid (KQR.later KQ0.out b5)
  replace HB := Lib.hid (below2Z HB.out b5)
  clear b5
  obtain ⟨⟨LBc0, LBc1, LBc2, LBc3, LBc4, LBc5, LBc6⟩, ⟨LBf0, LBf1, LBf2, LBf3, LBf4, LBf5, LBf6⟩⟩ := blk7 LB.out
  obtain ⟨⟨RBc0, RBc1, RBc2, RBc3, RBc4, RBc5, RBc6⟩, ⟨RBf0, RBf1, RBf2, RBf3, RBf4, RBf5, RBf6⟩⟩ := blk7 RB.out
  go_wp2_with fail
  have hz := stN7_heap RB.out (.int .i64 seq) (.slice ao qn cap) (.bool la) (.int .i64 tok) (.int .i64 at') (.bool sn) (.int .i64 dg)
  have KQz := KQ0.out.past RB.out (by decide) (fun k hk => stN7_far w5 (w.heap.size + 1 + 1) (.int .i64 seq) (.slice ao qn cap) (.bool la) (.int .i64 tok) (.int .i64 at') (.bool sn) (.int .i64 dg) hk)
  have KFz := kg_nil w (stN7 w5 (w.heap.size + 1 + 1) (.int .i64 seq) (.slice ao qn cap) (.bool la) (.int .i64 tok) (.int .i64 at') (.bool sn) (.int .i64 dg))
  have HBz := stN7_below HB.out hle2 (.int .i64 seq) (.slice ao qn cap) (.bool la) (.int .i64 tok) (.int .i64 at') (.bool sn) (.int .i64 dg)
  obtain ⟨⟨z0, z1, z2, z3, z4, z5, z6⟩, -⟩ := blk7 hz
  unfold stN7 at z0 z1 z2 z3 z4 z5 z6
  refine bodyPost_ret (v := .tuple #[.agg #[.int .i64 seq, .slice ao qn cap, .bool la, .int .i64 tok, .int .i64 at', .bool sn, .int .i64 dg], .slice none 0 0]) (by simp [results, Tryz.results24, go_sem, z0, z1, z2, z3, z4, z5, z6]) rfl ⟨_, _, [], rfl, KQz.chgs HBz, KFz, rfl, HBz⟩

set_option maxHeartbeats 6400000 in
set_option maxRecDepth 100000 in
theorem rlemit_r3 {w : World} {v vt : Value} {ql : List Chg} {view : List Row} (hv : Chgs w v ql) (ht : Tab w vt view) (hs : ShortC ql) (hl : ql.length ≤ 100) (hsh : Short view) (ca cb cd ce seq tok at' dg now : Int) (la sn : Bool) (h1 : Hid (lnMay ⟨ca, cb, cd, ce⟩ ⟨seq, ⟨ql, la⟩, ⟨tok, at'⟩, sn, dg⟩ = true)) (h2 : Hid (diMay view = true)) (h3 : Hid (pcTime now = false)) :
    Calls Tryz.prog 24 #[.agg #[.int .i64 ca, .int .i64 cb, .int .i64 cd, .int .i64 ce], .agg #[.int .i64 seq, v, .bool la, .int .i64 tok, .int .i64 at', .bool sn, .int .i64 dg], vt, .int .i64 now] w (EmittedR w ⟨seq, ⟨ql, la⟩, ⟨tok, at'⟩, sn, dg⟩ []) := by
  obtain ⟨qn, hqn⟩ : ∃ n, ql.length = n := ⟨_, rfl⟩
  obtain ⟨ao, cap, rfl⟩ := chgs_shape hv hqn
  have b0 := bl_newZ w (.cells #[.int .i64 ca, .int .i64 cb, .int .i64 cd, .int .i64 ce] 23)
  have b1 := bl_newZ (w.alloc (.cells #[.int .i64 ca, .int .i64 cb, .int .i64 cd, .int .i64 ce] 23)) (.cells #[.int .i64 seq, .slice ao qn cap, .bool la, .int .i64 tok, .int .i64 at', .bool sn, .int .i64 dg] 30)
  have b2 := bl_newZ ((w.alloc (.cells #[.int .i64 ca, .int .i64 cb, .int .i64 cd, .int .i64 ce] 23)).alloc (.cells #[.int .i64 seq, .slice ao qn cap, .bool la, .int .i64 tok, .int .i64 at', .bool sn, .int .i64 dg] 30)) (.cells #[.int .i64 0, .slice none 0 0, .bool false, .int .i64 0, .int .i64 0, .bool false, .int .i64 0] 30)
  have HB := Lib.hid (below2Z (below2Z b0 b1) b2)
  have V := Lib.hid (((hv.later b0).later b1).later b2)
  have T := Lib.hid (((ht.later b0).later b1).later b2)
  have CB := newQ w (.cells #[.int .i64 ca, .int .i64 cb, .int .i64 cd, .int .i64 ce] 23)
  replace CB := upQ CB b1
  replace CB := upQ CB b2
  replace CB := Lib.hid CB
  have LB := newQ (w.alloc (.cells #[.int .i64 ca, .int .i64 cb, .int .i64 cd, .int .i64 ce] 23)) (.cells #[.int .i64 seq, .slice ao qn cap, .bool la, .int .i64 tok, .int .i64 at', .bool sn, .int .i64 dg] 30)
  rw [World.size_alloc] at LB
  replace LB := upQ LB b2
  replace LB := Lib.hid LB
  have RB := newQ ((w.alloc (.cells #[.int .i64 ca, .int .i64 cb, .int .i64 cd, .int .i64 ce] 23)).alloc (.cells #[.int .i64 seq, .slice ao qn cap, .bool la, .int .i64 tok, .int .i64 at', .bool sn, .int .i64 dg] 30)) (.cells #[.int .i64 0, .slice none 0 0, .bool false, .int .i64 0, .int .i64 0, .bool false, .int .i64 0] 30)
  rw [World.size_alloc, World.size_alloc] at RB
  replace RB := Lib.hid RB
  clear b0 b1 b2
  have hle1 : w.heap.size ≤ w.heap.size + 1 := Nat.le_succ _
  have hle2 : w.heap.size ≤ w.heap.size + 1 + 1 := by omega
  have KQ0 : Hid (KQR w (((w.alloc (.cells #[.int .i64 ca, .int .i64 cb, .int .i64 cd, .int .i64 ce] 23)).alloc (.cells #[.int .i64 seq, .slice ao qn cap, .bool la, .int .i64 tok, .int .i64 at', .bool sn, .int .i64 dg] 30)).alloc (.cells #[.int .i64 0, .slice none 0 0, .bool false, .int .i64 0, .int .i64 0, .bool false, .int .i64 0] 30)) (.slice ao qn cap) ql) := Lib.hid (fun X hX => hv.later hX)
  have HS := Lib.hid hs
  have HH := Lib.hid hsh
  clear hs hsh
  obtain ⟨⟨CBc0, CBc1, CBc2, CBc3⟩, ⟨CBf0, CBf1, CBf2, CBf3⟩⟩ := blk4 CB.out
  obtain ⟨⟨LBc0, LBc1, LBc2, LBc3, LBc4, LBc5, LBc6⟩, ⟨LBf0, LBf1, LBf2, LBf3, LBf4, LBf5, LBf6⟩⟩ := blk7 LB.out
  go_enter Tryz.func24, Tryz.ntmps24
  go_wp2_with fail
  clear CBc0 CBc1 CBc2 CBc3 CBf0 CBf1 CBf2 CBf3 LBc0 LBc1 LBc2 LBc3 LBc4 LBc5 LBc6 LBf0 LBf1 LBf2 LBf3 LBf4 LBf5 LBf6
  refine (rlmay_any V.out HS.out hl la sn seq tok at' dg ca cb cd ce h1).mono ?_
  rintro e w4 ⟨rfl, b4⟩
  replace CB := Lib.hid (upQ CB.out b4)
  replace LB := Lib.hid (upQ LB.out b4)
  replace RB := Lib.hid (upQ RB.out b4)
  replace V := Lib.hid (V.out.later b4)
  replace T := Lib.hid (T.out.later b4)
  replace KQ0 := Lib.hid (KQR.later KQ0.out b4)
  replace HB := Lib.hid (below2Z HB.out b4)
  clear b4
  go_wp2_with fail
  refine (rdimay_eq T.out HH.out h2).mono ?_
  rintro e w5 ⟨rfl, b5⟩
  replace CB := Lib.hid (upQ CB.out b5)
  replace LB := Lib.hid (upQ LB.out b5)
  replace RB := Lib.hid (upQ RB.out b5)
  replace V := Lib.hid (V.out.later b5)
  replace T := Lib.hid (T.out.later b5)
  replace KQ0 := Lib.hid (KQR.later KQ0.out b5)
  replace HB := Lib.hid (below2Z HB.out b5)
  clear b5
  go_wp2_with fail
  refine (rptime_eqL now h3 _).mono ?_
  rintro e w6 ⟨rfl, b6⟩
  replace CB := Lib.hid (upQ CB.out b6)
  replace LB := Lib.hid (upQ LB.out b6)
  replace RB := Lib.hid (upQ RB.out b6)
  replace V := Lib.hid (V.out.later b6)
  replace T := Lib.hid (T.out.later b6)
  replace KQ0 := Lib.hid (KQR.later KQ0.out b6)
  replace HB := Lib.hid (below2Z HB.out b6)
  clear b6
  obtain ⟨⟨LBc0, LBc1, LBc2, LBc3, LBc4, LBc5, LBc6⟩, ⟨LBf0, LBf1, LBf2, LBf3, LBf4, LBf5, LBf6⟩⟩ := blk7 LB.out
  obtain ⟨⟨RBc0, RBc1, RBc2, RBc3, RBc4, RBc5, RBc6⟩, ⟨RBf0, RBf1, RBf2, RBf3, RBf4, RBf5, RBf6⟩⟩ := blk7 RB.out
  go_wp2_with fail
  have hz := stN7_heap RB.out (.int .i64 seq) (.slice ao qn cap) (.bool la) (.int .i64 tok) (.int .i64 at') (.bool sn) (.int .i64 dg)
  have KQz := KQ0.out.past RB.out (by decide) (fun k hk => stN7_far w6 (w.heap.size + 1 + 1) (.int .i64 seq) (.slice ao qn cap) (.bool la) (.int .i64 tok) (.int .i64 at') (.bool sn) (.int .i64 dg) hk)
  have KFz := kg_nil w (stN7 w6 (w.heap.size + 1 + 1) (.int .i64 seq) (.slice ao qn cap) (.bool la) (.int .i64 tok) (.int .i64 at') (.bool sn) (.int .i64 dg))
  have HBz := stN7_below HB.out hle2 (.int .i64 seq) (.slice ao qn cap) (.bool la) (.int .i64 tok) (.int .i64 at') (.bool sn) (.int .i64 dg)
  obtain ⟨⟨z0, z1, z2, z3, z4, z5, z6⟩, -⟩ := blk7 hz
  unfold stN7 at z0 z1 z2 z3 z4 z5 z6
  refine bodyPost_ret (v := .tuple #[.agg #[.int .i64 seq, .slice ao qn cap, .bool la, .int .i64 tok, .int .i64 at', .bool sn, .int .i64 dg], .slice none 0 0]) (by simp [results, Tryz.results24, go_sem, z0, z1, z2, z3, z4, z5, z6]) rfl ⟨_, _, [], rfl, KQz.chgs HBz, KFz, rfl, HBz⟩

set_option maxHeartbeats 6400000 in
set_option maxRecDepth 100000 in
theorem rlemit_in {w : World} {v vt : Value} {ql : List Chg} {view : List Row} (hv : Chgs w v ql) (ht : Tab w vt view) (hs : ShortC ql) (hl : ql.length ≤ 100) (hsh : Short view) (ca cb cd ce seq tok at' dg now : Int) (la sn : Bool) (h1 : Hid (lnMay ⟨ca, cb, cd, ce⟩ ⟨seq, ⟨ql, la⟩, ⟨tok, at'⟩, sn, dg⟩ = true)) (h2 : Hid (diMay view = true)) (h3 : Hid (pcTime now = true)) {M : Lnk} {fs : List Frm} (hr : Hid (lnRun ⟨ca, cb, cd, ce⟩ view now 65 ⟨seq, ⟨ql, la⟩, ⟨tok, at'⟩, sn, dg⟩ = (M, fs))) :
    Calls Tryz.prog 24 #[.agg #[.int .i64 ca, .int .i64 cb, .int .i64 cd, .int .i64 ce], .agg #[.int .i64 seq, v, .bool la, .int .i64 tok, .int .i64 at', .bool sn, .int .i64 dg], vt, .int .i64 now] w (EmittedR w M fs) := by
  obtain ⟨qn, hqn⟩ : ∃ n, ql.length = n := ⟨_, rfl⟩
  obtain ⟨ao, cap, rfl⟩ := chgs_shape hv hqn
  have b0 := bl_newZ w (.cells #[.int .i64 ca, .int .i64 cb, .int .i64 cd, .int .i64 ce] 23)
  have b1 := bl_newZ (w.alloc (.cells #[.int .i64 ca, .int .i64 cb, .int .i64 cd, .int .i64 ce] 23)) (.cells #[.int .i64 seq, .slice ao qn cap, .bool la, .int .i64 tok, .int .i64 at', .bool sn, .int .i64 dg] 30)
  have b2 := bl_newZ ((w.alloc (.cells #[.int .i64 ca, .int .i64 cb, .int .i64 cd, .int .i64 ce] 23)).alloc (.cells #[.int .i64 seq, .slice ao qn cap, .bool la, .int .i64 tok, .int .i64 at', .bool sn, .int .i64 dg] 30)) (.cells #[.int .i64 0, .slice none 0 0, .bool false, .int .i64 0, .int .i64 0, .bool false, .int .i64 0] 30)
  have HB := Lib.hid (below2Z (below2Z b0 b1) b2)
  have V := Lib.hid (((hv.later b0).later b1).later b2)
  have T := Lib.hid (((ht.later b0).later b1).later b2)
  have CB := newQ w (.cells #[.int .i64 ca, .int .i64 cb, .int .i64 cd, .int .i64 ce] 23)
  replace CB := upQ CB b1
  replace CB := upQ CB b2
  replace CB := Lib.hid CB
  have LB := newQ (w.alloc (.cells #[.int .i64 ca, .int .i64 cb, .int .i64 cd, .int .i64 ce] 23)) (.cells #[.int .i64 seq, .slice ao qn cap, .bool la, .int .i64 tok, .int .i64 at', .bool sn, .int .i64 dg] 30)
  rw [World.size_alloc] at LB
  replace LB := upQ LB b2
  replace LB := Lib.hid LB
  have RB := newQ ((w.alloc (.cells #[.int .i64 ca, .int .i64 cb, .int .i64 cd, .int .i64 ce] 23)).alloc (.cells #[.int .i64 seq, .slice ao qn cap, .bool la, .int .i64 tok, .int .i64 at', .bool sn, .int .i64 dg] 30)) (.cells #[.int .i64 0, .slice none 0 0, .bool false, .int .i64 0, .int .i64 0, .bool false, .int .i64 0] 30)
  rw [World.size_alloc, World.size_alloc] at RB
  replace RB := Lib.hid RB
  clear b0 b1 b2
  have hle1 : w.heap.size ≤ w.heap.size + 1 := Nat.le_succ _
  have hle2 : w.heap.size ≤ w.heap.size + 1 + 1 := by omega
  have KQ0 : Hid (KQR w (((w.alloc (.cells #[.int .i64 ca, .int .i64 cb, .int .i64 cd, .int .i64 ce] 23)).alloc (.cells #[.int .i64 seq, .slice ao qn cap, .bool la, .int .i64 tok, .int .i64 at', .bool sn, .int .i64 dg] 30)).alloc (.cells #[.int .i64 0, .slice none 0 0, .bool false, .int .i64 0, .int .i64 0, .bool false, .int .i64 0] 30)) (.slice ao qn cap) ql) := Lib.hid (fun X hX => hv.later hX)
  have HS := Lib.hid hs
  have HH := Lib.hid hsh
  obtain ⟨vn, hvn⟩ : ∃ n, view.length = n := ⟨_, rfl⟩
  have HVN := Lib.hid hvn
  obtain ⟨ta, tc, rfl⟩ := tab_shapeL ht hvn
  have HT : Hid (∀ X, Below w.heap.size w X → Tab X (.slice ta vn tc) view) := Lib.hid (fun X hX => ht.later hX)
  obtain ⟨hn0, hn1⟩ := pcTime_iff.1 h3.out
  have HE0 := Lib.hid (emp_start (view := view) (now := now) h1.out)
  clear hs hsh hv ht hvn hqn
  obtain ⟨⟨CBc0, CBc1, CBc2, CBc3⟩, ⟨CBf0, CBf1, CBf2, CBf3⟩⟩ := blk4 CB.out
  obtain ⟨⟨LBc0, LBc1, LBc2, LBc3, LBc4, LBc5, LBc6⟩, ⟨LBf0, LBf1, LBf2, LBf3, LBf4, LBf5, LBf6⟩⟩ := blk7 LB.out
  go_enter Tryz.func24, Tryz.ntmps24
  go_wp2_with fail
  clear CBc0 CBc1 CBc2 CBc3 CBf0 CBf1 CBf2 CBf3 LBc0 LBc1 LBc2 LBc3 LBc4 LBc5 LBc6 LBf0 LBf1 LBf2 LBf3 LBf4 LBf5 LBf6
  refine (rlmay_any V.out HS.out hl la sn seq tok at' dg ca cb cd ce h1).mono ?_
  rintro e w4 ⟨rfl, b4⟩
  replace CB := Lib.hid (upQ CB.out b4)
  replace LB := Lib.hid (upQ LB.out b4)
  replace RB := Lib.hid (upQ RB.out b4)
  replace V := Lib.hid (V.out.later b4)
  replace T := Lib.hid (T.out.later b4)
  replace KQ0 := Lib.hid (KQR.later KQ0.out b4)
  replace HB := Lib.hid (below2Z HB.out b4)
  clear b4
  go_wp2_with fail
  refine (rdimay_eq T.out HH.out h2).mono ?_
  rintro e w5 ⟨rfl, b5⟩
  replace CB := Lib.hid (upQ CB.out b5)
  replace LB := Lib.hid (upQ LB.out b5)
  replace RB := Lib.hid (upQ RB.out b5)
  replace V := Lib.hid (V.out.later b5)
  replace T := Lib.hid (T.out.later b5)
  replace KQ0 := Lib.hid (KQR.later KQ0.out b5)
  replace HB := Lib.hid (below2Z HB.out b5)
  clear b5
  go_wp2_with fail
  refine (rptime_eqL now h3 _).mono ?_
  rintro e w6 ⟨rfl, b6⟩
  replace CB := Lib.hid (upQ CB.out b6)
  replace LB := Lib.hid (upQ LB.out b6)
  replace RB := Lib.hid (upQ RB.out b6)
  replace V := Lib.hid (V.out.later b6)
  replace T := Lib.hid (T.out.later b6)
  replace KQ0 := Lib.hid (KQR.later KQ0.out b6)
  replace HB := Lib.hid (below2Z HB.out b6)
  clear b6
  go_wp2_with fail
  clear V
  clear T
  clear HS hl
  have KF0 := Lib.hid (kg_nil w w6)
  obtain ⟨L0, hL0⟩ : ∃ L : Lnk, L = ⟨seq, ⟨ql, la⟩, ⟨tok, at'⟩, sn, dg⟩ := ⟨_, rfl⟩
  have HR : Hid (lnRun ⟨ca, cb, cd, ce⟩ view now 65 L0 = (M, fs)) := Lib.hid (by rw [hL0]; exact hr.out)
  have HE : Hid (EmP ⟨ca, cb, cd, ce⟩ view now L0 ⟨seq, ⟨ql, la⟩, ⟨tok, at'⟩, sn, dg⟩ 65 []) := Lib.hid (by rw [hL0]; exact HE0.out)
  clear hL0 hr HE0 h1
  go_loopw [10] (fun fr wr => ∃ (seq tok at' dg : Int) (sn la : Bool) (ql : List Chg) (qa : Option Addr) (qn qc : Nat) (ps : List FrS) (fa : Option Addr) (fc n : Nat), fr = .slice fa ps.length fc ∧ Hid (EmP ⟨ca, cb, cd, ce⟩ view now L0 ⟨seq, ⟨ql, la⟩, ⟨tok, at'⟩, sn, dg⟩ n (ps.map FrS.f)) ∧ Hid (wr.heap[w.heap.size]? = some (.cells #[.int .i64 ca, .int .i64 cb, .int .i64 cd, .int .i64 ce] 23 (0, 0))) ∧ Hid (wr.heap[w.heap.size + 1]? = some (.cells #[.int .i64 seq, .slice qa qn qc, .bool la, .int .i64 tok, .int .i64 at', .bool sn, .int .i64 dg] 30 (0, 0))) ∧ Hid (wr.heap[w.heap.size + 1 + 1]? = some (.cells #[.int .i64 0, .slice none 0 0, .bool false, .int .i64 0, .int .i64 0, .bool false, .int .i64 0] 30 (0, 0))) ∧ Hid (KQR w wr (.slice qa qn qc) ql) ∧ Hid (KG w wr fr ps) ∧ Hid (Below w.heap.size w wr)) (fun fr _ => 70 - slLen fr)
  case atStart => exact ⟨seq, tok, at', dg, sn, la, ql, ao, qn, cap, [], none, 0, 65, rfl, HE, CB, LB, RB, KQ0, KF0, HB⟩
  case round =>
    clear CB LB RB KQ0 KF0 HB HE
    obtain ⟨seq, tok, at', dg, sn, la, ql, qa, qn, qc, ps, fa, fc, n, rfl, HE, CB, LB, RB, KQ0, KF0, HB⟩ := hrel
    obtain ⟨hsc, hql, hs0, hs1, hd0, hd1⟩ := lnMay_short HE.out.1
    have hmy := lnMay_iff.1 HE.out.1
    simp only at hsc hql hs0 hs1 hd0 hd1 hmy
    replace hsc := Lib.hid hsc
    have HMY := Lib.hid (show la = false ∧ (sn = true → ql = []) from ⟨hmy.2.2.2.2.1, hmy.2.2.2.2.2.2⟩)
    clear hmy
    have hle3 : w.heap.size ≤ w.heap.size + 1 := Nat.le_succ _
    have hwr := HB.out.size
    have HBr := Lib.hid (Below.refl wr.heap.size wr)
    have KFr := KF0
    obtain ⟨qn2, hqn2⟩ : ∃ n, ql.length = n := ⟨_, rfl⟩
    obtain ⟨xa0, xc0, hqe⟩ := chgs_shape (KQ0.out.chgs HB.out) hqn2
    have hqe2 : qn = qn2 := by cases hqe; rfl
    subst hqe2
    have HQN := Lib.hid hqn2
    clear hqe hqn2 xa0 xc0
    by_cases hsq : seq < 1099511627776
    case neg =>
      have t1 : decide (seq < 1099511627776) = false := by simp; omega
      obtain ⟨⟨LBc0, LBc1, LBc2, LBc3, LBc4, LBc5, LBc6⟩, ⟨LBf0, LBf1, LBf2, LBf3, LBf4, LBf5, LBf6⟩⟩ := blk7 LB.out
      obtain ⟨⟨RBc0, RBc1, RBc2, RBc3, RBc4, RBc5, RBc6⟩, ⟨RBf0, RBf1, RBf2, RBf3, RBf4, RBf5, RBf6⟩⟩ := blk7 RB.out
      go_upto_region 28 with fail
      clear LBc0 LBc1 LBc2 LBc3 LBc4 LBc5 LBc6 LBf0 LBf1 LBf2 LBf3 LBf4 LBf5 LBf6 RBc0 RBc1 RBc2 RBc3 RBc4 RBc5 RBc6 RBf0 RBf1 RBf2 RBf3 RBf4 RBf5 RBf6 t1
      have hend := emp_end HE.out (stp_seq (by show _ ≤ seq; omega))
      rw [HR.out] at hend
      simp only [Prod.mk.injEq] at hend
      obtain ⟨rfl, rfl⟩ := hend
      clear HE HR
      obtain ⟨⟨LBc0, LBc1, LBc2, LBc3, LBc4, LBc5, LBc6⟩, ⟨LBf0, LBf1, LBf2, LBf3, LBf4, LBf5, LBf6⟩⟩ := blk7 LB.out
      obtain ⟨⟨RBc0, RBc1, RBc2, RBc3, RBc4, RBc5, RBc6⟩, ⟨RBf0, RBf1, RBf2, RBf3, RBf4, RBf5, RBf6⟩⟩ := blk7 RB.out
      go_wp2_with fail
      have hz := stN7_heap RB.out (.int .i64 seq) (.slice qa qn qc) (.bool la) (.int .i64 tok) (.int .i64 at') (.bool sn) (.int .i64 dg)
      have KQz := KQ0.out.past RB.out (by decide) (fun k hk => stN7_far wr (w.heap.size + 1 + 1) (.int .i64 seq) (.slice qa qn qc) (.bool la) (.int .i64 tok) (.int .i64 at') (.bool sn) (.int .i64 dg) hk)
      have KFz := KF0.out.past RB.out (by decide) (fun k hk => stN7_far wr (w.heap.size + 1 + 1) (.int .i64 seq) (.slice qa qn qc) (.bool la) (.int .i64 tok) (.int .i64 at') (.bool sn) (.int .i64 dg) hk)
      have HBz := stN7_below HB.out hle2 (.int .i64 seq) (.slice qa qn qc) (.bool la) (.int .i64 tok) (.int .i64 at') (.bool sn) (.int .i64 dg)
      obtain ⟨⟨z0, z1, z2, z3, z4, z5, z6⟩, -⟩ := blk7 hz
      unfold stN7 at z0 z1 z2 z3 z4 z5 z6
      refine bodyPost_ret (v := .tuple #[.agg #[.int .i64 seq, .slice qa qn qc, .bool la, .int .i64 tok, .int .i64 at', .bool sn, .int .i64 dg], .slice fa ps.length fc]) (by simp [results, Tryz.results24, go_sem, z0, z1, z2, z3, z4, z5, z6]) rfl ⟨_, _, ps, rfl, KQz.chgs HBz, KFz, rfl, HBz⟩
    have t1 : decide (seq < 1099511627776) = true := by simp; omega
    have hw1 : IntKind.i64.wrap (seq + 1) = seq + 1 := IntWalk.i64_in _ (by omega)
    obtain ⟨⟨⟨bx, bt⟩, is⟩, hp⟩ : ∃ p, pcTake ⟨ca, cb, cd, ce⟩ ⟨tok, at'⟩ now = p := ⟨_, rfl⟩
    have HP := Lib.hid hp
    clear hp
    cases sn with
    | true =>
      obtain ⟨rfl, hqq⟩ := HMY.out
      obtain rfl := hqq rfl
      clear hqq HMY
      obtain ⟨⟨CBc0, CBc1, CBc2, CBc3⟩, ⟨CBf0, CBf1, CBf2, CBf3⟩⟩ := blk4 CB.out
      obtain ⟨⟨LBc0, LBc1, LBc2, LBc3, LBc4, LBc5, LBc6⟩, ⟨LBf0, LBf1, LBf2, LBf3, LBf4, LBf5, LBf6⟩⟩ := blk7 LB.out
      go_wp2_with fail
      clear CBc0 CBc1 CBc2 CBc3 CBf0 CBf1 CBf2 CBf3 LBc0 LBc1 LBc2 LBc3 LBc4 LBc5 LBc6 LBf0 LBf1 LBf2 LBf3 LBf4 LBf5 LBf6 t1
      refine (rptake_any ca cb cd ce tok at' now HP _).mono ?_
      rintro e w101 ⟨rfl, b101⟩
      replace CB := Lib.hid (upQ CB.out b101)
      replace LB := Lib.hid (upQ LB.out b101)
      replace RB := Lib.hid (upQ RB.out b101)
      replace KQ0 := Lib.hid (KQR.later KQ0.out b101)
      replace KF0 := Lib.hid (KG.later KF0.out b101)
      replace HB := Lib.hid (below2Z HB.out b101)
      clear b101
      cases is with
      | false =>
        have b152 := bl_newZ w101 (.cells #[.int .i64 bx, .int .i64 bt] 28)
        have XB := newQ w101 (.cells #[.int .i64 bx, .int .i64 bt] 28)
        have hXB : w.heap.size ≤ w101.heap.size := HB.out.size
        replace CB := Lib.hid (upQ CB.out b152)
        replace LB := Lib.hid (upQ LB.out b152)
        replace RB := Lib.hid (upQ RB.out b152)
        replace KQ0 := Lib.hid (KQR.later KQ0.out b152)
        replace KF0 := Lib.hid (KG.later KF0.out b152)
        replace HB := Lib.hid (below2Z HB.out b152)
        clear b152
        replace XB := Lib.hid XB
        go_upto_region 28 with fail
        generalize w101.alloc (.cells #[.int .i64 bx, .int .i64 bt] 28) = w153 at CB LB RB XB KQ0 KF0 HB ⊢
        have hend := emp_end HE.out (stp_tok HP.out)
        rw [HR.out] at hend
        simp only [Prod.mk.injEq] at hend
        obtain ⟨rfl, rfl⟩ := hend
        clear HE HR
        obtain ⟨⟨LBc0, LBc1, LBc2, LBc3, LBc4, LBc5, LBc6⟩, ⟨LBf0, LBf1, LBf2, LBf3, LBf4, LBf5, LBf6⟩⟩ := blk7 LB.out
        obtain ⟨⟨RBc0, RBc1, RBc2, RBc3, RBc4, RBc5, RBc6⟩, ⟨RBf0, RBf1, RBf2, RBf3, RBf4, RBf5, RBf6⟩⟩ := blk7 RB.out
        go_wp2_with fail
        have hz := stN7_heap RB.out (.int .i64 seq) (.slice qa qn qc) (.bool false) (.int .i64 tok) (.int .i64 at') (.bool true) (.int .i64 dg)
        have KQz := KQ0.out.past RB.out (by decide) (fun k hk => stN7_far w153 (w.heap.size + 1 + 1) (.int .i64 seq) (.slice qa qn qc) (.bool false) (.int .i64 tok) (.int .i64 at') (.bool true) (.int .i64 dg) hk)
        have KFz := KF0.out.past RB.out (by decide) (fun k hk => stN7_far w153 (w.heap.size + 1 + 1) (.int .i64 seq) (.slice qa qn qc) (.bool false) (.int .i64 tok) (.int .i64 at') (.bool true) (.int .i64 dg) hk)
        have HBz := stN7_below HB.out hle2 (.int .i64 seq) (.slice qa qn qc) (.bool false) (.int .i64 tok) (.int .i64 at') (.bool true) (.int .i64 dg)
        obtain ⟨⟨z0, z1, z2, z3, z4, z5, z6⟩, -⟩ := blk7 hz
        unfold stN7 at z0 z1 z2 z3 z4 z5 z6
        refine bodyPost_ret (v := .tuple #[.agg #[.int .i64 seq, .slice qa qn qc, .bool false, .int .i64 tok, .int .i64 at', .bool true, .int .i64 dg], .slice fa ps.length fc]) (by simp [results, Tryz.results24, go_sem, z0, z1, z2, z3, z4, z5, z6]) rfl ⟨_, _, ps, rfl, KQz.chgs HBz, KFz, rfl, HBz⟩
      | true =>
        obtain ⟨he2, hpl⟩ := emp_step HE.out h2.out h3.out (stp_s hsq HP.out)
        rw [List.length_map] at hpl
        have HE2 := Lib.hid he2
        clear he2 HE HP HBr KFr
        have b102 := bl_newZ w101 (.cells #[.int .i64 bx, .int .i64 bt] 28)
        have XB := newQ w101 (.cells #[.int .i64 bx, .int .i64 bt] 28)
        have hXB : w.heap.size ≤ w101.heap.size := HB.out.size
        replace CB := Lib.hid (upQ CB.out b102)
        replace LB := Lib.hid (upQ LB.out b102)
        replace RB := Lib.hid (upQ RB.out b102)
        replace KQ0 := Lib.hid (KQR.later KQ0.out b102)
        replace KF0 := Lib.hid (KG.later KF0.out b102)
        replace HB := Lib.hid (below2Z HB.out b102)
        clear b102
        replace XB := Lib.hid XB
        go_upto_region 9 with fail
        generalize w101.alloc (.cells #[.int .i64 bx, .int .i64 bt] 28) = w103 at CB LB RB XB KQ0 KF0 HB ⊢
        have hlb := (Array.getElem?_eq_some_iff.1 LB.out).1
        have hrb := (Array.getElem?_eq_some_iff.1 RB.out).1
        obtain ⟨⟨XBc0, XBc1⟩, ⟨XBf0, XBf1⟩⟩ := blk2 XB.out
        obtain ⟨⟨LBc0, LBc1, LBc2, LBc3, LBc4, LBc5, LBc6⟩, ⟨LBf0, LBf1, LBf2, LBf3, LBf4, LBf5, LBf6⟩⟩ := blk7 LB.out
        go_upto_region 10 with fail
        clear XBc0 XBc1 XBf0 XBf1 LBc0 LBc1 LBc2 LBc3 LBc4 LBc5 LBc6 LBf0 LBf1 LBf2 LBf3 LBf4 LBf5 LBf6 hlb hrb
        have hfar0 : ∀ k, ¬ k = w.heap.size + 1 → ((w103.setCell ⟨w.heap.size + 1, 3, none⟩ (.int .i64 bx)).setCell ⟨w.heap.size + 1, 4, none⟩ (.int .i64 bt)).heap[k]? = w103.heap[k]? := fun k hk => by rw [Below.heap_setCell _ _ _ k hk, Below.heap_setCell _ _ _ k hk]
        have CBz : Hid (((w103.setCell ⟨w.heap.size + 1, 3, none⟩ (.int .i64 bx)).setCell ⟨w.heap.size + 1, 4, none⟩ (.int .i64 bt)).heap[w.heap.size]? = some (.cells #[.int .i64 ca, .int .i64 cb, .int .i64 cd, .int .i64 ce] 23 (0, 0))) := Lib.hid ((hfar0 (w.heap.size) (blk_ne CB.out LB.out (by decide))).trans CB.out)
        have LBz : Hid (((w103.setCell ⟨w.heap.size + 1, 3, none⟩ (.int .i64 bx)).setCell ⟨w.heap.size + 1, 4, none⟩ (.int .i64 bt)).heap[w.heap.size + 1]? = some (.cells #[.int .i64 seq, .slice qa qn qc, .bool false, .int .i64 bx, .int .i64 bt, .bool true, .int .i64 dg] 30 (0, 0))) := Lib.hid (heap_setCell_same _ (w.heap.size + 1) 4 _ _ (.int .i64 bt) (heap_setCell_same _ (w.heap.size + 1) 3 _ _ (.int .i64 bx) LB.out))
        have RBz : Hid (((w103.setCell ⟨w.heap.size + 1, 3, none⟩ (.int .i64 bx)).setCell ⟨w.heap.size + 1, 4, none⟩ (.int .i64 bt)).heap[w.heap.size + 1 + 1]? = some (.cells #[.int .i64 0, .slice none 0 0, .bool false, .int .i64 0, .int .i64 0, .bool false, .int .i64 0] 30 (0, 0))) := Lib.hid ((hfar0 (w.heap.size + 1 + 1) (by omega)).trans RB.out)
        have XBz : Hid (((w103.setCell ⟨w.heap.size + 1, 3, none⟩ (.int .i64 bx)).setCell ⟨w.heap.size + 1, 4, none⟩ (.int .i64 bt)).heap[w101.heap.size]? = some (.cells #[.int .i64 bx, .int .i64 bt] 28 (0, 0))) := Lib.hid ((hfar0 (w101.heap.size) (blk_ne XB.out LB.out (by decide))).trans XB.out)
        have KQ0z : Hid (KQR w ((w103.setCell ⟨w.heap.size + 1, 3, none⟩ (.int .i64 bx)).setCell ⟨w.heap.size + 1, 4, none⟩ (.int .i64 bt)) (.slice qa qn qc) []) := Lib.hid (KQ0.out.past LB.out (by decide) hfar0)
        have KF0z : Hid (KG w ((w103.setCell ⟨w.heap.size + 1, 3, none⟩ (.int .i64 bx)).setCell ⟨w.heap.size + 1, 4, none⟩ (.int .i64 bt)) (.slice fa ps.length fc) ps) := Lib.hid (KF0.out.past LB.out (by decide) hfar0)
        have HBz : Hid (Below w.heap.size w ((w103.setCell ⟨w.heap.size + 1, 3, none⟩ (.int .i64 bx)).setCell ⟨w.heap.size + 1, 4, none⟩ (.int .i64 bt))) := Lib.hid ((HB.out.setCell hle1 _).setCell hle1 _)
        clear CB LB RB XB KQ0 KF0 HB hfar0
        generalize (w103.setCell ⟨w.heap.size + 1, 3, none⟩ (.int .i64 bx)).setCell ⟨w.heap.size + 1, 4, none⟩ (.int .i64 bt) = w104 at CBz LBz RBz XBz KQ0z KF0z HBz ⊢
        have CB := CBz
        have LB := LBz
        have RB := RBz
        have XB := XBz
        have KQ0 := KQ0z
        have KF0 := KF0z
        have HB := HBz
        clear CBz LBz RBz XBz KQ0z KF0z HBz
        clear XB
        have HBr := Lib.hid (Below.refl w104.heap.size w104)
        have KFr := KF0
        have hxfr := HBr.out.size
        have hlb := (Array.getElem?_eq_some_iff.1 LB.out).1
        have hrb := (Array.getElem?_eq_some_iff.1 RB.out).1
        obtain ⟨⟨LBc0, LBc1, LBc2, LBc3, LBc4, LBc5, LBc6⟩, ⟨LBf0, LBf1, LBf2, LBf3, LBf4, LBf5, LBf6⟩⟩ := blk7 LB.out
        have b105 := bl_newZ w104 (.cells #[.int .i64 0, .int .i64 seq, .bool false, .string ⟨#[]⟩, .int .i64 0, .int .i64 0, .int .i64 0, .string ⟨#[]⟩, .int .u64 0, .slice none 0 0] 60)
        have XF := newQ w104 (.cells #[.int .i64 0, .int .i64 seq, .bool false, .string ⟨#[]⟩, .int .i64 0, .int .i64 0, .int .i64 0, .string ⟨#[]⟩, .int .u64 0, .slice none 0 0] 60)
        have hXF : w.heap.size ≤ w104.heap.size := HB.out.size
        replace CB := Lib.hid (upQ CB.out b105)
        replace LB := Lib.hid (upQ LB.out b105)
        replace RB := Lib.hid (upQ RB.out b105)
        replace KQ0 := Lib.hid (KQR.later KQ0.out b105)
        replace HBr := Lib.hid (below2Z HBr.out b105)
        replace KF0 := Lib.hid (KG.later KF0.out b105)
        replace HB := Lib.hid (below2Z HB.out b105)
        clear b105
        replace XF := Lib.hid XF
        go_upto_region 11 with fail
        clear LBc0 LBc1 LBc2 LBc3 LBc4 LBc5 LBc6 LBf0 LBf1 LBf2 LBf3 LBf4 LBf5 LBf6
        generalize w104.alloc (.cells #[.int .i64 0, .int .i64 seq, .bool false, .string ⟨#[]⟩, .int .i64 0, .int .i64 0, .int .i64 0, .string ⟨#[]⟩, .int .u64 0, .slice none 0 0] 60) = w106 at CB LB RB XF KQ0 HBr KF0 HB ⊢
        obtain ⟨⟨LBc0, LBc1, LBc2, LBc3, LBc4, LBc5, LBc6⟩, ⟨LBf0, LBf1, LBf2, LBf3, LBf4, LBf5, LBf6⟩⟩ := blk7 LB.out
        obtain ⟨⟨XFc0, XFc1, XFc2, XFc3, XFc4, XFc5, XFc6, XFc7, XFc8, XFc9⟩, ⟨XFf0, XFf1, XFf2, XFf3, XFf4, XFf5, XFf6, XFf7, XFf8, XFf9⟩⟩ := blk10 XF.out
        go_upto_region 13 with fail
        clear LBc0 LBc1 LBc2 LBc3 LBc4 LBc5 LBc6 LBf0 LBf1 LBf2 LBf3 LBf4 LBf5 LBf6 XFc0 XFc1 XFc2 XFc3 XFc4 XFc5 XFc6 XFc7 XFc8 XFc9 XFf0 XFf1 XFf2 XFf3 XFf4 XFf5 XFf6 XFf7 XFf8 XFf9
        have hfar0 : ∀ k, ¬ k = w104.heap.size → (w106.setCell ⟨w104.heap.size, 0, none⟩ (.int .i64 3)).heap[k]? = w106.heap[k]? := fun k hk => by rw [Below.heap_setCell _ _ _ k hk]
        have CBz : Hid ((w106.setCell ⟨w104.heap.size, 0, none⟩ (.int .i64 3)).heap[w.heap.size]? = some (.cells #[.int .i64 ca, .int .i64 cb, .int .i64 cd, .int .i64 ce] 23 (0, 0))) := Lib.hid ((hfar0 (w.heap.size) (blk_ne CB.out XF.out (by decide))).trans CB.out)
        have LBz : Hid ((w106.setCell ⟨w104.heap.size, 0, none⟩ (.int .i64 3)).heap[w.heap.size + 1]? = some (.cells #[.int .i64 seq, .slice qa qn qc, .bool false, .int .i64 bx, .int .i64 bt, .bool true, .int .i64 dg] 30 (0, 0))) := Lib.hid ((hfar0 (w.heap.size + 1) (blk_ne LB.out XF.out (by decide))).trans LB.out)
        have RBz : Hid ((w106.setCell ⟨w104.heap.size, 0, none⟩ (.int .i64 3)).heap[w.heap.size + 1 + 1]? = some (.cells #[.int .i64 0, .slice none 0 0, .bool false, .int .i64 0, .int .i64 0, .bool false, .int .i64 0] 30 (0, 0))) := Lib.hid ((hfar0 (w.heap.size + 1 + 1) (blk_ne RB.out XF.out (by decide))).trans RB.out)
        have XFz : Hid ((w106.setCell ⟨w104.heap.size, 0, none⟩ (.int .i64 3)).heap[w104.heap.size]? = some (.cells #[.int .i64 3, .int .i64 seq, .bool false, .string ⟨#[]⟩, .int .i64 0, .int .i64 0, .int .i64 0, .string ⟨#[]⟩, .int .u64 0, .slice none 0 0] 60 (0, 0))) := Lib.hid (heap_setCell_same _ (w104.heap.size) 0 _ _ (.int .i64 3) XF.out)
        have KQ0z : Hid (KQR w (w106.setCell ⟨w104.heap.size, 0, none⟩ (.int .i64 3)) (.slice qa qn qc) []) := Lib.hid (KQ0.out.past XF.out (by decide) hfar0)
        have HBrz : Hid (Below w104.heap.size w104 (w106.setCell ⟨w104.heap.size, 0, none⟩ (.int .i64 3))) := Lib.hid (HBr.out.setCell hxfr _)
        have KF0z : Hid (KG w (w106.setCell ⟨w104.heap.size, 0, none⟩ (.int .i64 3)) (.slice fa ps.length fc) ps) := Lib.hid (KFr.out.later HBrz.out)
        have HBz : Hid (Below w.heap.size w (w106.setCell ⟨w104.heap.size, 0, none⟩ (.int .i64 3))) := Lib.hid (HB.out.setCell hXF _)
        clear CB LB RB XF KQ0 HBr KF0 HB hfar0
        generalize w106.setCell ⟨w104.heap.size, 0, none⟩ (.int .i64 3) = w107 at CBz LBz RBz XFz KQ0z HBrz KF0z HBz ⊢
        have CB := CBz
        have LB := LBz
        have RB := RBz
        have XF := XFz
        have KQ0 := KQ0z
        have HBr := HBrz
        have KF0 := KF0z
        have HB := HBz
        clear CBz LBz RBz XFz KQ0z HBrz KF0z HBz
        obtain ⟨⟨XFc0, XFc1, XFc2, XFc3, XFc4, XFc5, XFc6, XFc7, XFc8, XFc9⟩, ⟨XFf0, XFf1, XFf2, XFf3, XFf4, XFf5, XFf6, XFf7, XFf8, XFf9⟩⟩ := blk10 XF.out
        go_upto_region 14 with fail
        clear XFc0 XFc1 XFc2 XFc3 XFc4 XFc5 XFc6 XFc7 XFc8 XFc9 XFf0 XFf1 XFf2 XFf3 XFf4 XFf5 XFf6 XFf7 XFf8 XFf9
        have hfar0 : ∀ k, ¬ k = w104.heap.size → (w107.setCell ⟨w104.heap.size, 9, none⟩ (.slice ta vn tc)).heap[k]? = w107.heap[k]? := fun k hk => by rw [Below.heap_setCell _ _ _ k hk]
        have CBz : Hid ((w107.setCell ⟨w104.heap.size, 9, none⟩ (.slice ta vn tc)).heap[w.heap.size]? = some (.cells #[.int .i64 ca, .int .i64 cb, .int .i64 cd, .int .i64 ce] 23 (0, 0))) := Lib.hid ((hfar0 (w.heap.size) (blk_ne CB.out XF.out (by decide))).trans CB.out)
        have LBz : Hid ((w107.setCell ⟨w104.heap.size, 9, none⟩ (.slice ta vn tc)).heap[w.heap.size + 1]? = some (.cells #[.int .i64 seq, .slice qa qn qc, .bool false, .int .i64 bx, .int .i64 bt, .bool true, .int .i64 dg] 30 (0, 0))) := Lib.hid ((hfar0 (w.heap.size + 1) (blk_ne LB.out XF.out (by decide))).trans LB.out)
        have RBz : Hid ((w107.setCell ⟨w104.heap.size, 9, none⟩ (.slice ta vn tc)).heap[w.heap.size + 1 + 1]? = some (.cells #[.int .i64 0, .slice none 0 0, .bool false, .int .i64 0, .int .i64 0, .bool false, .int .i64 0] 30 (0, 0))) := Lib.hid ((hfar0 (w.heap.size + 1 + 1) (blk_ne RB.out XF.out (by decide))).trans RB.out)
        have XFz : Hid ((w107.setCell ⟨w104.heap.size, 9, none⟩ (.slice ta vn tc)).heap[w104.heap.size]? = some (.cells #[.int .i64 3, .int .i64 seq, .bool false, .string ⟨#[]⟩, .int .i64 0, .int .i64 0, .int .i64 0, .string ⟨#[]⟩, .int .u64 0, .slice ta vn tc] 60 (0, 0))) := Lib.hid (heap_setCell_same _ (w104.heap.size) 9 _ _ (.slice ta vn tc) XF.out)
        have KQ0z : Hid (KQR w (w107.setCell ⟨w104.heap.size, 9, none⟩ (.slice ta vn tc)) (.slice qa qn qc) []) := Lib.hid (KQ0.out.past XF.out (by decide) hfar0)
        have HBrz : Hid (Below w104.heap.size w104 (w107.setCell ⟨w104.heap.size, 9, none⟩ (.slice ta vn tc))) := Lib.hid (HBr.out.setCell hxfr _)
        have KF0z : Hid (KG w (w107.setCell ⟨w104.heap.size, 9, none⟩ (.slice ta vn tc)) (.slice fa ps.length fc) ps) := Lib.hid (KFr.out.later HBrz.out)
        have HBz : Hid (Below w.heap.size w (w107.setCell ⟨w104.heap.size, 9, none⟩ (.slice ta vn tc))) := Lib.hid (HB.out.setCell hXF _)
        clear CB LB RB XF KQ0 HBr KF0 HB hfar0
        generalize w107.setCell ⟨w104.heap.size, 9, none⟩ (.slice ta vn tc) = w108 at CBz LBz RBz XFz KQ0z HBrz KF0z HBz ⊢
        have CB := CBz
        have LB := LBz
        have RB := RBz
        have XF := XFz
        have KQ0 := KQ0z
        have HBr := HBrz
        have KF0 := KF0z
        have HB := HBz
        clear CBz LBz RBz XFz KQ0z HBrz KF0z HBz
        obtain ⟨⟨LBc0, LBc1, LBc2, LBc3, LBc4, LBc5, LBc6⟩, ⟨LBf0, LBf1, LBf2, LBf3, LBf4, LBf5, LBf6⟩⟩ := blk7 LB.out
        go_upto_region 15 with fail
        clear LBc0 LBc1 LBc2 LBc3 LBc4 LBc5 LBc6 LBf0 LBf1 LBf2 LBf3 LBf4 LBf5 LBf6
        have hfar0 : ∀ k, ¬ k = w.heap.size + 1 → (w108.setCell ⟨w.heap.size + 1, 5, none⟩ (.bool false)).heap[k]? = w108.heap[k]? := fun k hk => by rw [Below.heap_setCell _ _ _ k hk]
        have CBz : Hid ((w108.setCell ⟨w.heap.size + 1, 5, none⟩ (.bool false)).heap[w.heap.size]? = some (.cells #[.int .i64 ca, .int .i64 cb, .int .i64 cd, .int .i64 ce] 23 (0, 0))) := Lib.hid ((hfar0 (w.heap.size) (blk_ne CB.out LB.out (by decide))).trans CB.out)
        have LBz : Hid ((w108.setCell ⟨w.heap.size + 1, 5, none⟩ (.bool false)).heap[w.heap.size + 1]? = some (.cells #[.int .i64 seq, .slice qa qn qc, .bool false, .int .i64 bx, .int .i64 bt, .bool false, .int .i64 dg] 30 (0, 0))) := Lib.hid (heap_setCell_same _ (w.heap.size + 1) 5 _ _ (.bool false) LB.out)
        have RBz : Hid ((w108.setCell ⟨w.heap.size + 1, 5, none⟩ (.bool false)).heap[w.heap.size + 1 + 1]? = some (.cells #[.int .i64 0, .slice none 0 0, .bool false, .int .i64 0, .int .i64 0, .bool false, .int .i64 0] 30 (0, 0))) := Lib.hid ((hfar0 (w.heap.size + 1 + 1) (by omega)).trans RB.out)
        have XFz : Hid ((w108.setCell ⟨w.heap.size + 1, 5, none⟩ (.bool false)).heap[w104.heap.size]? = some (.cells #[.int .i64 3, .int .i64 seq, .bool false, .string ⟨#[]⟩, .int .i64 0, .int .i64 0, .int .i64 0, .string ⟨#[]⟩, .int .u64 0, .slice ta vn tc] 60 (0, 0))) := Lib.hid ((hfar0 (w104.heap.size) (blk_ne XF.out LB.out (by decide))).trans XF.out)
        have KQ0z : Hid (KQR w (w108.setCell ⟨w.heap.size + 1, 5, none⟩ (.bool false)) (.slice qa qn qc) []) := Lib.hid (KQ0.out.past LB.out (by decide) hfar0)
        skip
        have KF0z : Hid (KG w (w108.setCell ⟨w.heap.size + 1, 5, none⟩ (.bool false)) (.slice fa ps.length fc) ps) := Lib.hid (KF0.out.past LB.out (by decide) hfar0)
        have HBz : Hid (Below w.heap.size w (w108.setCell ⟨w.heap.size + 1, 5, none⟩ (.bool false))) := Lib.hid (HB.out.setCell hle1 _)
        clear CB LB RB XF KQ0 KF0 HB hfar0
        generalize w108.setCell ⟨w.heap.size + 1, 5, none⟩ (.bool false) = w109 at CBz LBz RBz XFz KQ0z KF0z HBz ⊢
        have CB := CBz
        have LB := LBz
        have RB := RBz
        have XF := XFz
        have KQ0 := KQ0z
        have KF0 := KF0z
        have HB := HBz
        clear CBz LBz RBz XFz KQ0z KF0z HBz
        obtain ⟨⟨LBc0, LBc1, LBc2, LBc3, LBc4, LBc5, LBc6⟩, ⟨LBf0, LBf1, LBf2, LBf3, LBf4, LBf5, LBf6⟩⟩ := blk7 LB.out
        go_upto_region 26 with fail
        clear LBc0 LBc1 LBc2 LBc3 LBc4 LBc5 LBc6 LBf0 LBf1 LBf2 LBf3 LBf4 LBf5 LBf6
        have hfar0 : ∀ k, ¬ k = w.heap.size + 1 → (w109.setCell ⟨w.heap.size + 1, 6, none⟩ (.int .i64 now)).heap[k]? = w109.heap[k]? := fun k hk => by rw [Below.heap_setCell _ _ _ k hk]
        have CBz : Hid ((w109.setCell ⟨w.heap.size + 1, 6, none⟩ (.int .i64 now)).heap[w.heap.size]? = some (.cells #[.int .i64 ca, .int .i64 cb, .int .i64 cd, .int .i64 ce] 23 (0, 0))) := Lib.hid ((hfar0 (w.heap.size) (blk_ne CB.out LB.out (by decide))).trans CB.out)
        have LBz : Hid ((w109.setCell ⟨w.heap.size + 1, 6, none⟩ (.int .i64 now)).heap[w.heap.size + 1]? = some (.cells #[.int .i64 seq, .slice qa qn qc, .bool false, .int .i64 bx, .int .i64 bt, .bool false, .int .i64 now] 30 (0, 0))) := Lib.hid (heap_setCell_same _ (w.heap.size + 1) 6 _ _ (.int .i64 now) LB.out)
        have RBz : Hid ((w109.setCell ⟨w.heap.size + 1, 6, none⟩ (.int .i64 now)).heap[w.heap.size + 1 + 1]? = some (.cells #[.int .i64 0, .slice none 0 0, .bool false, .int .i64 0, .int .i64 0, .bool false, .int .i64 0] 30 (0, 0))) := Lib.hid ((hfar0 (w.heap.size + 1 + 1) (by omega)).trans RB.out)
        have XFz : Hid ((w109.setCell ⟨w.heap.size + 1, 6, none⟩ (.int .i64 now)).heap[w104.heap.size]? = some (.cells #[.int .i64 3, .int .i64 seq, .bool false, .string ⟨#[]⟩, .int .i64 0, .int .i64 0, .int .i64 0, .string ⟨#[]⟩, .int .u64 0, .slice ta vn tc] 60 (0, 0))) := Lib.hid ((hfar0 (w104.heap.size) (blk_ne XF.out LB.out (by decide))).trans XF.out)
        have KQ0z : Hid (KQR w (w109.setCell ⟨w.heap.size + 1, 6, none⟩ (.int .i64 now)) (.slice qa qn qc) []) := Lib.hid (KQ0.out.past LB.out (by decide) hfar0)
        skip
        have KF0z : Hid (KG w (w109.setCell ⟨w.heap.size + 1, 6, none⟩ (.int .i64 now)) (.slice fa ps.length fc) ps) := Lib.hid (KF0.out.past LB.out (by decide) hfar0)
        have HBz : Hid (Below w.heap.size w (w109.setCell ⟨w.heap.size + 1, 6, none⟩ (.int .i64 now))) := Lib.hid (HB.out.setCell hle1 _)
        clear CB LB RB XF KQ0 KF0 HB hfar0
        generalize w109.setCell ⟨w.heap.size + 1, 6, none⟩ (.int .i64 now) = w110 at CBz LBz RBz XFz KQ0z KF0z HBz ⊢
        have CB := CBz
        have LB := LBz
        have RB := RBz
        have XF := XFz
        have KQ0 := KQ0z
        have KF0 := KF0z
        have HB := HBz
        clear CBz LBz RBz XFz KQ0z KF0z HBz
        obtain ⟨⟨XFc0, XFc1, XFc2, XFc3, XFc4, XFc5, XFc6, XFc7, XFc8, XFc9⟩, ⟨XFf0, XFf1, XFf2, XFf3, XFf4, XFf5, XFf6, XFf7, XFf8, XFf9⟩⟩ := blk10 XF.out
        have b111 := bl_newZ w110 (.cells #[.int .i64 3, .int .i64 seq, .bool false, .string ⟨#[]⟩, .int .i64 0, .int .i64 0, .int .i64 0, .string ⟨#[]⟩, .int .u64 0, .slice ta vn tc] 60)
        have XA := newQ w110 (.cells #[.int .i64 3, .int .i64 seq, .bool false, .string ⟨#[]⟩, .int .i64 0, .int .i64 0, .int .i64 0, .string ⟨#[]⟩, .int .u64 0, .slice ta vn tc] 60)
        have hXA : w.heap.size ≤ w110.heap.size := HB.out.size
        replace CB := Lib.hid (upQ CB.out b111)
        replace LB := Lib.hid (upQ LB.out b111)
        replace RB := Lib.hid (upQ RB.out b111)
        replace XF := Lib.hid (upQ XF.out b111)
        replace KQ0 := Lib.hid (KQR.later KQ0.out b111)
        replace KF0 := Lib.hid (KG.later KF0.out b111)
        replace HB := Lib.hid (below2Z HB.out b111)
        clear b111
        replace XA := Lib.hid XA
        have SRC := srcS_new (vals := frVals) (w := w110) (r := (⟨⟨3, seq, false, [], Val.zero, 0, view⟩, ta, vn, tc⟩ : FrS)) (cs := #[.int .i64 3, .int .i64 seq, .bool false, .string ⟨#[]⟩, .int .i64 0, .int .i64 0, .int .i64 0, .string ⟨#[]⟩, .int .u64 0, .slice ta vn tc]) rfl (e := 60) (B := w110.heap.size) rfl _ rfl
        have KTP : KTR w (w110.alloc (.cells #[.int .i64 3, .int .i64 seq, .bool false, .string ⟨#[]⟩, .int .i64 0, .int .i64 0, .int .i64 0, .string ⟨#[]⟩, .int .u64 0, .slice ta vn tc] 60)) (⟨⟨3, seq, false, [], Val.zero, 0, view⟩, ta, vn, tc⟩ : FrS) := HT.out
        go_wp2_with (at_builtin; go_must (refine wpList_append_fr rfl (.tmp 110) (.tmp 112) rfl w.heap.size _ ps rfl (by exact KF0.out.1) ⟨w110.heap.size, 0, none⟩ (⟨⟨3, seq, false, [], Val.zero, 0, view⟩, ta, vn, tc⟩ : FrS) rfl SRC (by omega) HB.out.size ?_))
        intro fv w112 ho hbl hfar
        have CBz := Lib.hid (blk_app CB.out KF0.out.1 (by decide) hfar)
        have LBz := Lib.hid (blk_app LB.out KF0.out.1 (by decide) hfar)
        have RBz := Lib.hid (blk_app RB.out KF0.out.1 (by decide) hfar)
        have KQ0z := Lib.hid (KQ0.out.app KF0.out.1 hfar)
        have KF0z := Lib.hid (KF0.out.more KTP ho hfar)
        have HBz := Lib.hid (HB.out.trans hbl)
        clear XFc0 XFc1 XFc2 XFc3 XFc4 XFc5 XFc6 XFc7 XFc8 XFc9 XFf0 XFf1 XFf2 XFf3 XFf4 XFf5 XFf6 XFf7 XFf8 XFf9 CB LB RB KQ0 KF0 HB XF XA SRC KTP ho hbl hfar HBr KFr hxfr
        have CB := CBz
        have LB := LBz
        have RB := RBz
        have KQ0 := KQ0z
        have KF0 := KF0z
        have HB := HBz
        clear CBz LBz RBz KQ0z KF0z HBz
        obtain ⟨fa2, fc2, rfl⟩ := kg_shape KF0.out
        obtain ⟨⟨LBc0, LBc1, LBc2, LBc3, LBc4, LBc5, LBc6⟩, ⟨LBf0, LBf1, LBf2, LBf3, LBf4, LBf5, LBf6⟩⟩ := blk7 LB.out
        go_wp2_with fail
        clear LBc0 LBc1 LBc2 LBc3 LBc4 LBc5 LBc6 LBf0 LBf1 LBf2 LBf3 LBf4 LBf5 LBf6
        have hfar0 : ∀ k, ¬ k = w.heap.size + 1 → (w112.setCell ⟨w.heap.size + 1, 0, none⟩ (.int .i64 (seq + 1))).heap[k]? = w112.heap[k]? := fun k hk => by rw [Below.heap_setCell _ _ _ k hk]
        have CBz : Hid ((w112.setCell ⟨w.heap.size + 1, 0, none⟩ (.int .i64 (seq + 1))).heap[w.heap.size]? = some (.cells #[.int .i64 ca, .int .i64 cb, .int .i64 cd, .int .i64 ce] 23 (0, 0))) := Lib.hid ((hfar0 (w.heap.size) (blk_ne CB.out LB.out (by decide))).trans CB.out)
        have LBz : Hid ((w112.setCell ⟨w.heap.size + 1, 0, none⟩ (.int .i64 (seq + 1))).heap[w.heap.size + 1]? = some (.cells #[.int .i64 (seq + 1), .slice qa qn qc, .bool false, .int .i64 bx, .int .i64 bt, .bool false, .int .i64 now] 30 (0, 0))) := Lib.hid (heap_setCell_same _ (w.heap.size + 1) 0 _ _ (.int .i64 (seq + 1)) LB.out)
        have RBz : Hid ((w112.setCell ⟨w.heap.size + 1, 0, none⟩ (.int .i64 (seq + 1))).heap[w.heap.size + 1 + 1]? = some (.cells #[.int .i64 0, .slice none 0 0, .bool false, .int .i64 0, .int .i64 0, .bool false, .int .i64 0] 30 (0, 0))) := Lib.hid ((hfar0 (w.heap.size + 1 + 1) (by omega)).trans RB.out)
        have KQ0z : Hid (KQR w (w112.setCell ⟨w.heap.size + 1, 0, none⟩ (.int .i64 (seq + 1))) (.slice qa qn qc) []) := Lib.hid (KQ0.out.past LB.out (by decide) hfar0)
        have KF0z : Hid (KG w (w112.setCell ⟨w.heap.size + 1, 0, none⟩ (.int .i64 (seq + 1))) (.slice fa2 (ps ++ [(⟨⟨3, seq, false, [], Val.zero, 0, view⟩, ta, vn, tc⟩ : FrS)]).length fc2) (ps ++ [(⟨⟨3, seq, false, [], Val.zero, 0, view⟩, ta, vn, tc⟩ : FrS)])) := Lib.hid (KF0.out.past LB.out (by decide) hfar0)
        have HBz : Hid (Below w.heap.size w (w112.setCell ⟨w.heap.size + 1, 0, none⟩ (.int .i64 (seq + 1)))) := Lib.hid (HB.out.setCell hle1 _)
        clear CB LB RB KQ0 KF0 HB hfar0
        have CB := CBz
        have LB := LBz
        have RB := RBz
        have KQ0 := KQ0z
        have KF0 := KF0z
        have HB := HBz
        clear CBz LBz RBz KQ0z KF0z HBz
        go_roundw
        case rel => exact ⟨seq + 1, bx, bt, now, false, false, [], qa, qn, qc, ps ++ [(⟨⟨3, seq, false, [], Val.zero, 0, view⟩, ta, vn, tc⟩ : FrS)], fa2, fc2, n - 1, rfl, Lib.hid (by rw [List.map_append]; exact HE2.out), CB, LB, RB, KQ0, KF0, HB⟩
        case measure => simp [slLen]; omega
    | false =>
      rcases ql with _ | ⟨⟨xc, xo, ⟨xa, xb, xd, xs⟩⟩, r⟩
      case cons =>
        have hqpos : ((qn : Int) == 0) = false := by have := HQN.out; simp only [List.length_cons] at this; rw [beq_eq_false_iff_ne]; omega
        have hqpos2 : decide (0 < (qn : Int)) = true := by have := HQN.out; simp only [List.length_cons] at this; simp; omega
        have hqpos3 : decide (0 < qn) = true := by have := HQN.out; simp only [List.length_cons] at this; simp; omega
        obtain ⟨rn, hrn⟩ : ∃ n, r.length = n := ⟨_, rfl⟩
        have HRN := Lib.hid hrn
        clear hrn hql
        obtain ⟨⟨CBc0, CBc1, CBc2, CBc3⟩, ⟨CBf0, CBf1, CBf2, CBf3⟩⟩ := blk4 CB.out
        obtain ⟨⟨LBc0, LBc1, LBc2, LBc3, LBc4, LBc5, LBc6⟩, ⟨LBf0, LBf1, LBf2, LBf3, LBf4, LBf5, LBf6⟩⟩ := blk7 LB.out
        go_wp2_with fail
        clear CBc0 CBc1 CBc2 CBc3 CBf0 CBf1 CBf2 CBf3 LBc0 LBc1 LBc2 LBc3 LBc4 LBc5 LBc6 LBf0 LBf1 LBf2 LBf3 LBf4 LBf5 LBf6 t1
        refine (rptake_any ca cb cd ce tok at' now HP _).mono ?_
        rintro e w101 ⟨rfl, b101⟩
        replace CB := Lib.hid (upQ CB.out b101)
        replace LB := Lib.hid (upQ LB.out b101)
        replace RB := Lib.hid (upQ RB.out b101)
        replace KQ0 := Lib.hid (KQR.later KQ0.out b101)
        replace KF0 := Lib.hid (KG.later KF0.out b101)
        replace HB := Lib.hid (below2Z HB.out b101)
        clear b101
        cases is with
        | false =>
          have b152 := bl_newZ w101 (.cells #[.int .i64 bx, .int .i64 bt] 28)
          have XB := newQ w101 (.cells #[.int .i64 bx, .int .i64 bt] 28)
          have hXB : w.heap.size ≤ w101.heap.size := HB.out.size
          replace CB := Lib.hid (upQ CB.out b152)
          replace LB := Lib.hid (upQ LB.out b152)
          replace RB := Lib.hid (upQ RB.out b152)
          replace KQ0 := Lib.hid (KQR.later KQ0.out b152)
          replace KF0 := Lib.hid (KG.later KF0.out b152)
          replace HB := Lib.hid (below2Z HB.out b152)
          clear b152
          replace XB := Lib.hid XB
          go_upto_region 28 with fail
          generalize w101.alloc (.cells #[.int .i64 bx, .int .i64 bt] 28) = w153 at CB LB RB XB KQ0 KF0 HB ⊢
          have hend := emp_end HE.out (stp_tok HP.out)
          rw [HR.out] at hend
          simp only [Prod.mk.injEq] at hend
          obtain ⟨rfl, rfl⟩ := hend
          clear HE HR
          obtain ⟨⟨LBc0, LBc1, LBc2, LBc3, LBc4, LBc5, LBc6⟩, ⟨LBf0, LBf1, LBf2, LBf3, LBf4, LBf5, LBf6⟩⟩ := blk7 LB.out
          obtain ⟨⟨RBc0, RBc1, RBc2, RBc3, RBc4, RBc5, RBc6⟩, ⟨RBf0, RBf1, RBf2, RBf3, RBf4, RBf5, RBf6⟩⟩ := blk7 RB.out
          go_wp2_with fail
          have hz := stN7_heap RB.out (.int .i64 seq) (.slice qa qn qc) (.bool la) (.int .i64 tok) (.int .i64 at') (.bool false) (.int .i64 dg)
          have KQz := KQ0.out.past RB.out (by decide) (fun k hk => stN7_far w153 (w.heap.size + 1 + 1) (.int .i64 seq) (.slice qa qn qc) (.bool la) (.int .i64 tok) (.int .i64 at') (.bool false) (.int .i64 dg) hk)
          have KFz := KF0.out.past RB.out (by decide) (fun k hk => stN7_far w153 (w.heap.size + 1 + 1) (.int .i64 seq) (.slice qa qn qc) (.bool la) (.int .i64 tok) (.int .i64 at') (.bool false) (.int .i64 dg) hk)
          have HBz := stN7_below HB.out hle2 (.int .i64 seq) (.slice qa qn qc) (.bool la) (.int .i64 tok) (.int .i64 at') (.bool false) (.int .i64 dg)
          obtain ⟨⟨z0, z1, z2, z3, z4, z5, z6⟩, -⟩ := blk7 hz
          unfold stN7 at z0 z1 z2 z3 z4 z5 z6
          refine bodyPost_ret (v := .tuple #[.agg #[.int .i64 seq, .slice qa qn qc, .bool la, .int .i64 tok, .int .i64 at', .bool false, .int .i64 dg], .slice fa ps.length fc]) (by simp [results, Tryz.results24, go_sem, z0, z1, z2, z3, z4, z5, z6]) rfl ⟨_, _, ps, rfl, KQz.chgs HBz, KFz, rfl, HBz⟩
        | true =>
          obtain ⟨he2, hpl⟩ := emp_step HE.out h2.out h3.out (stp_d hsq HP.out)
          rw [List.length_map] at hpl
          have HE2 := Lib.hid he2
          clear he2 HE HP HBr KFr
          have b102 := bl_newZ w101 (.cells #[.int .i64 bx, .int .i64 bt] 28)
          have XB := newQ w101 (.cells #[.int .i64 bx, .int .i64 bt] 28)
          have hXB : w.heap.size ≤ w101.heap.size := HB.out.size
          replace CB := Lib.hid (upQ CB.out b102)
          replace LB := Lib.hid (upQ LB.out b102)
          replace RB := Lib.hid (upQ RB.out b102)
          replace KQ0 := Lib.hid (KQR.later KQ0.out b102)
          replace KF0 := Lib.hid (KG.later KF0.out b102)
          replace HB := Lib.hid (below2Z HB.out b102)
          clear b102
          replace XB := Lib.hid XB
          go_upto_region 9 with fail
          generalize w101.alloc (.cells #[.int .i64 bx, .int .i64 bt] 28) = w103 at CB LB RB XB KQ0 KF0 HB ⊢
          have hlb := (Array.getElem?_eq_some_iff.1 LB.out).1
          have hrb := (Array.getElem?_eq_some_iff.1 RB.out).1
          obtain ⟨⟨XBc0, XBc1⟩, ⟨XBf0, XBf1⟩⟩ := blk2 XB.out
          obtain ⟨⟨LBc0, LBc1, LBc2, LBc3, LBc4, LBc5, LBc6⟩, ⟨LBf0, LBf1, LBf2, LBf3, LBf4, LBf5, LBf6⟩⟩ := blk7 LB.out
          go_upto_region 10 with fail
          clear XBc0 XBc1 XBf0 XBf1 LBc0 LBc1 LBc2 LBc3 LBc4 LBc5 LBc6 LBf0 LBf1 LBf2 LBf3 LBf4 LBf5 LBf6 hlb hrb
          have hfar0 : ∀ k, ¬ k = w.heap.size + 1 → ((w103.setCell ⟨w.heap.size + 1, 3, none⟩ (.int .i64 bx)).setCell ⟨w.heap.size + 1, 4, none⟩ (.int .i64 bt)).heap[k]? = w103.heap[k]? := fun k hk => by rw [Below.heap_setCell _ _ _ k hk, Below.heap_setCell _ _ _ k hk]
          have CBz : Hid (((w103.setCell ⟨w.heap.size + 1, 3, none⟩ (.int .i64 bx)).setCell ⟨w.heap.size + 1, 4, none⟩ (.int .i64 bt)).heap[w.heap.size]? = some (.cells #[.int .i64 ca, .int .i64 cb, .int .i64 cd, .int .i64 ce] 23 (0, 0))) := Lib.hid ((hfar0 (w.heap.size) (blk_ne CB.out LB.out (by decide))).trans CB.out)
          have LBz : Hid (((w103.setCell ⟨w.heap.size + 1, 3, none⟩ (.int .i64 bx)).setCell ⟨w.heap.size + 1, 4, none⟩ (.int .i64 bt)).heap[w.heap.size + 1]? = some (.cells #[.int .i64 seq, .slice qa qn qc, .bool la, .int .i64 bx, .int .i64 bt, .bool false, .int .i64 dg] 30 (0, 0))) := Lib.hid (heap_setCell_same _ (w.heap.size + 1) 4 _ _ (.int .i64 bt) (heap_setCell_same _ (w.heap.size + 1) 3 _ _ (.int .i64 bx) LB.out))
          have RBz : Hid (((w103.setCell ⟨w.heap.size + 1, 3, none⟩ (.int .i64 bx)).setCell ⟨w.heap.size + 1, 4, none⟩ (.int .i64 bt)).heap[w.heap.size + 1 + 1]? = some (.cells #[.int .i64 0, .slice none 0 0, .bool false, .int .i64 0, .int .i64 0, .bool false, .int .i64 0] 30 (0, 0))) := Lib.hid ((hfar0 (w.heap.size + 1 + 1) (by omega)).trans RB.out)
          have XBz : Hid (((w103.setCell ⟨w.heap.size + 1, 3, none⟩ (.int .i64 bx)).setCell ⟨w.heap.size + 1, 4, none⟩ (.int .i64 bt)).heap[w101.heap.size]? = some (.cells #[.int .i64 bx, .int .i64 bt] 28 (0, 0))) := Lib.hid ((hfar0 (w101.heap.size) (blk_ne XB.out LB.out (by decide))).trans XB.out)
          have KQ0z : Hid (KQR w ((w103.setCell ⟨w.heap.size + 1, 3, none⟩ (.int .i64 bx)).setCell ⟨w.heap.size + 1, 4, none⟩ (.int .i64 bt)) (.slice qa qn qc) (⟨xc, xo, ⟨xa, xb, xd, xs⟩⟩ :: r)) := Lib.hid (KQ0.out.past LB.out (by decide) hfar0)
          have KF0z : Hid (KG w ((w103.setCell ⟨w.heap.size + 1, 3, none⟩ (.int .i64 bx)).setCell ⟨w.heap.size + 1, 4, none⟩ (.int .i64 bt)) (.slice fa ps.length fc) ps) := Lib.hid (KF0.out.past LB.out (by decide) hfar0)
          have HBz : Hid (Below w.heap.size w ((w103.setCell ⟨w.heap.size + 1, 3, none⟩ (.int .i64 bx)).setCell ⟨w.heap.size + 1, 4, none⟩ (.int .i64 bt))) := Lib.hid ((HB.out.setCell hle1 _).setCell hle1 _)
          clear CB LB RB XB KQ0 KF0 HB hfar0
          generalize (w103.setCell ⟨w.heap.size + 1, 3, none⟩ (.int .i64 bx)).setCell ⟨w.heap.size + 1, 4, none⟩ (.int .i64 bt) = w104 at CBz LBz RBz XBz KQ0z KF0z HBz ⊢
          have CB := CBz
          have LB := LBz
          have RB := RBz
          have XB := XBz
          have KQ0 := KQ0z
          have KF0 := KF0z
          have HB := HBz
          clear CBz LBz RBz XBz KQ0z KF0z HBz
          clear XB
          have HBr := Lib.hid (Below.refl w104.heap.size w104)
          have KFr := KF0
          have hxfr := HBr.out.size
          have hlb := (Array.getElem?_eq_some_iff.1 LB.out).1
          have hrb := (Array.getElem?_eq_some_iff.1 RB.out).1
          obtain ⟨⟨LBc0, LBc1, LBc2, LBc3, LBc4, LBc5, LBc6⟩, ⟨LBf0, LBf1, LBf2, LBf3, LBf4, LBf5, LBf6⟩⟩ := blk7 LB.out
          have b105 := bl_newZ w104 (.cells #[.int .i64 0, .int .i64 seq, .bool false, .string ⟨#[]⟩, .int .i64 0, .int .i64 0, .int .i64 0, .string ⟨#[]⟩, .int .u64 0, .slice none 0 0] 60)
          have XF := newQ w104 (.cells #[.int .i64 0, .int .i64 seq, .bool false, .string ⟨#[]⟩, .int .i64 0, .int .i64 0, .int .i64 0, .string ⟨#[]⟩, .int .u64 0, .slice none 0 0] 60)
          have hXF : w.heap.size ≤ w104.heap.size := HB.out.size
          replace CB := Lib.hid (upQ CB.out b105)
          replace LB := Lib.hid (upQ LB.out b105)
          replace RB := Lib.hid (upQ RB.out b105)
          replace KQ0 := Lib.hid (KQR.later KQ0.out b105)
          replace HBr := Lib.hid (below2Z HBr.out b105)
          replace KF0 := Lib.hid (KG.later KF0.out b105)
          replace HB := Lib.hid (below2Z HB.out b105)
          clear b105
          replace XF := Lib.hid XF
          go_upto_region 11 with fail
          clear LBc0 LBc1 LBc2 LBc3 LBc4 LBc5 LBc6 LBf0 LBf1 LBf2 LBf3 LBf4 LBf5 LBf6
          generalize w104.alloc (.cells #[.int .i64 0, .int .i64 seq, .bool false, .string ⟨#[]⟩, .int .i64 0, .int .i64 0, .int .i64 0, .string ⟨#[]⟩, .int .u64 0, .slice none 0 0] 60) = w106 at CB LB RB XF KQ0 HBr KF0 HB ⊢
          obtain ⟨⟨LBc0, LBc1, LBc2, LBc3, LBc4, LBc5, LBc6⟩, ⟨LBf0, LBf1, LBf2, LBf3, LBf4, LBf5, LBf6⟩⟩ := blk7 LB.out
          go_wp2_with fail
          clear LBc0 LBc1 LBc2 LBc3 LBc4 LBc5 LBc6 LBf0 LBf1 LBf2 LBf3 LBf4 LBf5 LBf6
          refine (rqupop_tail (KQ0.out.chgs HB.out) la (by simp) (c := xc) (st := xs) (on := xo) (a := xa) (b := xb) (d := xd) rfl).mono ?_
          rintro e w107 ⟨u, rfl, hu, b107⟩
          replace CB := Lib.hid (upQ CB.out b107)
          replace LB := Lib.hid (upQ LB.out b107)
          replace RB := Lib.hid (upQ RB.out b107)
          replace XF := Lib.hid (upQ XF.out b107)
          replace KQ0 := Lib.hid (KQR.later KQ0.out b107)
          replace HBr := Lib.hid (below2Z HBr.out b107)
          replace KF0 := Lib.hid (KG.later KF0.out b107)
          replace HB := Lib.hid (below2Z HB.out b107)
          obtain ⟨a2, c2, rfl⟩ := chgs_shape (hu _ (KQ0.out.chgs HB.out)) HRN.out
          have QN : Hid (KQR w w (.slice a2 rn c2) r) := Lib.hid (fun X hX => hu X (KQ0.out X hX))
          clear hu
          clear b107
          have QNx : Hid (KQR w w107 (.slice a2 rn c2) r) := Lib.hid (fun X hX => QN.out X hX)
          clear QN
          have QN := QNx
          clear QNx
          have b108 := bl_newZ w107 (.cells #[.string ⟨xc.toArray⟩, .bool xo, .int .i64 xa, .int .i64 xb, .int .i64 xd, .string ⟨xs.toArray⟩] 34)
          have XX := newQ w107 (.cells #[.string ⟨xc.toArray⟩, .bool xo, .int .i64 xa, .int .i64 xb, .int .i64 xd, .string ⟨xs.toArray⟩] 34)
          have hXX : w.heap.size ≤ w107.heap.size := HB.out.size
          replace CB := Lib.hid (upQ CB.out b108)
          replace LB := Lib.hid (upQ LB.out b108)
          replace RB := Lib.hid (upQ RB.out b108)
          replace XF := Lib.hid (upQ XF.out b108)
          replace KQ0 := Lib.hid (KQR.later KQ0.out b108)
          replace HBr := Lib.hid (below2Z HBr.out b108)
          replace KF0 := Lib.hid (KG.later KF0.out b108)
          replace QN := Lib.hid (KQR.later QN.out b108)
          replace HB := Lib.hid (below2Z HB.out b108)
          clear b108
          replace XX := Lib.hid XX
          have b109 := bl_newZ (w107.alloc (.cells #[.string ⟨xc.toArray⟩, .bool xo, .int .i64 xa, .int .i64 xb, .int .i64 xd, .string ⟨xs.toArray⟩] 34)) (.cells #[.slice a2 rn c2, .bool la] 26)
          have XQ := newQ (w107.alloc (.cells #[.string ⟨xc.toArray⟩, .bool xo, .int .i64 xa, .int .i64 xb, .int .i64 xd, .string ⟨xs.toArray⟩] 34)) (.cells #[.slice a2 rn c2, .bool la] 26)
          have hXQ : w.heap.size ≤ (w107.alloc (.cells #[.string ⟨xc.toArray⟩, .bool xo, .int .i64 xa, .int .i64 xb, .int .i64 xd, .string ⟨xs.toArray⟩] 34)).heap.size := HB.out.size
          rw [World.size_alloc] at XQ hXQ
          replace CB := Lib.hid (upQ CB.out b109)
          replace LB := Lib.hid (upQ LB.out b109)
          replace RB := Lib.hid (upQ RB.out b109)
          replace XF := Lib.hid (upQ XF.out b109)
          replace XX := Lib.hid (upQ XX.out b109)
          replace KQ0 := Lib.hid (KQR.later KQ0.out b109)
          replace HBr := Lib.hid (below2Z HBr.out b109)
          replace KF0 := Lib.hid (KG.later KF0.out b109)
          replace QN := Lib.hid (KQR.later QN.out b109)
          replace HB := Lib.hid (below2Z HB.out b109)
          clear b109
          replace XQ := Lib.hid XQ
          go_upto_region 18 with fail
          generalize (w107.alloc (.cells #[.string ⟨xc.toArray⟩, .bool xo, .int .i64 xa, .int .i64 xb, .int .i64 xd, .string ⟨xs.toArray⟩] 34)).alloc (.cells #[.slice a2 rn c2, .bool la] 26) = w110 at CB LB RB XF XX XQ KQ0 HBr KF0 QN HB ⊢
          obtain ⟨⟨XFc0, XFc1, XFc2, XFc3, XFc4, XFc5, XFc6, XFc7, XFc8, XFc9⟩, ⟨XFf0, XFf1, XFf2, XFf3, XFf4, XFf5, XFf6, XFf7, XFf8, XFf9⟩⟩ := blk10 XF.out
          go_upto_region 19 with fail
          clear XFc0 XFc1 XFc2 XFc3 XFc4 XFc5 XFc6 XFc7 XFc8 XFc9 XFf0 XFf1 XFf2 XFf3 XFf4 XFf5 XFf6 XFf7 XFf8 XFf9
          have hfar0 : ∀ k, ¬ k = w104.heap.size → (w110.setCell ⟨w104.heap.size, 0, none⟩ (.int .i64 1)).heap[k]? = w110.heap[k]? := fun k hk => by rw [Below.heap_setCell _ _ _ k hk]
          have CBz : Hid ((w110.setCell ⟨w104.heap.size, 0, none⟩ (.int .i64 1)).heap[w.heap.size]? = some (.cells #[.int .i64 ca, .int .i64 cb, .int .i64 cd, .int .i64 ce] 23 (0, 0))) := Lib.hid ((hfar0 (w.heap.size) (blk_ne CB.out XF.out (by decide))).trans CB.out)
          have LBz : Hid ((w110.setCell ⟨w104.heap.size, 0, none⟩ (.int .i64 1)).heap[w.heap.size + 1]? = some (.cells #[.int .i64 seq, .slice qa qn qc, .bool la, .int .i64 bx, .int .i64 bt, .bool false, .int .i64 dg] 30 (0, 0))) := Lib.hid ((hfar0 (w.heap.size + 1) (blk_ne LB.out XF.out (by decide))).trans LB.out)
          have RBz : Hid ((w110.setCell ⟨w104.heap.size, 0, none⟩ (.int .i64 1)).heap[w.heap.size + 1 + 1]? = some (.cells #[.int .i64 0, .slice none 0 0, .bool false, .int .i64 0, .int .i64 0, .bool false, .int .i64 0] 30 (0, 0))) := Lib.hid ((hfar0 (w.heap.size + 1 + 1) (blk_ne RB.out XF.out (by decide))).trans RB.out)
          have XFz : Hid ((w110.setCell ⟨w104.heap.size, 0, none⟩ (.int .i64 1)).heap[w104.heap.size]? = some (.cells #[.int .i64 1, .int .i64 seq, .bool false, .string ⟨#[]⟩, .int .i64 0, .int .i64 0, .int .i64 0, .string ⟨#[]⟩, .int .u64 0, .slice none 0 0] 60 (0, 0))) := Lib.hid (heap_setCell_same _ (w104.heap.size) 0 _ _ (.int .i64 1) XF.out)
          have XXz : Hid ((w110.setCell ⟨w104.heap.size, 0, none⟩ (.int .i64 1)).heap[w107.heap.size]? = some (.cells #[.string ⟨xc.toArray⟩, .bool xo, .int .i64 xa, .int .i64 xb, .int .i64 xd, .string ⟨xs.toArray⟩] 34 (0, 0))) := Lib.hid ((hfar0 (w107.heap.size) (blk_ne XX.out XF.out (by decide))).trans XX.out)
          have XQz : Hid ((w110.setCell ⟨w104.heap.size, 0, none⟩ (.int .i64 1)).heap[w107.heap.size + 1]? = some (.cells #[.slice a2 rn c2, .bool la] 26 (0, 0))) := Lib.hid ((hfar0 (w107.heap.size + 1) (blk_ne XQ.out XF.out (by decide))).trans XQ.out)
          have KQ0z : Hid (KQR w (w110.setCell ⟨w104.heap.size, 0, none⟩ (.int .i64 1)) (.slice qa qn qc) (⟨xc, xo, ⟨xa, xb, xd, xs⟩⟩ :: r)) := Lib.hid (KQ0.out.past XF.out (by decide) hfar0)
          have HBrz : Hid (Below w104.heap.size w104 (w110.setCell ⟨w104.heap.size, 0, none⟩ (.int .i64 1))) := Lib.hid (HBr.out.setCell hxfr _)
          have KF0z : Hid (KG w (w110.setCell ⟨w104.heap.size, 0, none⟩ (.int .i64 1)) (.slice fa ps.length fc) ps) := Lib.hid (KFr.out.later HBrz.out)
          have QNz : Hid (KQR w (w110.setCell ⟨w104.heap.size, 0, none⟩ (.int .i64 1)) (.slice a2 rn c2) r) := Lib.hid (QN.out.past XF.out (by decide) hfar0)
          have HBz : Hid (Below w.heap.size w (w110.setCell ⟨w104.heap.size, 0, none⟩ (.int .i64 1))) := Lib.hid (HB.out.setCell hXF _)
          clear CB LB RB XF XX XQ KQ0 HBr KF0 QN HB hfar0
          generalize w110.setCell ⟨w104.heap.size, 0, none⟩ (.int .i64 1) = w111 at CBz LBz RBz XFz XXz XQz KQ0z HBrz KF0z QNz HBz ⊢
          have CB := CBz
          have LB := LBz
          have RB := RBz
          have XF := XFz
          have XX := XXz
          have XQ := XQz
          have KQ0 := KQ0z
          have HBr := HBrz
          have KF0 := KF0z
          have QN := QNz
          have HB := HBz
          clear CBz LBz RBz XFz XXz XQz KQ0z HBrz KF0z QNz HBz
          obtain ⟨⟨XXc0, XXc1, XXc2, XXc3, XXc4, XXc5⟩, ⟨XXf0, XXf1, XXf2, XXf3, XXf4, XXf5⟩⟩ := blk6 XX.out
          obtain ⟨⟨XFc0, XFc1, XFc2, XFc3, XFc4, XFc5, XFc6, XFc7, XFc8, XFc9⟩, ⟨XFf0, XFf1, XFf2, XFf3, XFf4, XFf5, XFf6, XFf7, XFf8, XFf9⟩⟩ := blk10 XF.out
          go_upto_region 20 with fail
          clear XXc0 XXc1 XXc2 XXc3 XXc4 XXc5 XXf0 XXf1 XXf2 XXf3 XXf4 XXf5 XFc0 XFc1 XFc2 XFc3 XFc4 XFc5 XFc6 XFc7 XFc8 XFc9 XFf0 XFf1 XFf2 XFf3 XFf4 XFf5 XFf6 XFf7 XFf8 XFf9
          have hfar0 : ∀ k, ¬ k = w104.heap.size → (w111.setCell ⟨w104.heap.size, 3, none⟩ (.string ⟨xc.toArray⟩)).heap[k]? = w111.heap[k]? := fun k hk => by rw [Below.heap_setCell _ _ _ k hk]
          have CBz : Hid ((w111.setCell ⟨w104.heap.size, 3, none⟩ (.string ⟨xc.toArray⟩)).heap[w.heap.size]? = some (.cells #[.int .i64 ca, .int .i64 cb, .int .i64 cd, .int .i64 ce] 23 (0, 0))) := Lib.hid ((hfar0 (w.heap.size) (blk_ne CB.out XF.out (by decide))).trans CB.out)
          have LBz : Hid ((w111.setCell ⟨w104.heap.size, 3, none⟩ (.string ⟨xc.toArray⟩)).heap[w.heap.size + 1]? = some (.cells #[.int .i64 seq, .slice qa qn qc, .bool la, .int .i64 bx, .int .i64 bt, .bool false, .int .i64 dg] 30 (0, 0))) := Lib.hid ((hfar0 (w.heap.size + 1) (blk_ne LB.out XF.out (by decide))).trans LB.out)
          have RBz : Hid ((w111.setCell ⟨w104.heap.size, 3, none⟩ (.string ⟨xc.toArray⟩)).heap[w.heap.size + 1 + 1]? = some (.cells #[.int .i64 0, .slice none 0 0, .bool false, .int .i64 0, .int .i64 0, .bool false, .int .i64 0] 30 (0, 0))) := Lib.hid ((hfar0 (w.heap.size + 1 + 1) (blk_ne RB.out XF.out (by decide))).trans RB.out)
          have XFz : Hid ((w111.setCell ⟨w104.heap.size, 3, none⟩ (.string ⟨xc.toArray⟩)).heap[w104.heap.size]? = some (.cells #[.int .i64 1, .int .i64 seq, .bool false, .string ⟨xc.toArray⟩, .int .i64 0, .int .i64 0, .int .i64 0, .string ⟨#[]⟩, .int .u64 0, .slice none 0 0] 60 (0, 0))) := Lib.hid (heap_setCell_same _ (w104.heap.size) 3 _ _ (.string ⟨xc.toArray⟩) XF.out)
          have XXz : Hid ((w111.setCell ⟨w104.heap.size, 3, none⟩ (.string ⟨xc.toArray⟩)).heap[w107.heap.size]? = some (.cells #[.string ⟨xc.toArray⟩, .bool xo, .int .i64 xa, .int .i64 xb, .int .i64 xd, .string ⟨xs.toArray⟩] 34 (0, 0))) := Lib.hid ((hfar0 (w107.heap.size) (blk_ne XX.out XF.out (by decide))).trans XX.out)
          have XQz : Hid ((w111.setCell ⟨w104.heap.size, 3, none⟩ (.string ⟨xc.toArray⟩)).heap[w107.heap.size + 1]? = some (.cells #[.slice a2 rn c2, .bool la] 26 (0, 0))) := Lib.hid ((hfar0 (w107.heap.size + 1) (blk_ne XQ.out XF.out (by decide))).trans XQ.out)
          have KQ0z : Hid (KQR w (w111.setCell ⟨w104.heap.size, 3, none⟩ (.string ⟨xc.toArray⟩)) (.slice qa qn qc) (⟨xc, xo, ⟨xa, xb, xd, xs⟩⟩ :: r)) := Lib.hid (KQ0.out.past XF.out (by decide) hfar0)
          have HBrz : Hid (Below w104.heap.size w104 (w111.setCell ⟨w104.heap.size, 3, none⟩ (.string ⟨xc.toArray⟩))) := Lib.hid (HBr.out.setCell hxfr _)
          have KF0z : Hid (KG w (w111.setCell ⟨w104.heap.size, 3, none⟩ (.string ⟨xc.toArray⟩)) (.slice fa ps.length fc) ps) := Lib.hid (KFr.out.later HBrz.out)
          have QNz : Hid (KQR w (w111.setCell ⟨w104.heap.size, 3, none⟩ (.string ⟨xc.toArray⟩)) (.slice a2 rn c2) r) := Lib.hid (QN.out.past XF.out (by decide) hfar0)
          have HBz : Hid (Below w.heap.size w (w111.setCell ⟨w104.heap.size, 3, none⟩ (.string ⟨xc.toArray⟩))) := Lib.hid (HB.out.setCell hXF _)
          clear CB LB RB XF XX XQ KQ0 HBr KF0 QN HB hfar0
          generalize w111.setCell ⟨w104.heap.size, 3, none⟩ (.string ⟨xc.toArray⟩) = w112 at CBz LBz RBz XFz XXz XQz KQ0z HBrz KF0z QNz HBz ⊢
          have CB := CBz
          have LB := LBz
          have RB := RBz
          have XF := XFz
          have XX := XXz
          have XQ := XQz
          have KQ0 := KQ0z
          have HBr := HBrz
          have KF0 := KF0z
          have QN := QNz
          have HB := HBz
          clear CBz LBz RBz XFz XXz XQz KQ0z HBrz KF0z QNz HBz
          obtain ⟨⟨XXc0, XXc1, XXc2, XXc3, XXc4, XXc5⟩, ⟨XXf0, XXf1, XXf2, XXf3, XXf4, XXf5⟩⟩ := blk6 XX.out
          obtain ⟨⟨XFc0, XFc1, XFc2, XFc3, XFc4, XFc5, XFc6, XFc7, XFc8, XFc9⟩, ⟨XFf0, XFf1, XFf2, XFf3, XFf4, XFf5, XFf6, XFf7, XFf8, XFf9⟩⟩ := blk10 XF.out
          go_upto_region 21 with fail
          clear XXc0 XXc1 XXc2 XXc3 XXc4 XXc5 XXf0 XXf1 XXf2 XXf3 XXf4 XXf5 XFc0 XFc1 XFc2 XFc3 XFc4 XFc5 XFc6 XFc7 XFc8 XFc9 XFf0 XFf1 XFf2 XFf3 XFf4 XFf5 XFf6 XFf7 XFf8 XFf9
          have hfar0 : ∀ k, ¬ k = w104.heap.size → (w112.setCell ⟨w104.heap.size, 2, none⟩ (.bool xo)).heap[k]? = w112.heap[k]? := fun k hk => by rw [Below.heap_setCell _ _ _ k hk]
          have CBz : Hid ((w112.setCell ⟨w104.heap.size, 2, none⟩ (.bool xo)).heap[w.heap.size]? = some (.cells #[.int .i64 ca, .int .i64 cb, .int .i64 cd, .int .i64 ce] 23 (0, 0))) := Lib.hid ((hfar0 (w.heap.size) (blk_ne CB.out XF.out (by decide))).trans CB.out)
          have LBz : Hid ((w112.setCell ⟨w104.heap.size, 2, none⟩ (.bool xo)).heap[w.heap.size + 1]? = some (.cells #[.int .i64 seq, .slice qa qn qc, .bool la, .int .i64 bx, .int .i64 bt, .bool false, .int .i64 dg] 30 (0, 0))) := Lib.hid ((hfar0 (w.heap.size + 1) (blk_ne LB.out XF.out (by decide))).trans LB.out)
          have RBz : Hid ((w112.setCell ⟨w104.heap.size, 2, none⟩ (.bool xo)).heap[w.heap.size + 1 + 1]? = some (.cells #[.int .i64 0, .slice none 0 0, .bool false, .int .i64 0, .int .i64 0, .bool false, .int .i64 0] 30 (0, 0))) := Lib.hid ((hfar0 (w.heap.size + 1 + 1) (blk_ne RB.out XF.out (by decide))).trans RB.out)
          have XFz : Hid ((w112.setCell ⟨w104.heap.size, 2, none⟩ (.bool xo)).heap[w104.heap.size]? = some (.cells #[.int .i64 1, .int .i64 seq, .bool xo, .string ⟨xc.toArray⟩, .int .i64 0, .int .i64 0, .int .i64 0, .string ⟨#[]⟩, .int .u64 0, .slice none 0 0] 60 (0, 0))) := Lib.hid (heap_setCell_same _ (w104.heap.size) 2 _ _ (.bool xo) XF.out)
          have XXz : Hid ((w112.setCell ⟨w104.heap.size, 2, none⟩ (.bool xo)).heap[w107.heap.size]? = some (.cells #[.string ⟨xc.toArray⟩, .bool xo, .int .i64 xa, .int .i64 xb, .int .i64 xd, .string ⟨xs.toArray⟩] 34 (0, 0))) := Lib.hid ((hfar0 (w107.heap.size) (blk_ne XX.out XF.out (by decide))).trans XX.out)
          have XQz : Hid ((w112.setCell ⟨w104.heap.size, 2, none⟩ (.bool xo)).heap[w107.heap.size + 1]? = some (.cells #[.slice a2 rn c2, .bool la] 26 (0, 0))) := Lib.hid ((hfar0 (w107.heap.size + 1) (blk_ne XQ.out XF.out (by decide))).trans XQ.out)
          have KQ0z : Hid (KQR w (w112.setCell ⟨w104.heap.size, 2, none⟩ (.bool xo)) (.slice qa qn qc) (⟨xc, xo, ⟨xa, xb, xd, xs⟩⟩ :: r)) := Lib.hid (KQ0.out.past XF.out (by decide) hfar0)
          have HBrz : Hid (Below w104.heap.size w104 (w112.setCell ⟨w104.heap.size, 2, none⟩ (.bool xo))) := Lib.hid (HBr.out.setCell hxfr _)
          have KF0z : Hid (KG w (w112.setCell ⟨w104.heap.size, 2, none⟩ (.bool xo)) (.slice fa ps.length fc) ps) := Lib.hid (KFr.out.later HBrz.out)
          have QNz : Hid (KQR w (w112.setCell ⟨w104.heap.size, 2, none⟩ (.bool xo)) (.slice a2 rn c2) r) := Lib.hid (QN.out.past XF.out (by decide) hfar0)
          have HBz : Hid (Below w.heap.size w (w112.setCell ⟨w104.heap.size, 2, none⟩ (.bool xo))) := Lib.hid (HB.out.setCell hXF _)
          clear CB LB RB XF XX XQ KQ0 HBr KF0 QN HB hfar0
          generalize w112.setCell ⟨w104.heap.size, 2, none⟩ (.bool xo) = w113 at CBz LBz RBz XFz XXz XQz KQ0z HBrz KF0z QNz HBz ⊢
          have CB := CBz
          have LB := LBz
          have RB := RBz
          have XF := XFz
          have XX := XXz
          have XQ := XQz
          have KQ0 := KQ0z
          have HBr := HBrz
          have KF0 := KF0z
          have QN := QNz
          have HB := HBz
          clear CBz LBz RBz XFz XXz XQz KQ0z HBrz KF0z QNz HBz
          obtain ⟨⟨XXc0, XXc1, XXc2, XXc3, XXc4, XXc5⟩, ⟨XXf0, XXf1, XXf2, XXf3, XXf4, XXf5⟩⟩ := blk6 XX.out
          obtain ⟨⟨XFc0, XFc1, XFc2, XFc3, XFc4, XFc5, XFc6, XFc7, XFc8, XFc9⟩, ⟨XFf0, XFf1, XFf2, XFf3, XFf4, XFf5, XFf6, XFf7, XFf8, XFf9⟩⟩ := blk10 XF.out
          go_upto_region 22 with fail
          clear XXc0 XXc1 XXc2 XXc3 XXc4 XXc5 XXf0 XXf1 XXf2 XXf3 XXf4 XXf5 XFc0 XFc1 XFc2 XFc3 XFc4 XFc5 XFc6 XFc7 XFc8 XFc9 XFf0 XFf1 XFf2 XFf3 XFf4 XFf5 XFf6 XFf7 XFf8 XFf9
          have hfar0 : ∀ k, ¬ k = w104.heap.size → ((((w113.setCell ⟨w104.heap.size, 4, none⟩ (.int .i64 xa)).setCell ⟨w104.heap.size, 5, none⟩ (.int .i64 xb)).setCell ⟨w104.heap.size, 6, none⟩ (.int .i64 xd)).setCell ⟨w104.heap.size, 7, none⟩ (.string ⟨xs.toArray⟩)).heap[k]? = w113.heap[k]? := fun k hk => by rw [Below.heap_setCell _ _ _ k hk, Below.heap_setCell _ _ _ k hk, Below.heap_setCell _ _ _ k hk, Below.heap_setCell _ _ _ k hk]
          have CBz : Hid (((((w113.setCell ⟨w104.heap.size, 4, none⟩ (.int .i64 xa)).setCell ⟨w104.heap.size, 5, none⟩ (.int .i64 xb)).setCell ⟨w104.heap.size, 6, none⟩ (.int .i64 xd)).setCell ⟨w104.heap.size, 7, none⟩ (.string ⟨xs.toArray⟩)).heap[w.heap.size]? = some (.cells #[.int .i64 ca, .int .i64 cb, .int .i64 cd, .int .i64 ce] 23 (0, 0))) := Lib.hid ((hfar0 (w.heap.size) (blk_ne CB.out XF.out (by decide))).trans CB.out)
          have LBz : Hid (((((w113.setCell ⟨w104.heap.size, 4, none⟩ (.int .i64 xa)).setCell ⟨w104.heap.size, 5, none⟩ (.int .i64 xb)).setCell ⟨w104.heap.size, 6, none⟩ (.int .i64 xd)).setCell ⟨w104.heap.size, 7, none⟩ (.string ⟨xs.toArray⟩)).heap[w.heap.size + 1]? = some (.cells #[.int .i64 seq, .slice qa qn qc, .bool la, .int .i64 bx, .int .i64 bt, .bool false, .int .i64 dg] 30 (0, 0))) := Lib.hid ((hfar0 (w.heap.size + 1) (blk_ne LB.out XF.out (by decide))).trans LB.out)
          have RBz : Hid (((((w113.setCell ⟨w104.heap.size, 4, none⟩ (.int .i64 xa)).setCell ⟨w104.heap.size, 5, none⟩ (.int .i64 xb)).setCell ⟨w104.heap.size, 6, none⟩ (.int .i64 xd)).setCell ⟨w104.heap.size, 7, none⟩ (.string ⟨xs.toArray⟩)).heap[w.heap.size + 1 + 1]? = some (.cells #[.int .i64 0, .slice none 0 0, .bool false, .int .i64 0, .int .i64 0, .bool false, .int .i64 0] 30 (0, 0))) := Lib.hid ((hfar0 (w.heap.size + 1 + 1) (blk_ne RB.out XF.out (by decide))).trans RB.out)
          have XFz : Hid (((((w113.setCell ⟨w104.heap.size, 4, none⟩ (.int .i64 xa)).setCell ⟨w104.heap.size, 5, none⟩ (.int .i64 xb)).setCell ⟨w104.heap.size, 6, none⟩ (.int .i64 xd)).setCell ⟨w104.heap.size, 7, none⟩ (.string ⟨xs.toArray⟩)).heap[w104.heap.size]? = some (.cells #[.int .i64 1, .int .i64 seq, .bool xo, .string ⟨xc.toArray⟩, .int .i64 xa, .int .i64 xb, .int .i64 xd, .string ⟨xs.toArray⟩, .int .u64 0, .slice none 0 0] 60 (0, 0))) := Lib.hid (heap_setCell_same _ (w104.heap.size) 7 _ _ (.string ⟨xs.toArray⟩) (heap_setCell_same _ (w104.heap.size) 6 _ _ (.int .i64 xd) (heap_setCell_same _ (w104.heap.size) 5 _ _ (.int .i64 xb) (heap_setCell_same _ (w104.heap.size) 4 _ _ (.int .i64 xa) XF.out))))
          have XXz : Hid (((((w113.setCell ⟨w104.heap.size, 4, none⟩ (.int .i64 xa)).setCell ⟨w104.heap.size, 5, none⟩ (.int .i64 xb)).setCell ⟨w104.heap.size, 6, none⟩ (.int .i64 xd)).setCell ⟨w104.heap.size, 7, none⟩ (.string ⟨xs.toArray⟩)).heap[w107.heap.size]? = some (.cells #[.string ⟨xc.toArray⟩, .bool xo, .int .i64 xa, .int .i64 xb, .int .i64 xd, .string ⟨xs.toArray⟩] 34 (0, 0))) := Lib.hid ((hfar0 (w107.heap.size) (blk_ne XX.out XF.out (by decide))).trans XX.out)
          have XQz : Hid (((((w113.setCell ⟨w104.heap.size, 4, none⟩ (.int .i64 xa)).setCell ⟨w104.heap.size, 5, none⟩ (.int .i64 xb)).setCell ⟨w104.heap.size, 6, none⟩ (.int .i64 xd)).setCell ⟨w104.heap.size, 7, none⟩ (.string ⟨xs.toArray⟩)).heap[w107.heap.size + 1]? = some (.cells #[.slice a2 rn c2, .bool la] 26 (0, 0))) := Lib.hid ((hfar0 (w107.heap.size + 1) (blk_ne XQ.out XF.out (by decide))).trans XQ.out)
          have KQ0z : Hid (KQR w ((((w113.setCell ⟨w104.heap.size, 4, none⟩ (.int .i64 xa)).setCell ⟨w104.heap.size, 5, none⟩ (.int .i64 xb)).setCell ⟨w104.heap.size, 6, none⟩ (.int .i64 xd)).setCell ⟨w104.heap.size, 7, none⟩ (.string ⟨xs.toArray⟩)) (.slice qa qn qc) (⟨xc, xo, ⟨xa, xb, xd, xs⟩⟩ :: r)) := Lib.hid (KQ0.out.past XF.out (by decide) hfar0)
          have HBrz : Hid (Below w104.heap.size w104 ((((w113.setCell ⟨w104.heap.size, 4, none⟩ (.int .i64 xa)).setCell ⟨w104.heap.size, 5, none⟩ (.int .i64 xb)).setCell ⟨w104.heap.size, 6, none⟩ (.int .i64 xd)).setCell ⟨w104.heap.size, 7, none⟩ (.string ⟨xs.toArray⟩))) := Lib.hid ((((HBr.out.setCell hxfr _).setCell hxfr _).setCell hxfr _).setCell hxfr _)
          have KF0z : Hid (KG w ((((w113.setCell ⟨w104.heap.size, 4, none⟩ (.int .i64 xa)).setCell ⟨w104.heap.size, 5, none⟩ (.int .i64 xb)).setCell ⟨w104.heap.size, 6, none⟩ (.int .i64 xd)).setCell ⟨w104.heap.size, 7, none⟩ (.string ⟨xs.toArray⟩)) (.slice fa ps.length fc) ps) := Lib.hid (KFr.out.later HBrz.out)
          have QNz : Hid (KQR w ((((w113.setCell ⟨w104.heap.size, 4, none⟩ (.int .i64 xa)).setCell ⟨w104.heap.size, 5, none⟩ (.int .i64 xb)).setCell ⟨w104.heap.size, 6, none⟩ (.int .i64 xd)).setCell ⟨w104.heap.size, 7, none⟩ (.string ⟨xs.toArray⟩)) (.slice a2 rn c2) r) := Lib.hid (QN.out.past XF.out (by decide) hfar0)
          have HBz : Hid (Below w.heap.size w ((((w113.setCell ⟨w104.heap.size, 4, none⟩ (.int .i64 xa)).setCell ⟨w104.heap.size, 5, none⟩ (.int .i64 xb)).setCell ⟨w104.heap.size, 6, none⟩ (.int .i64 xd)).setCell ⟨w104.heap.size, 7, none⟩ (.string ⟨xs.toArray⟩))) := Lib.hid ((((HB.out.setCell hXF _).setCell hXF _).setCell hXF _).setCell hXF _)
          clear CB LB RB XF XX XQ KQ0 HBr KF0 QN HB hfar0
          generalize (((w113.setCell ⟨w104.heap.size, 4, none⟩ (.int .i64 xa)).setCell ⟨w104.heap.size, 5, none⟩ (.int .i64 xb)).setCell ⟨w104.heap.size, 6, none⟩ (.int .i64 xd)).setCell ⟨w104.heap.size, 7, none⟩ (.string ⟨xs.toArray⟩) = w114 at CBz LBz RBz XFz XXz XQz KQ0z HBrz KF0z QNz HBz ⊢
          have CB := CBz
          have LB := LBz
          have RB := RBz
          have XF := XFz
          have XX := XXz
          have XQ := XQz
          have KQ0 := KQ0z
          have HBr := HBrz
          have KF0 := KF0z
          have QN := QNz
          have HB := HBz
          clear CBz LBz RBz XFz XXz XQz KQ0z HBrz KF0z QNz HBz
          clear XX
          obtain ⟨⟨XQc0, XQc1⟩, ⟨XQf0, XQf1⟩⟩ := blk2 XQ.out
          obtain ⟨⟨LBc0, LBc1, LBc2, LBc3, LBc4, LBc5, LBc6⟩, ⟨LBf0, LBf1, LBf2, LBf3, LBf4, LBf5, LBf6⟩⟩ := blk7 LB.out
          go_upto_region 26 with fail
          clear XQc0 XQc1 XQf0 XQf1 LBc0 LBc1 LBc2 LBc3 LBc4 LBc5 LBc6 LBf0 LBf1 LBf2 LBf3 LBf4 LBf5 LBf6
          have hfar0 : ∀ k, ¬ k = w.heap.size + 1 → ((w114.setCell ⟨w.heap.size + 1, 1, none⟩ (.slice a2 rn c2)).setCell ⟨w.heap.size + 1, 2, none⟩ (.bool la)).heap[k]? = w114.heap[k]? := fun k hk => by rw [Below.heap_setCell _ _ _ k hk, Below.heap_setCell _ _ _ k hk]
          have CBz : Hid (((w114.setCell ⟨w.heap.size + 1, 1, none⟩ (.slice a2 rn c2)).setCell ⟨w.heap.size + 1, 2, none⟩ (.bool la)).heap[w.heap.size]? = some (.cells #[.int .i64 ca, .int .i64 cb, .int .i64 cd, .int .i64 ce] 23 (0, 0))) := Lib.hid ((hfar0 (w.heap.size) (blk_ne CB.out LB.out (by decide))).trans CB.out)
          have LBz : Hid (((w114.setCell ⟨w.heap.size + 1, 1, none⟩ (.slice a2 rn c2)).setCell ⟨w.heap.size + 1, 2, none⟩ (.bool la)).heap[w.heap.size + 1]? = some (.cells #[.int .i64 seq, .slice a2 rn c2, .bool la, .int .i64 bx, .int .i64 bt, .bool false, .int .i64 dg] 30 (0, 0))) := Lib.hid (heap_setCell_same _ (w.heap.size + 1) 2 _ _ (.bool la) (heap_setCell_same _ (w.heap.size + 1) 1 _ _ (.slice a2 rn c2) LB.out))
          have RBz : Hid (((w114.setCell ⟨w.heap.size + 1, 1, none⟩ (.slice a2 rn c2)).setCell ⟨w.heap.size + 1, 2, none⟩ (.bool la)).heap[w.heap.size + 1 + 1]? = some (.cells #[.int .i64 0, .slice none 0 0, .bool false, .int .i64 0, .int .i64 0, .bool false, .int .i64 0] 30 (0, 0))) := Lib.hid ((hfar0 (w.heap.size + 1 + 1) (by omega)).trans RB.out)
          have XFz : Hid (((w114.setCell ⟨w.heap.size + 1, 1, none⟩ (.slice a2 rn c2)).setCell ⟨w.heap.size + 1, 2, none⟩ (.bool la)).heap[w104.heap.size]? = some (.cells #[.int .i64 1, .int .i64 seq, .bool xo, .string ⟨xc.toArray⟩, .int .i64 xa, .int .i64 xb, .int .i64 xd, .string ⟨xs.toArray⟩, .int .u64 0, .slice none 0 0] 60 (0, 0))) := Lib.hid ((hfar0 (w104.heap.size) (blk_ne XF.out LB.out (by decide))).trans XF.out)
          have XQz : Hid (((w114.setCell ⟨w.heap.size + 1, 1, none⟩ (.slice a2 rn c2)).setCell ⟨w.heap.size + 1, 2, none⟩ (.bool la)).heap[w107.heap.size + 1]? = some (.cells #[.slice a2 rn c2, .bool la] 26 (0, 0))) := Lib.hid ((hfar0 (w107.heap.size + 1) (blk_ne XQ.out LB.out (by decide))).trans XQ.out)
          have KQ0z : Hid (KQR w ((w114.setCell ⟨w.heap.size + 1, 1, none⟩ (.slice a2 rn c2)).setCell ⟨w.heap.size + 1, 2, none⟩ (.bool la)) (.slice qa qn qc) (⟨xc, xo, ⟨xa, xb, xd, xs⟩⟩ :: r)) := Lib.hid (KQ0.out.past LB.out (by decide) hfar0)
          skip
          have KF0z : Hid (KG w ((w114.setCell ⟨w.heap.size + 1, 1, none⟩ (.slice a2 rn c2)).setCell ⟨w.heap.size + 1, 2, none⟩ (.bool la)) (.slice fa ps.length fc) ps) := Lib.hid (KF0.out.past LB.out (by decide) hfar0)
          have QNz : Hid (KQR w ((w114.setCell ⟨w.heap.size + 1, 1, none⟩ (.slice a2 rn c2)).setCell ⟨w.heap.size + 1, 2, none⟩ (.bool la)) (.slice a2 rn c2) r) := Lib.hid (QN.out.past LB.out (by decide) hfar0)
          have HBz : Hid (Below w.heap.size w ((w114.setCell ⟨w.heap.size + 1, 1, none⟩ (.slice a2 rn c2)).setCell ⟨w.heap.size + 1, 2, none⟩ (.bool la))) := Lib.hid ((HB.out.setCell hle1 _).setCell hle1 _)
          clear CB LB RB XF XQ KQ0 KF0 QN HB hfar0
          generalize (w114.setCell ⟨w.heap.size + 1, 1, none⟩ (.slice a2 rn c2)).setCell ⟨w.heap.size + 1, 2, none⟩ (.bool la) = w115 at CBz LBz RBz XFz XQz KQ0z KF0z QNz HBz ⊢
          have CB := CBz
          have LB := LBz
          have RB := RBz
          have XF := XFz
          have XQ := XQz
          have KQ0 := KQ0z
          have KF0 := KF0z
          have QN := QNz
          have HB := HBz
          clear CBz LBz RBz XFz XQz KQ0z KF0z QNz HBz
          clear XQ
          obtain ⟨⟨XFc0, XFc1, XFc2, XFc3, XFc4, XFc5, XFc6, XFc7, XFc8, XFc9⟩, ⟨XFf0, XFf1, XFf2, XFf3, XFf4, XFf5, XFf6, XFf7, XFf8, XFf9⟩⟩ := blk10 XF.out
          have b116 := bl_newZ w115 (.cells #[.int .i64 1, .int .i64 seq, .bool xo, .string ⟨xc.toArray⟩, .int .i64 xa, .int .i64 xb, .int .i64 xd, .string ⟨xs.toArray⟩, .int .u64 0, .slice none 0 0] 60)
          have XA := newQ w115 (.cells #[.int .i64 1, .int .i64 seq, .bool xo, .string ⟨xc.toArray⟩, .int .i64 xa, .int .i64 xb, .int .i64 xd, .string ⟨xs.toArray⟩, .int .u64 0, .slice none 0 0] 60)
          have hXA : w.heap.size ≤ w115.heap.size := HB.out.size
          replace CB := Lib.hid (upQ CB.out b116)
          replace LB := Lib.hid (upQ LB.out b116)
          replace RB := Lib.hid (upQ RB.out b116)
          replace XF := Lib.hid (upQ XF.out b116)
          replace KQ0 := Lib.hid (KQR.later KQ0.out b116)
          replace KF0 := Lib.hid (KG.later KF0.out b116)
          replace QN := Lib.hid (KQR.later QN.out b116)
          replace HB := Lib.hid (below2Z HB.out b116)
          clear b116
          replace XA := Lib.hid XA
          have SRC := srcS_new (vals := frVals) (w := w115) (r := (⟨⟨1, seq, xo, xc, ⟨xa, xb, xd, xs⟩, 0, []⟩, none, 0, 0⟩ : FrS)) (cs := #[.int .i64 1, .int .i64 seq, .bool xo, .string ⟨xc.toArray⟩, .int .i64 xa, .int .i64 xb, .int .i64 xd, .string ⟨xs.toArray⟩, .int .u64 0, .slice none 0 0]) rfl (e := 60) (B := w115.heap.size) rfl _ rfl
          have KTP : KTR w (w115.alloc (.cells #[.int .i64 1, .int .i64 seq, .bool xo, .string ⟨xc.toArray⟩, .int .i64 xa, .int .i64 xb, .int .i64 xd, .string ⟨xs.toArray⟩, .int .u64 0, .slice none 0 0] 60)) (⟨⟨1, seq, xo, xc, ⟨xa, xb, xd, xs⟩, 0, []⟩, none, 0, 0⟩ : FrS) := ktr_none _ _ _ rfl
          go_wp2_with (at_builtin; go_must (refine wpList_append_fr rfl (.tmp 110) (.tmp 112) rfl w.heap.size _ ps rfl (by exact KF0.out.1) ⟨w115.heap.size, 0, none⟩ (⟨⟨1, seq, xo, xc, ⟨xa, xb, xd, xs⟩, 0, []⟩, none, 0, 0⟩ : FrS) rfl SRC (by omega) HB.out.size ?_))
          intro fv w117 ho hbl hfar
          have CBz := Lib.hid (blk_app CB.out KF0.out.1 (by decide) hfar)
          have LBz := Lib.hid (blk_app LB.out KF0.out.1 (by decide) hfar)
          have RBz := Lib.hid (blk_app RB.out KF0.out.1 (by decide) hfar)
          have KQ0z := Lib.hid (KQ0.out.app KF0.out.1 hfar)
          have KF0z := Lib.hid (KF0.out.more KTP ho hfar)
          have HBz := Lib.hid (HB.out.trans hbl)
          have QNz := Lib.hid (QN.out.app KF0.out.1 hfar)
          clear XFc0 XFc1 XFc2 XFc3 XFc4 XFc5 XFc6 XFc7 XFc8 XFc9 XFf0 XFf1 XFf2 XFf3 XFf4 XFf5 XFf6 XFf7 XFf8 XFf9 CB LB RB KQ0 KF0 HB QN XF XA SRC KTP ho hbl hfar HBr KFr hxfr
          have CB := CBz
          have LB := LBz
          have RB := RBz
          have KQ0 := KQ0z
          have KF0 := KF0z
          have HB := HBz
          have QN := QNz
          clear CBz LBz RBz KQ0z KF0z HBz QNz
          obtain ⟨fa2, fc2, rfl⟩ := kg_shape KF0.out
          clear KQ0
          have KQ0 := QN
          clear QN
          obtain ⟨⟨LBc0, LBc1, LBc2, LBc3, LBc4, LBc5, LBc6⟩, ⟨LBf0, LBf1, LBf2, LBf3, LBf4, LBf5, LBf6⟩⟩ := blk7 LB.out
          go_wp2_with fail
          clear LBc0 LBc1 LBc2 LBc3 LBc4 LBc5 LBc6 LBf0 LBf1 LBf2 LBf3 LBf4 LBf5 LBf6
          have hfar0 : ∀ k, ¬ k = w.heap.size + 1 → (w117.setCell ⟨w.heap.size + 1, 0, none⟩ (.int .i64 (seq + 1))).heap[k]? = w117.heap[k]? := fun k hk => by rw [Below.heap_setCell _ _ _ k hk]
          have CBz : Hid ((w117.setCell ⟨w.heap.size + 1, 0, none⟩ (.int .i64 (seq + 1))).heap[w.heap.size]? = some (.cells #[.int .i64 ca, .int .i64 cb, .int .i64 cd, .int .i64 ce] 23 (0, 0))) := Lib.hid ((hfar0 (w.heap.size) (blk_ne CB.out LB.out (by decide))).trans CB.out)
          have LBz : Hid ((w117.setCell ⟨w.heap.size + 1, 0, none⟩ (.int .i64 (seq + 1))).heap[w.heap.size + 1]? = some (.cells #[.int .i64 (seq + 1), .slice a2 rn c2, .bool la, .int .i64 bx, .int .i64 bt, .bool false, .int .i64 dg] 30 (0, 0))) := Lib.hid (heap_setCell_same _ (w.heap.size + 1) 0 _ _ (.int .i64 (seq + 1)) LB.out)
          have RBz : Hid ((w117.setCell ⟨w.heap.size + 1, 0, none⟩ (.int .i64 (seq + 1))).heap[w.heap.size + 1 + 1]? = some (.cells #[.int .i64 0, .slice none 0 0, .bool false, .int .i64 0, .int .i64 0, .bool false, .int .i64 0] 30 (0, 0))) := Lib.hid ((hfar0 (w.heap.size + 1 + 1) (by omega)).trans RB.out)
          have KQ0z : Hid (KQR w (w117.setCell ⟨w.heap.size + 1, 0, none⟩ (.int .i64 (seq + 1))) (.slice a2 rn c2) r) := Lib.hid (KQ0.out.past LB.out (by decide) hfar0)
          have KF0z : Hid (KG w (w117.setCell ⟨w.heap.size + 1, 0, none⟩ (.int .i64 (seq + 1))) (.slice fa2 (ps ++ [(⟨⟨1, seq, xo, xc, ⟨xa, xb, xd, xs⟩, 0, []⟩, none, 0, 0⟩ : FrS)]).length fc2) (ps ++ [(⟨⟨1, seq, xo, xc, ⟨xa, xb, xd, xs⟩, 0, []⟩, none, 0, 0⟩ : FrS)])) := Lib.hid (KF0.out.past LB.out (by decide) hfar0)
          have HBz : Hid (Below w.heap.size w (w117.setCell ⟨w.heap.size + 1, 0, none⟩ (.int .i64 (seq + 1)))) := Lib.hid (HB.out.setCell hle1 _)
          clear CB LB RB KQ0 KF0 HB hfar0
          have CB := CBz
          have LB := LBz
          have RB := RBz
          have KQ0 := KQ0z
          have KF0 := KF0z
          have HB := HBz
          clear CBz LBz RBz KQ0z KF0z HBz
          go_roundw
          case rel => exact ⟨seq + 1, bx, bt, dg, false, la, r, a2, rn, c2, ps ++ [(⟨⟨1, seq, xo, xc, ⟨xa, xb, xd, xs⟩, 0, []⟩, none, 0, 0⟩ : FrS)], fa2, fc2, n - 1, rfl, Lib.hid (by rw [List.map_append]; exact HE2.out), CB, LB, RB, KQ0, KF0, HB⟩
          case measure => simp [slLen]; omega
      case nil =>
        obtain rfl : qn = 0 := HQN.out.symm
        by_cases hdue : now - dg < ce
        case neg =>
          have HDUE : Hid (ce ≤ now - dg) := Lib.hid (Int.not_lt.1 hdue)
          have t2 : decide (ce ≤ now - dg) = true := by simp; omega
          clear hdue
          obtain ⟨⟨CBc0, CBc1, CBc2, CBc3⟩, ⟨CBf0, CBf1, CBf2, CBf3⟩⟩ := blk4 CB.out
          obtain ⟨⟨LBc0, LBc1, LBc2, LBc3, LBc4, LBc5, LBc6⟩, ⟨LBf0, LBf1, LBf2, LBf3, LBf4, LBf5, LBf6⟩⟩ := blk7 LB.out
          go_wp2_with fail
          clear CBc0 CBc1 CBc2 CBc3 CBf0 CBf1 CBf2 CBf3 LBc0 LBc1 LBc2 LBc3 LBc4 LBc5 LBc6 LBf0 LBf1 LBf2 LBf3 LBf4 LBf5 LBf6 t1
          refine (rptake_any ca cb cd ce tok at' now HP _).mono ?_
          rintro e w101 ⟨rfl, b101⟩
          replace CB := Lib.hid (upQ CB.out b101)
          replace LB := Lib.hid (upQ LB.out b101)
          replace RB := Lib.hid (upQ RB.out b101)
          replace KQ0 := Lib.hid (KQR.later KQ0.out b101)
          replace KF0 := Lib.hid (KG.later KF0.out b101)
          replace HB := Lib.hid (below2Z HB.out b101)
          clear b101
          cases is with
          | false =>
            have b152 := bl_newZ w101 (.cells #[.int .i64 bx, .int .i64 bt] 28)
            have XB := newQ w101 (.cells #[.int .i64 bx, .int .i64 bt] 28)
            have hXB : w.heap.size ≤ w101.heap.size := HB.out.size
            replace CB := Lib.hid (upQ CB.out b152)
            replace LB := Lib.hid (upQ LB.out b152)
            replace RB := Lib.hid (upQ RB.out b152)
            replace KQ0 := Lib.hid (KQR.later KQ0.out b152)
            replace KF0 := Lib.hid (KG.later KF0.out b152)
            replace HB := Lib.hid (below2Z HB.out b152)
            clear b152
            replace XB := Lib.hid XB
            go_upto_region 28 with fail
            generalize w101.alloc (.cells #[.int .i64 bx, .int .i64 bt] 28) = w153 at CB LB RB XB KQ0 KF0 HB ⊢
            have hend := emp_end HE.out (stp_tok HP.out)
            rw [HR.out] at hend
            simp only [Prod.mk.injEq] at hend
            obtain ⟨rfl, rfl⟩ := hend
            clear HE HR
            obtain ⟨⟨LBc0, LBc1, LBc2, LBc3, LBc4, LBc5, LBc6⟩, ⟨LBf0, LBf1, LBf2, LBf3, LBf4, LBf5, LBf6⟩⟩ := blk7 LB.out
            obtain ⟨⟨RBc0, RBc1, RBc2, RBc3, RBc4, RBc5, RBc6⟩, ⟨RBf0, RBf1, RBf2, RBf3, RBf4, RBf5, RBf6⟩⟩ := blk7 RB.out
            go_wp2_with fail
            have hz := stN7_heap RB.out (.int .i64 seq) (.slice qa 0 qc) (.bool la) (.int .i64 tok) (.int .i64 at') (.bool false) (.int .i64 dg)
            have KQz := KQ0.out.past RB.out (by decide) (fun k hk => stN7_far w153 (w.heap.size + 1 + 1) (.int .i64 seq) (.slice qa 0 qc) (.bool la) (.int .i64 tok) (.int .i64 at') (.bool false) (.int .i64 dg) hk)
            have KFz := KF0.out.past RB.out (by decide) (fun k hk => stN7_far w153 (w.heap.size + 1 + 1) (.int .i64 seq) (.slice qa 0 qc) (.bool la) (.int .i64 tok) (.int .i64 at') (.bool false) (.int .i64 dg) hk)
            have HBz := stN7_below HB.out hle2 (.int .i64 seq) (.slice qa 0 qc) (.bool la) (.int .i64 tok) (.int .i64 at') (.bool false) (.int .i64 dg)
            obtain ⟨⟨z0, z1, z2, z3, z4, z5, z6⟩, -⟩ := blk7 hz
            unfold stN7 at z0 z1 z2 z3 z4 z5 z6
            refine bodyPost_ret (v := .tuple #[.agg #[.int .i64 seq, .slice qa 0 qc, .bool la, .int .i64 tok, .int .i64 at', .bool false, .int .i64 dg], .slice fa ps.length fc]) (by simp [results, Tryz.results24, go_sem, z0, z1, z2, z3, z4, z5, z6]) rfl ⟨_, _, ps, rfl, KQz.chgs HBz, KFz, rfl, HBz⟩
          | true =>
            obtain ⟨he2, hpl⟩ := emp_step HE.out h2.out h3.out (stp_g hsq (Int.not_lt.2 HDUE.out) HP.out)
            rw [List.length_map] at hpl
            have HE2 := Lib.hid he2
            clear he2 HE HP HBr KFr
            have b102 := bl_newZ w101 (.cells #[.int .i64 bx, .int .i64 bt] 28)
            have XB := newQ w101 (.cells #[.int .i64 bx, .int .i64 bt] 28)
            have hXB : w.heap.size ≤ w101.heap.size := HB.out.size
            replace CB := Lib.hid (upQ CB.out b102)
            replace LB := Lib.hid (upQ LB.out b102)
            replace RB := Lib.hid (upQ RB.out b102)
            replace KQ0 := Lib.hid (KQR.later KQ0.out b102)
            replace KF0 := Lib.hid (KG.later KF0.out b102)
            replace HB := Lib.hid (below2Z HB.out b102)
            clear b102
            replace XB := Lib.hid XB
            go_upto_region 9 with fail
            generalize w101.alloc (.cells #[.int .i64 bx, .int .i64 bt] 28) = w103 at CB LB RB XB KQ0 KF0 HB ⊢
            have hlb := (Array.getElem?_eq_some_iff.1 LB.out).1
            have hrb := (Array.getElem?_eq_some_iff.1 RB.out).1
            obtain ⟨⟨XBc0, XBc1⟩, ⟨XBf0, XBf1⟩⟩ := blk2 XB.out
            obtain ⟨⟨LBc0, LBc1, LBc2, LBc3, LBc4, LBc5, LBc6⟩, ⟨LBf0, LBf1, LBf2, LBf3, LBf4, LBf5, LBf6⟩⟩ := blk7 LB.out
            go_upto_region 10 with fail
            clear XBc0 XBc1 XBf0 XBf1 LBc0 LBc1 LBc2 LBc3 LBc4 LBc5 LBc6 LBf0 LBf1 LBf2 LBf3 LBf4 LBf5 LBf6 hlb hrb
            have hfar0 : ∀ k, ¬ k = w.heap.size + 1 → ((w103.setCell ⟨w.heap.size + 1, 3, none⟩ (.int .i64 bx)).setCell ⟨w.heap.size + 1, 4, none⟩ (.int .i64 bt)).heap[k]? = w103.heap[k]? := fun k hk => by rw [Below.heap_setCell _ _ _ k hk, Below.heap_setCell _ _ _ k hk]
            have CBz : Hid (((w103.setCell ⟨w.heap.size + 1, 3, none⟩ (.int .i64 bx)).setCell ⟨w.heap.size + 1, 4, none⟩ (.int .i64 bt)).heap[w.heap.size]? = some (.cells #[.int .i64 ca, .int .i64 cb, .int .i64 cd, .int .i64 ce] 23 (0, 0))) := Lib.hid ((hfar0 (w.heap.size) (blk_ne CB.out LB.out (by decide))).trans CB.out)
            have LBz : Hid (((w103.setCell ⟨w.heap.size + 1, 3, none⟩ (.int .i64 bx)).setCell ⟨w.heap.size + 1, 4, none⟩ (.int .i64 bt)).heap[w.heap.size + 1]? = some (.cells #[.int .i64 seq, .slice qa 0 qc, .bool la, .int .i64 bx, .int .i64 bt, .bool false, .int .i64 dg] 30 (0, 0))) := Lib.hid (heap_setCell_same _ (w.heap.size + 1) 4 _ _ (.int .i64 bt) (heap_setCell_same _ (w.heap.size + 1) 3 _ _ (.int .i64 bx) LB.out))
            have RBz : Hid (((w103.setCell ⟨w.heap.size + 1, 3, none⟩ (.int .i64 bx)).setCell ⟨w.heap.size + 1, 4, none⟩ (.int .i64 bt)).heap[w.heap.size + 1 + 1]? = some (.cells #[.int .i64 0, .slice none 0 0, .bool false, .int .i64 0, .int .i64 0, .bool false, .int .i64 0] 30 (0, 0))) := Lib.hid ((hfar0 (w.heap.size + 1 + 1) (by omega)).trans RB.out)
            have XBz : Hid (((w103.setCell ⟨w.heap.size + 1, 3, none⟩ (.int .i64 bx)).setCell ⟨w.heap.size + 1, 4, none⟩ (.int .i64 bt)).heap[w101.heap.size]? = some (.cells #[.int .i64 bx, .int .i64 bt] 28 (0, 0))) := Lib.hid ((hfar0 (w101.heap.size) (blk_ne XB.out LB.out (by decide))).trans XB.out)
            have KQ0z : Hid (KQR w ((w103.setCell ⟨w.heap.size + 1, 3, none⟩ (.int .i64 bx)).setCell ⟨w.heap.size + 1, 4, none⟩ (.int .i64 bt)) (.slice qa 0 qc) []) := Lib.hid (KQ0.out.past LB.out (by decide) hfar0)
            have KF0z : Hid (KG w ((w103.setCell ⟨w.heap.size + 1, 3, none⟩ (.int .i64 bx)).setCell ⟨w.heap.size + 1, 4, none⟩ (.int .i64 bt)) (.slice fa ps.length fc) ps) := Lib.hid (KF0.out.past LB.out (by decide) hfar0)
            have HBz : Hid (Below w.heap.size w ((w103.setCell ⟨w.heap.size + 1, 3, none⟩ (.int .i64 bx)).setCell ⟨w.heap.size + 1, 4, none⟩ (.int .i64 bt))) := Lib.hid ((HB.out.setCell hle1 _).setCell hle1 _)
            clear CB LB RB XB KQ0 KF0 HB hfar0
            generalize (w103.setCell ⟨w.heap.size + 1, 3, none⟩ (.int .i64 bx)).setCell ⟨w.heap.size + 1, 4, none⟩ (.int .i64 bt) = w104 at CBz LBz RBz XBz KQ0z KF0z HBz ⊢
            have CB := CBz
            have LB := LBz
            have RB := RBz
            have XB := XBz
            have KQ0 := KQ0z
            have KF0 := KF0z
            have HB := HBz
            clear CBz LBz RBz XBz KQ0z KF0z HBz
            clear XB
            have HBr := Lib.hid (Below.refl w104.heap.size w104)
            have KFr := KF0
            have hxfr := HBr.out.size
            have hlb := (Array.getElem?_eq_some_iff.1 LB.out).1
            have hrb := (Array.getElem?_eq_some_iff.1 RB.out).1
            obtain ⟨⟨LBc0, LBc1, LBc2, LBc3, LBc4, LBc5, LBc6⟩, ⟨LBf0, LBf1, LBf2, LBf3, LBf4, LBf5, LBf6⟩⟩ := blk7 LB.out
            have b105 := bl_newZ w104 (.cells #[.int .i64 0, .int .i64 seq, .bool false, .string ⟨#[]⟩, .int .i64 0, .int .i64 0, .int .i64 0, .string ⟨#[]⟩, .int .u64 0, .slice none 0 0] 60)
            have XF := newQ w104 (.cells #[.int .i64 0, .int .i64 seq, .bool false, .string ⟨#[]⟩, .int .i64 0, .int .i64 0, .int .i64 0, .string ⟨#[]⟩, .int .u64 0, .slice none 0 0] 60)
            have hXF : w.heap.size ≤ w104.heap.size := HB.out.size
            replace CB := Lib.hid (upQ CB.out b105)
            replace LB := Lib.hid (upQ LB.out b105)
            replace RB := Lib.hid (upQ RB.out b105)
            replace KQ0 := Lib.hid (KQR.later KQ0.out b105)
            replace HBr := Lib.hid (below2Z HBr.out b105)
            replace KF0 := Lib.hid (KG.later KF0.out b105)
            replace HB := Lib.hid (below2Z HB.out b105)
            clear b105
            replace XF := Lib.hid XF
            go_upto_region 11 with fail
            clear LBc0 LBc1 LBc2 LBc3 LBc4 LBc5 LBc6 LBf0 LBf1 LBf2 LBf3 LBf4 LBf5 LBf6
            generalize w104.alloc (.cells #[.int .i64 0, .int .i64 seq, .bool false, .string ⟨#[]⟩, .int .i64 0, .int .i64 0, .int .i64 0, .string ⟨#[]⟩, .int .u64 0, .slice none 0 0] 60) = w106 at CB LB RB XF KQ0 HBr KF0 HB ⊢
            obtain ⟨⟨LBc0, LBc1, LBc2, LBc3, LBc4, LBc5, LBc6⟩, ⟨LBf0, LBf1, LBf2, LBf3, LBf4, LBf5, LBf6⟩⟩ := blk7 LB.out
            obtain ⟨⟨XFc0, XFc1, XFc2, XFc3, XFc4, XFc5, XFc6, XFc7, XFc8, XFc9⟩, ⟨XFf0, XFf1, XFf2, XFf3, XFf4, XFf5, XFf6, XFf7, XFf8, XFf9⟩⟩ := blk10 XF.out
            go_upto_region 24 with fail
            clear LBc0 LBc1 LBc2 LBc3 LBc4 LBc5 LBc6 LBf0 LBf1 LBf2 LBf3 LBf4 LBf5 LBf6 XFc0 XFc1 XFc2 XFc3 XFc4 XFc5 XFc6 XFc7 XFc8 XFc9 XFf0 XFf1 XFf2 XFf3 XFf4 XFf5 XFf6 XFf7 XFf8 XFf9
            have hfar0 : ∀ k, ¬ k = w104.heap.size → (w106.setCell ⟨w104.heap.size, 0, none⟩ (.int .i64 2)).heap[k]? = w106.heap[k]? := fun k hk => by rw [Below.heap_setCell _ _ _ k hk]
            have CBz : Hid ((w106.setCell ⟨w104.heap.size, 0, none⟩ (.int .i64 2)).heap[w.heap.size]? = some (.cells #[.int .i64 ca, .int .i64 cb, .int .i64 cd, .int .i64 ce] 23 (0, 0))) := Lib.hid ((hfar0 (w.heap.size) (blk_ne CB.out XF.out (by decide))).trans CB.out)
            have LBz : Hid ((w106.setCell ⟨w104.heap.size, 0, none⟩ (.int .i64 2)).heap[w.heap.size + 1]? = some (.cells #[.int .i64 seq, .slice qa 0 qc, .bool la, .int .i64 bx, .int .i64 bt, .bool false, .int .i64 dg] 30 (0, 0))) := Lib.hid ((hfar0 (w.heap.size + 1) (blk_ne LB.out XF.out (by decide))).trans LB.out)
            have RBz : Hid ((w106.setCell ⟨w104.heap.size, 0, none⟩ (.int .i64 2)).heap[w.heap.size + 1 + 1]? = some (.cells #[.int .i64 0, .slice none 0 0, .bool false, .int .i64 0, .int .i64 0, .bool false, .int .i64 0] 30 (0, 0))) := Lib.hid ((hfar0 (w.heap.size + 1 + 1) (blk_ne RB.out XF.out (by decide))).trans RB.out)
            have XFz : Hid ((w106.setCell ⟨w104.heap.size, 0, none⟩ (.int .i64 2)).heap[w104.heap.size]? = some (.cells #[.int .i64 2, .int .i64 seq, .bool false, .string ⟨#[]⟩, .int .i64 0, .int .i64 0, .int .i64 0, .string ⟨#[]⟩, .int .u64 0, .slice none 0 0] 60 (0, 0))) := Lib.hid (heap_setCell_same _ (w104.heap.size) 0 _ _ (.int .i64 2) XF.out)
            have KQ0z : Hid (KQR w (w106.setCell ⟨w104.heap.size, 0, none⟩ (.int .i64 2)) (.slice qa 0 qc) []) := Lib.hid (KQ0.out.past XF.out (by decide) hfar0)
            have HBrz : Hid (Below w104.heap.size w104 (w106.setCell ⟨w104.heap.size, 0, none⟩ (.int .i64 2))) := Lib.hid (HBr.out.setCell hxfr _)
            have KF0z : Hid (KG w (w106.setCell ⟨w104.heap.size, 0, none⟩ (.int .i64 2)) (.slice fa ps.length fc) ps) := Lib.hid (KFr.out.later HBrz.out)
            have HBz : Hid (Below w.heap.size w (w106.setCell ⟨w104.heap.size, 0, none⟩ (.int .i64 2))) := Lib.hid (HB.out.setCell hXF _)
            clear CB LB RB XF KQ0 HBr KF0 HB hfar0
            generalize w106.setCell ⟨w104.heap.size, 0, none⟩ (.int .i64 2) = w107 at CBz LBz RBz XFz KQ0z HBrz KF0z HBz ⊢
            have CB := CBz
            have LB := LBz
            have RB := RBz
            have XF := XFz
            have KQ0 := KQ0z
            have HBr := HBrz
            have KF0 := KF0z
            have HB := HBz
            clear CBz LBz RBz XFz KQ0z HBrz KF0z HBz
            go_wp2_with fail
            refine (rdisum_any (HT.out _ HB.out) HH.out).mono ?_
            rintro e w108 ⟨rfl, b108⟩
            replace CB := Lib.hid (upQ CB.out b108)
            replace LB := Lib.hid (upQ LB.out b108)
            replace RB := Lib.hid (upQ RB.out b108)
            replace XF := Lib.hid (upQ XF.out b108)
            replace KQ0 := Lib.hid (KQR.later KQ0.out b108)
            replace HBr := Lib.hid (below2Z HBr.out b108)
            replace KF0 := Lib.hid (KG.later KF0.out b108)
            replace HB := Lib.hid (below2Z HB.out b108)
            clear b108
            obtain ⟨⟨XFc0, XFc1, XFc2, XFc3, XFc4, XFc5, XFc6, XFc7, XFc8, XFc9⟩, ⟨XFf0, XFf1, XFf2, XFf3, XFf4, XFf5, XFf6, XFf7, XFf8, XFf9⟩⟩ := blk10 XF.out
            go_upto_region 25 with fail
            clear XFc0 XFc1 XFc2 XFc3 XFc4 XFc5 XFc6 XFc7 XFc8 XFc9 XFf0 XFf1 XFf2 XFf3 XFf4 XFf5 XFf6 XFf7 XFf8 XFf9
            have hfar0 : ∀ k, ¬ k = w104.heap.size → (w108.setCell ⟨w104.heap.size, 8, none⟩ (.int .u64 (diSum view))).heap[k]? = w108.heap[k]? := fun k hk => by rw [Below.heap_setCell _ _ _ k hk]
            have CBz : Hid ((w108.setCell ⟨w104.heap.size, 8, none⟩ (.int .u64 (diSum view))).heap[w.heap.size]? = some (.cells #[.int .i64 ca, .int .i64 cb, .int .i64 cd, .int .i64 ce] 23 (0, 0))) := Lib.hid ((hfar0 (w.heap.size) (blk_ne CB.out XF.out (by decide))).trans CB.out)
            have LBz : Hid ((w108.setCell ⟨w104.heap.size, 8, none⟩ (.int .u64 (diSum view))).heap[w.heap.size + 1]? = some (.cells #[.int .i64 seq, .slice qa 0 qc, .bool la, .int .i64 bx, .int .i64 bt, .bool false, .int .i64 dg] 30 (0, 0))) := Lib.hid ((hfar0 (w.heap.size + 1) (blk_ne LB.out XF.out (by decide))).trans LB.out)
            have RBz : Hid ((w108.setCell ⟨w104.heap.size, 8, none⟩ (.int .u64 (diSum view))).heap[w.heap.size + 1 + 1]? = some (.cells #[.int .i64 0, .slice none 0 0, .bool false, .int .i64 0, .int .i64 0, .bool false, .int .i64 0] 30 (0, 0))) := Lib.hid ((hfar0 (w.heap.size + 1 + 1) (blk_ne RB.out XF.out (by decide))).trans RB.out)
            have XFz : Hid ((w108.setCell ⟨w104.heap.size, 8, none⟩ (.int .u64 (diSum view))).heap[w104.heap.size]? = some (.cells #[.int .i64 2, .int .i64 seq, .bool false, .string ⟨#[]⟩, .int .i64 0, .int .i64 0, .int .i64 0, .string ⟨#[]⟩, .int .u64 (diSum view), .slice none 0 0] 60 (0, 0))) := Lib.hid (heap_setCell_same _ (w104.heap.size) 8 _ _ (.int .u64 (diSum view)) XF.out)
            have KQ0z : Hid (KQR w (w108.setCell ⟨w104.heap.size, 8, none⟩ (.int .u64 (diSum view))) (.slice qa 0 qc) []) := Lib.hid (KQ0.out.past XF.out (by decide) hfar0)
            have HBrz : Hid (Below w104.heap.size w104 (w108.setCell ⟨w104.heap.size, 8, none⟩ (.int .u64 (diSum view)))) := Lib.hid (HBr.out.setCell hxfr _)
            have KF0z : Hid (KG w (w108.setCell ⟨w104.heap.size, 8, none⟩ (.int .u64 (diSum view))) (.slice fa ps.length fc) ps) := Lib.hid (KFr.out.later HBrz.out)
            have HBz : Hid (Below w.heap.size w (w108.setCell ⟨w104.heap.size, 8, none⟩ (.int .u64 (diSum view)))) := Lib.hid (HB.out.setCell hXF _)
            clear CB LB RB XF KQ0 HBr KF0 HB hfar0
            generalize w108.setCell ⟨w104.heap.size, 8, none⟩ (.int .u64 (diSum view)) = w109 at CBz LBz RBz XFz KQ0z HBrz KF0z HBz ⊢
            have CB := CBz
            have LB := LBz
            have RB := RBz
            have XF := XFz
            have KQ0 := KQ0z
            have HBr := HBrz
            have KF0 := KF0z
            have HB := HBz
            clear CBz LBz RBz XFz KQ0z HBrz KF0z HBz
            obtain ⟨⟨LBc0, LBc1, LBc2, LBc3, LBc4, LBc5, LBc6⟩, ⟨LBf0, LBf1, LBf2, LBf3, LBf4, LBf5, LBf6⟩⟩ := blk7 LB.out
            go_upto_region 26 with fail
            clear LBc0 LBc1 LBc2 LBc3 LBc4 LBc5 LBc6 LBf0 LBf1 LBf2 LBf3 LBf4 LBf5 LBf6
            have hfar0 : ∀ k, ¬ k = w.heap.size + 1 → (w109.setCell ⟨w.heap.size + 1, 6, none⟩ (.int .i64 now)).heap[k]? = w109.heap[k]? := fun k hk => by rw [Below.heap_setCell _ _ _ k hk]
            have CBz : Hid ((w109.setCell ⟨w.heap.size + 1, 6, none⟩ (.int .i64 now)).heap[w.heap.size]? = some (.cells #[.int .i64 ca, .int .i64 cb, .int .i64 cd, .int .i64 ce] 23 (0, 0))) := Lib.hid ((hfar0 (w.heap.size) (blk_ne CB.out LB.out (by decide))).trans CB.out)
            have LBz : Hid ((w109.setCell ⟨w.heap.size + 1, 6, none⟩ (.int .i64 now)).heap[w.heap.size + 1]? = some (.cells #[.int .i64 seq, .slice qa 0 qc, .bool la, .int .i64 bx, .int .i64 bt, .bool false, .int .i64 now] 30 (0, 0))) := Lib.hid (heap_setCell_same _ (w.heap.size + 1) 6 _ _ (.int .i64 now) LB.out)
            have RBz : Hid ((w109.setCell ⟨w.heap.size + 1, 6, none⟩ (.int .i64 now)).heap[w.heap.size + 1 + 1]? = some (.cells #[.int .i64 0, .slice none 0 0, .bool false, .int .i64 0, .int .i64 0, .bool false, .int .i64 0] 30 (0, 0))) := Lib.hid ((hfar0 (w.heap.size + 1 + 1) (by omega)).trans RB.out)
            have XFz : Hid ((w109.setCell ⟨w.heap.size + 1, 6, none⟩ (.int .i64 now)).heap[w104.heap.size]? = some (.cells #[.int .i64 2, .int .i64 seq, .bool false, .string ⟨#[]⟩, .int .i64 0, .int .i64 0, .int .i64 0, .string ⟨#[]⟩, .int .u64 (diSum view), .slice none 0 0] 60 (0, 0))) := Lib.hid ((hfar0 (w104.heap.size) (blk_ne XF.out LB.out (by decide))).trans XF.out)
            have KQ0z : Hid (KQR w (w109.setCell ⟨w.heap.size + 1, 6, none⟩ (.int .i64 now)) (.slice qa 0 qc) []) := Lib.hid (KQ0.out.past LB.out (by decide) hfar0)
            skip
            have KF0z : Hid (KG w (w109.setCell ⟨w.heap.size + 1, 6, none⟩ (.int .i64 now)) (.slice fa ps.length fc) ps) := Lib.hid (KF0.out.past LB.out (by decide) hfar0)
            have HBz : Hid (Below w.heap.size w (w109.setCell ⟨w.heap.size + 1, 6, none⟩ (.int .i64 now))) := Lib.hid (HB.out.setCell hle1 _)
            clear CB LB RB XF KQ0 KF0 HB hfar0
            generalize w109.setCell ⟨w.heap.size + 1, 6, none⟩ (.int .i64 now) = w110 at CBz LBz RBz XFz KQ0z KF0z HBz ⊢
            have CB := CBz
            have LB := LBz
            have RB := RBz
            have XF := XFz
            have KQ0 := KQ0z
            have KF0 := KF0z
            have HB := HBz
            clear CBz LBz RBz XFz KQ0z KF0z HBz
            obtain ⟨⟨XFc0, XFc1, XFc2, XFc3, XFc4, XFc5, XFc6, XFc7, XFc8, XFc9⟩, ⟨XFf0, XFf1, XFf2, XFf3, XFf4, XFf5, XFf6, XFf7, XFf8, XFf9⟩⟩ := blk10 XF.out
            have b111 := bl_newZ w110 (.cells #[.int .i64 2, .int .i64 seq, .bool false, .string ⟨#[]⟩, .int .i64 0, .int .i64 0, .int .i64 0, .string ⟨#[]⟩, .int .u64 (diSum view), .slice none 0 0] 60)
            have XA := newQ w110 (.cells #[.int .i64 2, .int .i64 seq, .bool false, .string ⟨#[]⟩, .int .i64 0, .int .i64 0, .int .i64 0, .string ⟨#[]⟩, .int .u64 (diSum view), .slice none 0 0] 60)
            have hXA : w.heap.size ≤ w110.heap.size := HB.out.size
            replace CB := Lib.hid (upQ CB.out b111)
            replace LB := Lib.hid (upQ LB.out b111)
            replace RB := Lib.hid (upQ RB.out b111)
            replace XF := Lib.hid (upQ XF.out b111)
            replace KQ0 := Lib.hid (KQR.later KQ0.out b111)
            replace KF0 := Lib.hid (KG.later KF0.out b111)
            replace HB := Lib.hid (below2Z HB.out b111)
            clear b111
            replace XA := Lib.hid XA
            have SRC := srcS_new (vals := frVals) (w := w110) (r := (⟨⟨2, seq, false, [], Val.zero, diSum view, []⟩, none, 0, 0⟩ : FrS)) (cs := #[.int .i64 2, .int .i64 seq, .bool false, .string ⟨#[]⟩, .int .i64 0, .int .i64 0, .int .i64 0, .string ⟨#[]⟩, .int .u64 (diSum view), .slice none 0 0]) rfl (e := 60) (B := w110.heap.size) rfl _ rfl
            have KTP : KTR w (w110.alloc (.cells #[.int .i64 2, .int .i64 seq, .bool false, .string ⟨#[]⟩, .int .i64 0, .int .i64 0, .int .i64 0, .string ⟨#[]⟩, .int .u64 (diSum view), .slice none 0 0] 60)) (⟨⟨2, seq, false, [], Val.zero, diSum view, []⟩, none, 0, 0⟩ : FrS) := ktr_none _ _ _ rfl
            go_wp2_with (at_builtin; go_must (refine wpList_append_fr rfl (.tmp 110) (.tmp 112) rfl w.heap.size _ ps rfl (by exact KF0.out.1) ⟨w110.heap.size, 0, none⟩ (⟨⟨2, seq, false, [], Val.zero, diSum view, []⟩, none, 0, 0⟩ : FrS) rfl SRC (by omega) HB.out.size ?_))
            intro fv w112 ho hbl hfar
            have CBz := Lib.hid (blk_app CB.out KF0.out.1 (by decide) hfar)
            have LBz := Lib.hid (blk_app LB.out KF0.out.1 (by decide) hfar)
            have RBz := Lib.hid (blk_app RB.out KF0.out.1 (by decide) hfar)
            have KQ0z := Lib.hid (KQ0.out.app KF0.out.1 hfar)
            have KF0z := Lib.hid (KF0.out.more KTP ho hfar)
            have HBz := Lib.hid (HB.out.trans hbl)
            clear XFc0 XFc1 XFc2 XFc3 XFc4 XFc5 XFc6 XFc7 XFc8 XFc9 XFf0 XFf1 XFf2 XFf3 XFf4 XFf5 XFf6 XFf7 XFf8 XFf9 CB LB RB KQ0 KF0 HB XF XA SRC KTP ho hbl hfar HBr KFr hxfr
            have CB := CBz
            have LB := LBz
            have RB := RBz
            have KQ0 := KQ0z
            have KF0 := KF0z
            have HB := HBz
            clear CBz LBz RBz KQ0z KF0z HBz
            obtain ⟨fa2, fc2, rfl⟩ := kg_shape KF0.out
            obtain ⟨⟨LBc0, LBc1, LBc2, LBc3, LBc4, LBc5, LBc6⟩, ⟨LBf0, LBf1, LBf2, LBf3, LBf4, LBf5, LBf6⟩⟩ := blk7 LB.out
            go_wp2_with fail
            clear LBc0 LBc1 LBc2 LBc3 LBc4 LBc5 LBc6 LBf0 LBf1 LBf2 LBf3 LBf4 LBf5 LBf6
            have hfar0 : ∀ k, ¬ k = w.heap.size + 1 → (w112.setCell ⟨w.heap.size + 1, 0, none⟩ (.int .i64 (seq + 1))).heap[k]? = w112.heap[k]? := fun k hk => by rw [Below.heap_setCell _ _ _ k hk]
            have CBz : Hid ((w112.setCell ⟨w.heap.size + 1, 0, none⟩ (.int .i64 (seq + 1))).heap[w.heap.size]? = some (.cells #[.int .i64 ca, .int .i64 cb, .int .i64 cd, .int .i64 ce] 23 (0, 0))) := Lib.hid ((hfar0 (w.heap.size) (blk_ne CB.out LB.out (by decide))).trans CB.out)
            have LBz : Hid ((w112.setCell ⟨w.heap.size + 1, 0, none⟩ (.int .i64 (seq + 1))).heap[w.heap.size + 1]? = some (.cells #[.int .i64 (seq + 1), .slice qa 0 qc, .bool la, .int .i64 bx, .int .i64 bt, .bool false, .int .i64 now] 30 (0, 0))) := Lib.hid (heap_setCell_same _ (w.heap.size + 1) 0 _ _ (.int .i64 (seq + 1)) LB.out)
            have RBz : Hid ((w112.setCell ⟨w.heap.size + 1, 0, none⟩ (.int .i64 (seq + 1))).heap[w.heap.size + 1 + 1]? = some (.cells #[.int .i64 0, .slice none 0 0, .bool false, .int .i64 0, .int .i64 0, .bool false, .int .i64 0] 30 (0, 0))) := Lib.hid ((hfar0 (w.heap.size + 1 + 1) (by omega)).trans RB.out)
            have KQ0z : Hid (KQR w (w112.setCell ⟨w.heap.size + 1, 0, none⟩ (.int .i64 (seq + 1))) (.slice qa 0 qc) []) := Lib.hid (KQ0.out.past LB.out (by decide) hfar0)
            have KF0z : Hid (KG w (w112.setCell ⟨w.heap.size + 1, 0, none⟩ (.int .i64 (seq + 1))) (.slice fa2 (ps ++ [(⟨⟨2, seq, false, [], Val.zero, diSum view, []⟩, none, 0, 0⟩ : FrS)]).length fc2) (ps ++ [(⟨⟨2, seq, false, [], Val.zero, diSum view, []⟩, none, 0, 0⟩ : FrS)])) := Lib.hid (KF0.out.past LB.out (by decide) hfar0)
            have HBz : Hid (Below w.heap.size w (w112.setCell ⟨w.heap.size + 1, 0, none⟩ (.int .i64 (seq + 1)))) := Lib.hid (HB.out.setCell hle1 _)
            clear CB LB RB KQ0 KF0 HB hfar0
            have CB := CBz
            have LB := LBz
            have RB := RBz
            have KQ0 := KQ0z
            have KF0 := KF0z
            have HB := HBz
            clear CBz LBz RBz KQ0z KF0z HBz
            go_roundw
            case rel => exact ⟨seq + 1, bx, bt, now, false, la, [], qa, 0, qc, ps ++ [(⟨⟨2, seq, false, [], Val.zero, diSum view, []⟩, none, 0, 0⟩ : FrS)], fa2, fc2, n - 1, rfl, Lib.hid (by rw [List.map_append]; exact HE2.out), CB, LB, RB, KQ0, KF0, HB⟩
            case measure => simp [slLen]; omega
        case pos =>
          have HDUE := Lib.hid hdue
          have t2 : decide (ce ≤ now - dg) = false := by simp; omega
          clear hdue
          obtain ⟨⟨CBc0, CBc1, CBc2, CBc3⟩, ⟨CBf0, CBf1, CBf2, CBf3⟩⟩ := blk4 CB.out
          obtain ⟨⟨LBc0, LBc1, LBc2, LBc3, LBc4, LBc5, LBc6⟩, ⟨LBf0, LBf1, LBf2, LBf3, LBf4, LBf5, LBf6⟩⟩ := blk7 LB.out
          obtain ⟨⟨RBc0, RBc1, RBc2, RBc3, RBc4, RBc5, RBc6⟩, ⟨RBf0, RBf1, RBf2, RBf3, RBf4, RBf5, RBf6⟩⟩ := blk7 RB.out
          go_upto_region 28 with fail
          clear CBc0 CBc1 CBc2 CBc3 CBf0 CBf1 CBf2 CBf3 LBc0 LBc1 LBc2 LBc3 LBc4 LBc5 LBc6 LBf0 LBf1 LBf2 LBf3 LBf4 LBf5 LBf6 RBc0 RBc1 RBc2 RBc3 RBc4 RBc5 RBc6 RBf0 RBf1 RBf2 RBf3 RBf4 RBf5 RBf6 t1
          have hend := emp_end HE.out (stp_n HDUE.out)
          rw [HR.out] at hend
          simp only [Prod.mk.injEq] at hend
          obtain ⟨rfl, rfl⟩ := hend
          clear HE HR
          obtain ⟨⟨LBc0, LBc1, LBc2, LBc3, LBc4, LBc5, LBc6⟩, ⟨LBf0, LBf1, LBf2, LBf3, LBf4, LBf5, LBf6⟩⟩ := blk7 LB.out
          obtain ⟨⟨RBc0, RBc1, RBc2, RBc3, RBc4, RBc5, RBc6⟩, ⟨RBf0, RBf1, RBf2, RBf3, RBf4, RBf5, RBf6⟩⟩ := blk7 RB.out
          go_wp2_with fail
          have hz := stN7_heap RB.out (.int .i64 seq) (.slice qa 0 qc) (.bool la) (.int .i64 tok) (.int .i64 at') (.bool false) (.int .i64 dg)
          have KQz := KQ0.out.past RB.out (by decide) (fun k hk => stN7_far wr (w.heap.size + 1 + 1) (.int .i64 seq) (.slice qa 0 qc) (.bool la) (.int .i64 tok) (.int .i64 at') (.bool false) (.int .i64 dg) hk)
          have KFz := KF0.out.past RB.out (by decide) (fun k hk => stN7_far wr (w.heap.size + 1 + 1) (.int .i64 seq) (.slice qa 0 qc) (.bool la) (.int .i64 tok) (.int .i64 at') (.bool false) (.int .i64 dg) hk)
          have HBz := stN7_below HB.out hle2 (.int .i64 seq) (.slice qa 0 qc) (.bool la) (.int .i64 tok) (.int .i64 at') (.bool false) (.int .i64 dg)
          obtain ⟨⟨z0, z1, z2, z3, z4, z5, z6⟩, -⟩ := blk7 hz
          unfold stN7 at z0 z1 z2 z3 z4 z5 z6
          refine bodyPost_ret (v := .tuple #[.agg #[.int .i64 seq, .slice qa 0 qc, .bool la, .int .i64 tok, .int .i64 at', .bool false, .int .i64 dg], .slice fa ps.length fc]) (by simp [results, Tryz.results24, go_sem, z0, z1, z2, z3, z4, z5, z6]) rfl ⟨_, _, ps, rfl, KQz.chgs HBz, KFz, rfl, HBz⟩

/-- P18.3. -/
theorem rlemit_any {w : World} {v vt : Value} {ql : List Chg} {view : List Row} (hv : Chgs w v ql) (ht : Tab w vt view) (hs : ShortC ql) (hl : ql.length ≤ 100) (hsh : Short view) (ca cb cd ce seq tok at' dg now : Int) (la sn : Bool) {M : Lnk} {fs : List Frm} (hr : Hid (lnEmit ⟨ca, cb, cd, ce⟩ ⟨seq, ⟨ql, la⟩, ⟨tok, at'⟩, sn, dg⟩ view now = (M, fs))) :
    Calls Tryz.prog 24 #[.agg #[.int .i64 ca, .int .i64 cb, .int .i64 cd, .int .i64 ce], .agg #[.int .i64 seq, v, .bool la, .int .i64 tok, .int .i64 at', .bool sn, .int .i64 dg], vt, .int .i64 now] w (EmittedR w M fs) := by
  have hr' := hr.out
  unfold lnEmit at hr'
  cases h1 : lnMay ⟨ca, cb, cd, ce⟩ ⟨seq, ⟨ql, la⟩, ⟨tok, at'⟩, sn, dg⟩ with
  | false =>
    rw [h1] at hr'
    simp only [Bool.false_and, Bool.false_eq_true, if_false, Prod.mk.injEq] at hr'
    obtain ⟨rfl, rfl⟩ := hr'
    exact rlemit_r1 hv ht hs hl hsh ca cb cd ce seq tok at' dg now la sn (Lib.hid h1)
  | true =>
    cases h2 : diMay view with
    | false =>
      rw [h1, h2] at hr'
      simp only [Bool.false_and, Bool.and_false, Bool.false_eq_true, if_false, Prod.mk.injEq] at hr'
      obtain ⟨rfl, rfl⟩ := hr'
      exact rlemit_r2 hv ht hs hl hsh ca cb cd ce seq tok at' dg now la sn (Lib.hid h1) (Lib.hid h2)
    | true =>
      cases h3 : pcTime now with
      | false =>
        rw [h1, h2, h3] at hr'
        simp only [Bool.and_false, Bool.false_eq_true, if_false, Prod.mk.injEq] at hr'
        obtain ⟨rfl, rfl⟩ := hr'
        exact rlemit_r3 hv ht hs hl hsh ca cb cd ce seq tok at' dg now la sn (Lib.hid h1) (Lib.hid h2) (Lib.hid h3)
      | true =>
        rw [h1, h2, h3] at hr'
        simp only [Bool.and_true, if_true] at hr'
        exact rlemit_in hv ht hs hl hsh ca cb cd ce seq tok at' dg now la sn (Lib.hid h1) (Lib.hid h2) (Lib.hid h3) (Lib.hid hr')


end Go.Proofs.YtndicdomdndjaaaGreat

end

section

/-
  LAYER 6, THE CODE: whether a frame may be.
-/
namespace Go.Proofs.YtndicdomdndjaaaGreat
open Go.RowKit

theorem below_regrownF {w w' : World} (h : ∃ p : Regrown, w' = Sort.grow (redrawn w p.d) p.os) : Below w.heap.size w w' := by
  obtain ⟨p, rfl⟩ := h
  exact below_regrown _ _ _

theorem chg_zero (c : List UInt8) (on : Bool) (sh pr si : Int) (st : List UInt8) : cSame ⟨c, on, sh, pr, si, st⟩ ⟨[], false, 0, 0, 0, []⟩ = (!on && (c == [] && vSame ⟨sh, pr, si, st⟩ Val.zero)) := by
  unfold cSame Val.zero
  cases on <;> cases c <;> simp

theorem bcellF {W w1 : World} (hb : Below W.heap.size W w1) : (∀ b o, b < W.heap.size → w1.cell? ⟨b, o, none⟩ = W.cell? ⟨b, o, none⟩) ∧ (∀ b o, b < W.heap.size → w1.frozen? ⟨b, o, none⟩ = W.frozen? ⟨b, o, none⟩) :=
  ⟨fun b o h => hb.cell (p := ⟨b, o, none⟩) h, fun b o h => hb.frozen (p := ⟨b, o, none⟩) h⟩

end Go.Proofs.YtndicdomdndjaaaGreat

end

section

/-
  LAYER 6, THE DOCUMENT: Same.
-/
namespace Go.Proofs.YtndicdomdndjaaaGreat
open Go.RowKit

/-- Each field is the same. -/
def frSame (f g : Frm) : Bool := (f.k == g.k) && ((f.s == g.s) && ((f.on == g.on) && ((f.c == g.c) && (vSame f.v g.v && ((f.sum == g.sum) && tSame f.t g.t)))))

theorem frSame_iff {f g : Frm} : frSame f g = true ↔ f = g := by
  obtain ⟨k, s, on, c, v, sum, t⟩ := f
  obtain ⟨k2, s2, on2, c2, v2, sum2, t2⟩ := g
  unfold frSame
  simp only [Bool.and_eq_true, beq_iff_eq, vSame_iff, tSame_iff, Frm.mk.injEq]

set_option maxHeartbeats 3200000 in
set_option maxRecDepth 100000 in
theorem rfrsame_any {w : World} {v v2 : Value} {t t2 : List Row} (hv : Tab w v t) (hv2 : Tab w v2 t2) (k s : Int) (on : Bool) (c : List UInt8) (sh pr si : Int) (st : List UInt8) (sum : Nat) (k2 s2 : Int) (on2 : Bool) (c2 : List UInt8) (sh2 pr2 si2 : Int) (st2 : List UInt8) (sum2 : Nat) :
    Calls Tryz.prog 53 #[.agg #[.int .i64 k, .int .i64 s, .bool on, .string ⟨c.toArray⟩, .int .i64 sh, .int .i64 pr, .int .i64 si, .string ⟨st.toArray⟩, .int .u64 sum, v], .agg #[.int .i64 k2, .int .i64 s2, .bool on2, .string ⟨c2.toArray⟩, .int .i64 sh2, .int .i64 pr2, .int .i64 si2, .string ⟨st2.toArray⟩, .int .u64 sum2, v2]] w fun e w' => e = .returned (.bool (frSame ⟨k, s, on, c, ⟨sh, pr, si, st⟩, sum, t⟩ ⟨k2, s2, on2, c2, ⟨sh2, pr2, si2, st2⟩, sum2, t2⟩)) ∧ Below w.heap.size w w' := by
  have B0 : Hid (Below w.heap.size w ((w.alloc (.cells #[.int .i64 k, .int .i64 s, .bool on, .string ⟨c.toArray⟩, .int .i64 sh, .int .i64 pr, .int .i64 si, .string ⟨st.toArray⟩, .int .u64 sum, v] 60)).alloc (.cells #[.int .i64 k2, .int .i64 s2, .bool on2, .string ⟨c2.toArray⟩, .int .i64 sh2, .int .i64 pr2, .int .i64 si2, .string ⟨st2.toArray⟩, .int .u64 sum2, v2] 60))) := Lib.hid (((Below.refl _ _).alloc (Nat.le_refl _) _).alloc (by simp) _)
  have HT := Lib.hid (tsame_any (hv.later B0.out) (hv2.later B0.out))
  have hq := fun w => val_eql5 sh pr si sh2 pr2 si2 st st2 w
  have hgd : Tryz.prog.eqGuardType Tryz.prog.depth 32 = false := by kernel_rfl
  unfold frSame
  simp only
  obtain ⟨m, hm⟩ : ∃ m, vSame ⟨sh, pr, si, st⟩ ⟨sh2, pr2, si2, st2⟩ = m := ⟨_, rfl⟩
  obtain ⟨z, hz⟩ : ∃ z, tSame t t2 = z := ⟨_, rfl⟩
  rw [hm, hz]
  rw [hz] at HT
  simp only [hm] at hq
  obtain ⟨a, cap, rfl, _⟩ := hv.open'
  obtain ⟨a2, cap2, rfl, _⟩ := hv2.open'
  clear hm hz hv hv2
  by_cases hk : k = k2
  · subst hk
    rw [show (k == k) = true from beq_self_eq_true _]
    simp only [Bool.true_and]
    by_cases hs : s = s2
    · subst hs
      rw [show (s == s) = true from beq_self_eq_true _]
      simp only [Bool.true_and]
      by_cases hon : on = on2
      · subst hon
        rw [show (on == on) = true from beq_self_eq_true _]
        simp only [Bool.true_and]
        by_cases hc : c = c2
        · subst hc
          rw [show (c == c) = true from beq_self_eq_true _]
          simp only [Bool.true_and]
          cases m with
          | false =>
            simp only [Bool.false_and]
            go_enter Tryz.func53, Tryz.ntmps53
            go_wp2_with fail
            go_ret
            exact ⟨rfl, B0.out⟩
          | true =>
            simp only [Bool.true_and]
            by_cases hsum : sum = sum2
            · rw [show (sum == sum2) = true by rw [beq_iff_eq]; exact hsum]
              have tsum : ((sum : Int) == (sum2 : Int)) = true := by rw [beq_iff_eq]; omega
              clear hsum
              simp only [Bool.true_and]
              go_enter Tryz.func53, Tryz.ntmps53
              go_wp2_with fail
              refine HT.out.mono ?_
              rintro e w1 ⟨rfl, b⟩
              have B1 := Lib.hid (below2' B0.out b)
              clear b
              go_wp2_with fail
              go_ret
              exact ⟨rfl, B1.out⟩
            · have tsum : ((sum : Int) == (sum2 : Int)) = false := by rw [beq_eq_false_iff_ne]; omega
              rw [show (sum == sum2) = false by rw [beq_eq_false_iff_ne]; exact hsum]
              simp only [Bool.false_and]
              clear hsum
              go_enter Tryz.func53, Tryz.ntmps53
              go_wp2_with fail
              go_ret
              exact ⟨rfl, B0.out⟩
        · have tc : (c == c2) = false := by rw [beq_eq_false_iff_ne]; exact hc
          rw [show (c == c2) = false by rw [beq_eq_false_iff_ne]; exact hc]
          simp only [Bool.false_and]
          clear hc
          go_enter Tryz.func53, Tryz.ntmps53
          go_wp2_with fail
          go_ret
          exact ⟨rfl, B0.out⟩
      · have ton : (on == on2) = false := by rw [beq_eq_false_iff_ne]; exact hon
        rw [show (on == on2) = false by rw [beq_eq_false_iff_ne]; exact hon]
        simp only [Bool.false_and]
        clear hon
        go_enter Tryz.func53, Tryz.ntmps53
        go_wp2_with fail
        go_ret
        exact ⟨rfl, B0.out⟩
    · have ts : (s == s2) = false := by rw [beq_eq_false_iff_ne]; exact hs
      rw [show (s == s2) = false by rw [beq_eq_false_iff_ne]; exact hs]
      simp only [Bool.false_and]
      clear hs
      go_enter Tryz.func53, Tryz.ntmps53
      go_wp2_with fail
      go_ret
      exact ⟨rfl, B0.out⟩
  · have tk : (k == k2) = false := by rw [beq_eq_false_iff_ne]; exact hk
    rw [show (k == k2) = false by rw [beq_eq_false_iff_ne]; exact hk]
    simp only [Bool.false_and]
    clear hk
    go_enter Tryz.func53, Tryz.ntmps53
    go_wp2_with fail
    go_ret
    exact ⟨rfl, B0.out⟩

end Go.Proofs.YtndicdomdndjaaaGreat

end

section

/-
  A FEW CELLS THAT A DRAWN REGION READS, KEPT THROUGH ITS CALLS: over any program.
-/
namespace Go.Proofs.YtndicdomdndjaaaGreat
open Go.RowKit

/-- Cells that a drawn region reads. -/
def heldC (X : World) (cs : List (Nat × Nat × Value)) : Prop := ∀ p ∈ cs, X.cell? ⟨p.1, p.2.1, none⟩ = some p.2.2

theorem heldC_nil (X : World) : heldC X [] := fun p h => by cases h
theorem heldC_cons {X : World} {b o : Nat} {v : Value} {cs : List (Nat × Nat × Value)} (h : X.cell? ⟨b, o, none⟩ = some v) (ht : heldC X cs) : heldC X ((b, o, v) :: cs) := fun p hp => by
  rcases List.mem_cons.1 hp with rfl | hp
  · exact h
  · exact ht p hp
theorem heldC_up {W X : World} {cs : List (Nat × Nat × Value)} (hb : Below W.heap.size W X) (h : heldC W cs) : heldC X cs := fun p hp => cellLaterZ (h p hp) hb
theorem heldC_get {X : World} {cs : List (Nat × Nat × Value)} (h : heldC X cs) {b o : Nat} {v : Value} (hm : (b, o, v) ∈ cs) : X.cell? ⟨b, o, none⟩ = some v := h _ hm

end Go.Proofs.YtndicdomdndjaaaGreat

end

section

/-
  LAYER 18, THE DOCUMENT'S ANSWER: Frames; frames as a caller reads them.
-/
namespace Go.Proofs.YtndicdomdndjaaaGreat
open Go.RowKit

/-- A list of frames in memory. -/
def FrC (W : World) (v : Value) (fs : List Frm) : Prop :=
  ∃ a c, v = .slice a fs.length c ∧ ∀ k, k < fs.length → ∃ g pa pc, a = some ⟨g, 0, none⟩ ∧ CellsAt W g (k * 10) (frCells (fs.getD k Frm.zero) (.slice pa (fs.getD k Frm.zero).t.length pc)) ∧ Tab W (.slice pa (fs.getD k Frm.zero).t.length pc) (fs.getD k Frm.zero).t

theorem FrC.later {w W : World} {v : Value} {fs : List Frm} (h : FrC w v fs) (hb : Below w.heap.size w W) : FrC W v fs := by
  obtain ⟨a, c, e, hk⟩ := h
  refine ⟨a, c, e, fun k hk2 => ?_⟩
  obtain ⟨g, pa, pc, e1, h1, h2⟩ := hk k hk2
  exact ⟨g, pa, pc, e1, CellsAt.later h1 hb, Tab.later h2 hb⟩

/-- Frames that were told, as a caller reads them. -/
theorem frc_kg {w W : World} {v : Value} {ps : List FrS} {fs : List Frm} (h : KG w W v ps) (hbel : Below w.heap.size w W) (hm : ps.map FrS.f = fs) :
    FrC W v fs := by
  subst hm
  obtain ⟨a, c, rfl⟩ := kg_shape h
  refine ⟨a, c, by rw [List.length_map], fun k hk => ?_⟩
  rw [List.length_map] at hk
  have hf : (ps.map FrS.f).getD k Frm.zero = (ps.getD k FrS.zero).f := by
    rw [List.getD_eq_getElem?_getD, List.getElem?_map, List.getD_eq_getElem?_getD, List.getElem?_eq_getElem hk]
    rfl
  rw [hf]
  have ht := h.2 (ps.getD k FrS.zero) (by rw [List.getD_eq_getElem?_getD, List.getElem?_eq_getElem hk]; exact List.getElem_mem hk) W hbel
  rcases h.1.2 with ⟨e, h0⟩ | ⟨g, cap, cur, e, _⟩
  · omega
  · simp only [Value.slice.injEq] at e
    obtain ⟨rfl, _, rfl⟩ := e
    have hr := OwnS.row frSOK h.1 hk
    generalize ps.getD k FrS.zero = p at hr ht ⊢
    obtain ⟨f, pa, pn, pc⟩ := p
    have hn : pn = f.t.length := by
      obtain ⟨x, y, e, _⟩ := ht
      simp only [FrS.tv, Value.slice.injEq] at e
      exact e.2.1
    subst hn
    exact ⟨g, pa, pc, rfl, hr, ht⟩


theorem emit_few {c : Cfg} {l M : Lnk} {view : List Row} {now : Int} {fs : List Frm} (h : lnEmit c l view now = (M, fs)) : fs.length ≤ 64 := by
  by_cases hh : lnMay c l = true ∧ diMay view = true ∧ pcTime now = true
  · obtain ⟨h1, h2, h3⟩ := hh
    rw [emit_run h1 h2 h3] at h
    obtain ⟨r1, r2, r3, _⟩ := run_may h2 h3 65 l h1
    have hb := (pcLev_ge (now := now) (lnMay_iff.1 h1).1).2.1
    have h64 := (pcMay_iff.1 (pcOne_iff.1 (lnMay_iff.1 h1).1).1).2.2.2.1
    have hge := (pcLev_ge (now := now) (lnMay_iff.1 r1).1).1
    rw [h] at r3 hge
    simp only at r3 hge
    omega
  · unfold lnEmit at h
    split at h
    · rename_i e
      simp only [Bool.and_eq_true] at e
      exact absurd ⟨by simp [e], by simp [e], by simp [e]⟩ hh
    · cases h
      simp

theorem rfrsame_yesL {w : World} {v v2 : Value} {t : List Row} (hv : Tab w v t) (hv2 : Tab w v2 t) (k s : Int) (on : Bool) (c : List UInt8) (sh pr si : Int) (st : List UInt8) (sum : Nat) :
    Calls Tryz.prog 53 #[.agg #[.int .i64 k, .int .i64 s, .bool on, .string ⟨c.toArray⟩, .int .i64 sh, .int .i64 pr, .int .i64 si, .string ⟨st.toArray⟩, .int .u64 sum, v], .agg #[.int .i64 k, .int .i64 s, .bool on, .string ⟨c.toArray⟩, .int .i64 sh, .int .i64 pr, .int .i64 si, .string ⟨st.toArray⟩, .int .u64 sum, v2]] w fun e w' => e = .returned (.bool true) ∧ Below w.heap.size w w' := by
  have h := rfrsame_any hv hv2 k s on c sh pr si st sum k s on c sh pr si st sum
  rwa [frSame_iff.2 rfl] at h

set_option maxHeartbeats 12800000 in
set_option maxRecDepth 1000000 in
theorem rlframes_yes {w : World} {v u : Value} {fs : List Frm} (h : FrC w v fs) (h2 : FrC w u fs) (hfl : fs.length ≤ 64) :
    Calls Tryz.prog 25 #[v, u] w fun e w' => e = .returned (.bool true) ∧ Below w.heap.size w w' := by
  obtain ⟨a, c, rfl, ha⟩ := h
  obtain ⟨b, d, rfl, hb⟩ := h2
  have HA := Lib.hid ha
  have HB2 := Lib.hid hb
  clear ha hb
  have t1 : ((fs.length : Int) != (fs.length : Int)) = false := by simp
  go_enter Tryz.func25, Tryz.ntmps25
  go_wp2_with fail
  go_loopw [5] (fun i wr => ∃ j : Nat, j ≤ fs.length ∧ i = .int .i64 j ∧ Hid (Below w.heap.size w wr)) (fun i _ => fs.length - (intOf i).toNat)
  case atStart => exact ⟨0, by omega, rfl, Lib.hid (Below.refl _ _)⟩
  case round =>
    obtain ⟨j, hj, rfl, HN⟩ := hrel
    by_cases hlt : j < fs.length
    case pos =>
      obtain ⟨g, pa, pc, rfl, hc, ht⟩ := HA.out j hlt
      obtain ⟨g2, qa, qc, rfl, hc2, ht2⟩ := HB2.out j hlt
      replace hc := CellsAt.later hc HN.out
      replace hc2 := CellsAt.later hc2 HN.out
      replace ht := Tab.later ht HN.out
      replace ht2 := Tab.later ht2 HN.out
      generalize hfx : fs.getD j Frm.zero = f at hc ht hc2 ht2
      clear hfx
      obtain ⟨fk, fsq, fon, fcn, ⟨fsh, fpr, fsi, fst⟩, fsum, ft⟩ := f
      obtain ⟨tl, htl⟩ : ∃ n, ft.length = n := ⟨_, rfl⟩
      simp only at ht ht2
      rw [htl] at ht ht2
      have TA := Lib.hid ht
      have TB := Lib.hid ht2
      have RM := Lib.hid fun (X : World) (h : Below wr.heap.size wr X) => rfrsame_yesL (TA.out.later h) (TB.out.later h) fk fsq fon fcn fsh fpr fsi fst fsum
      clear TA TB ht ht2
      have fc0 : wr.cell? ⟨g, j * 10, none⟩ = some (.int .i64 fk) := hc 0 _ rfl
      have fc1 : wr.cell? ⟨g, j * 10 + 1, none⟩ = some (.int .i64 fsq) := hc 1 _ rfl
      have fc2 : wr.cell? ⟨g, j * 10 + 2, none⟩ = some (.bool fon) := hc 2 _ rfl
      have fc3 : wr.cell? ⟨g, j * 10 + 3, none⟩ = some (.string ⟨fcn.toArray⟩) := hc 3 _ rfl
      have fc4 : wr.cell? ⟨g, j * 10 + 4, none⟩ = some (.int .i64 fsh) := hc 4 _ rfl
      have fc5 : wr.cell? ⟨g, j * 10 + 5, none⟩ = some (.int .i64 fpr) := hc 5 _ rfl
      have fc6 : wr.cell? ⟨g, j * 10 + 6, none⟩ = some (.int .i64 fsi) := hc 6 _ rfl
      have fc7 : wr.cell? ⟨g, j * 10 + 7, none⟩ = some (.string ⟨fst.toArray⟩) := hc 7 _ rfl
      have fc8 : wr.cell? ⟨g, j * 10 + 8, none⟩ = some (.int .u64 fsum) := hc 8 _ rfl
      have fc9 : wr.cell? ⟨g, j * 10 + 9, none⟩ = some (.slice pa tl pc) := by rw [← htl]; exact hc 9 _ rfl
      have gc0 : wr.cell? ⟨g2, j * 10, none⟩ = some (.int .i64 fk) := hc2 0 _ rfl
      have gc1 : wr.cell? ⟨g2, j * 10 + 1, none⟩ = some (.int .i64 fsq) := hc2 1 _ rfl
      have gc2 : wr.cell? ⟨g2, j * 10 + 2, none⟩ = some (.bool fon) := hc2 2 _ rfl
      have gc3 : wr.cell? ⟨g2, j * 10 + 3, none⟩ = some (.string ⟨fcn.toArray⟩) := hc2 3 _ rfl
      have gc4 : wr.cell? ⟨g2, j * 10 + 4, none⟩ = some (.int .i64 fsh) := hc2 4 _ rfl
      have gc5 : wr.cell? ⟨g2, j * 10 + 5, none⟩ = some (.int .i64 fpr) := hc2 5 _ rfl
      have gc6 : wr.cell? ⟨g2, j * 10 + 6, none⟩ = some (.int .i64 fsi) := hc2 6 _ rfl
      have gc7 : wr.cell? ⟨g2, j * 10 + 7, none⟩ = some (.string ⟨fst.toArray⟩) := hc2 7 _ rfl
      have gc8 : wr.cell? ⟨g2, j * 10 + 8, none⟩ = some (.int .u64 fsum) := hc2 8 _ rfl
      have gc9 : wr.cell? ⟨g2, j * 10 + 9, none⟩ = some (.slice qa tl qc) := by rw [← htl]; exact hc2 9 _ rfl
      clear htl hc hc2
      go_upto_region 6 with fail
      obtain ⟨BS, hBS⟩ : ∃ BS : List (Nat × List Value), BS = [] := ⟨_, rfl⟩
      obtain ⟨CS, hCS⟩ : ∃ CS : List (Nat × Nat × Value), CS = [(g, j * 10, .int .i64 fk), (g, j * 10 + 1, .int .i64 fsq), (g, j * 10 + 2, .bool fon), (g, j * 10 + 3, .string ⟨fcn.toArray⟩), (g, j * 10 + 4, .int .i64 fsh), (g, j * 10 + 5, .int .i64 fpr), (g, j * 10 + 6, .int .i64 fsi), (g, j * 10 + 7, .string ⟨fst.toArray⟩), (g, j * 10 + 8, .int .u64 fsum), (g, j * 10 + 9, .slice pa tl pc), (g2, j * 10, .int .i64 fk), (g2, j * 10 + 1, .int .i64 fsq), (g2, j * 10 + 2, .bool fon), (g2, j * 10 + 3, .string ⟨fcn.toArray⟩), (g2, j * 10 + 4, .int .i64 fsh), (g2, j * 10 + 5, .int .i64 fpr), (g2, j * 10 + 6, .int .i64 fsi), (g2, j * 10 + 7, .string ⟨fst.toArray⟩), (g2, j * 10 + 8, .int .u64 fsum), (g2, j * 10 + 9, .slice qa tl qc)] := ⟨_, rfl⟩
      have D0 := Lib.hid (show heldC wr CS from by rw [hCS]; exact heldC_cons (fc0) (heldC_cons (fc1) (heldC_cons (fc2) (heldC_cons (fc3) (heldC_cons (fc4) (heldC_cons (fc5) (heldC_cons (fc6) (heldC_cons (fc7) (heldC_cons (fc8) (heldC_cons (fc9) (heldC_cons (gc0) (heldC_cons (gc1) (heldC_cons (gc2) (heldC_cons (gc3) (heldC_cons (gc4) (heldC_cons (gc5) (heldC_cons (gc6) (heldC_cons (gc7) (heldC_cons (gc8) (heldC_cons (gc9) (heldC_nil _)))))))))))))))))))))
      have hq0 : ∀ X, heldC X CS → X.cell? ⟨g, j * 10, none⟩ = some (.int .i64 fk) := fun X hx => heldC_get hx (by rw [hCS]; simp)
      have hq1 : ∀ X, heldC X CS → X.cell? ⟨g, j * 10 + 1, none⟩ = some (.int .i64 fsq) := fun X hx => heldC_get hx (by rw [hCS]; simp)
      have hq2 : ∀ X, heldC X CS → X.cell? ⟨g, j * 10 + 2, none⟩ = some (.bool fon) := fun X hx => heldC_get hx (by rw [hCS]; simp)
      have hq3 : ∀ X, heldC X CS → X.cell? ⟨g, j * 10 + 3, none⟩ = some (.string ⟨fcn.toArray⟩) := fun X hx => heldC_get hx (by rw [hCS]; simp)
      have hq4 : ∀ X, heldC X CS → X.cell? ⟨g, j * 10 + 4, none⟩ = some (.int .i64 fsh) := fun X hx => heldC_get hx (by rw [hCS]; simp)
      have hq5 : ∀ X, heldC X CS → X.cell? ⟨g, j * 10 + 5, none⟩ = some (.int .i64 fpr) := fun X hx => heldC_get hx (by rw [hCS]; simp)
      have hq6 : ∀ X, heldC X CS → X.cell? ⟨g, j * 10 + 6, none⟩ = some (.int .i64 fsi) := fun X hx => heldC_get hx (by rw [hCS]; simp)
      have hq7 : ∀ X, heldC X CS → X.cell? ⟨g, j * 10 + 7, none⟩ = some (.string ⟨fst.toArray⟩) := fun X hx => heldC_get hx (by rw [hCS]; simp)
      have hq8 : ∀ X, heldC X CS → X.cell? ⟨g, j * 10 + 8, none⟩ = some (.int .u64 fsum) := fun X hx => heldC_get hx (by rw [hCS]; simp)
      have hq9 : ∀ X, heldC X CS → X.cell? ⟨g, j * 10 + 9, none⟩ = some (.slice pa tl pc) := fun X hx => heldC_get hx (by rw [hCS]; simp)
      have hq10 : ∀ X, heldC X CS → X.cell? ⟨g2, j * 10, none⟩ = some (.int .i64 fk) := fun X hx => heldC_get hx (by rw [hCS]; simp)
      have hq11 : ∀ X, heldC X CS → X.cell? ⟨g2, j * 10 + 1, none⟩ = some (.int .i64 fsq) := fun X hx => heldC_get hx (by rw [hCS]; simp)
      have hq12 : ∀ X, heldC X CS → X.cell? ⟨g2, j * 10 + 2, none⟩ = some (.bool fon) := fun X hx => heldC_get hx (by rw [hCS]; simp)
      have hq13 : ∀ X, heldC X CS → X.cell? ⟨g2, j * 10 + 3, none⟩ = some (.string ⟨fcn.toArray⟩) := fun X hx => heldC_get hx (by rw [hCS]; simp)
      have hq14 : ∀ X, heldC X CS → X.cell? ⟨g2, j * 10 + 4, none⟩ = some (.int .i64 fsh) := fun X hx => heldC_get hx (by rw [hCS]; simp)
      have hq15 : ∀ X, heldC X CS → X.cell? ⟨g2, j * 10 + 5, none⟩ = some (.int .i64 fpr) := fun X hx => heldC_get hx (by rw [hCS]; simp)
      have hq16 : ∀ X, heldC X CS → X.cell? ⟨g2, j * 10 + 6, none⟩ = some (.int .i64 fsi) := fun X hx => heldC_get hx (by rw [hCS]; simp)
      have hq17 : ∀ X, heldC X CS → X.cell? ⟨g2, j * 10 + 7, none⟩ = some (.string ⟨fst.toArray⟩) := fun X hx => heldC_get hx (by rw [hCS]; simp)
      have hq18 : ∀ X, heldC X CS → X.cell? ⟨g2, j * 10 + 8, none⟩ = some (.int .u64 fsum) := fun X hx => heldC_get hx (by rw [hCS]; simp)
      have hq19 : ∀ X, heldC X CS → X.cell? ⟨g2, j * 10 + 9, none⟩ = some (.slice qa tl qc) := fun X hx => heldC_get hx (by rw [hCS]; simp)
      clear hCS
      clear hBS
      have K0 : Hid (Below wr.heap.size wr wr.drew) := Lib.hid (Below.refl _ _).drew
      refine wp_region_held_drew (S := (fun X => heldC X CS)) (by kernel_rfl) ?_ (fun hHeld => ?_)
      · exact heldC_up K0.out D0.out
      generalize wr.drew = z0 at K0 hHeld ⊢
      refine wpAnyH_take (i := 0) (oi := { dst := some 17, op := Op.move (Operand.tmp 0), type := 50, pos := "ref.go:102", after := #[], guard := none }) (v := ?_) rfl (by as_aux_lemma => kernel_rfl) (by as_aux_lemma => kernel_rfl) (by as_aux_lemma => kernel_rfl) (fun _ _ _ h => h) (Or.inl ⟨by rfl, ?_⟩) (by assumption) ?_
      rotate_left
      · intro w' hSw
        try dsimp only at hSw
        go_simp
        try with_reducible rfl
      try simp only [Act.put, List.setIfInBounds_toArray, List.set_cons_zero, List.set_cons_succ]
      refine wpAnyH_take (i := 1) (oi := { dst := some 18, op := Op.move (Operand.tmp 5), type := 3, pos := "ref.go:102", after := #[], guard := none }) (v := ?_) rfl (by as_aux_lemma => kernel_rfl) (by as_aux_lemma => kernel_rfl) (by as_aux_lemma => kernel_rfl) (fun _ _ _ h => h) (Or.inl ⟨by rfl, ?_⟩) (by assumption) ?_
      rotate_left
      · intro w' hSw
        try dsimp only at hSw
        go_simp
        try with_reducible rfl
      try simp only [Act.put, List.setIfInBounds_toArray, List.set_cons_zero, List.set_cons_succ]
      refine wpAnyH_take (i := 2) (oi := { dst := some 19, op := Op.indexAddr 50 (Operand.tmp 17) (Operand.tmp 18), type := 0, pos := "ref.go:102", after := #[{ on := 0, ground := Ground.data }, { on := 1, ground := Ground.data }], guard := none }) (v := ?_) rfl (by as_aux_lemma => kernel_rfl) (by as_aux_lemma => kernel_rfl) (by as_aux_lemma => kernel_rfl) (fun _ _ _ h => h) (Or.inl ⟨by rfl, ?_⟩) (by assumption) ?_
      rotate_left
      · intro w' hSw
        try dsimp only at hSw
        go_simp
        try with_reducible rfl
      try simp only [Act.put, List.setIfInBounds_toArray, List.set_cons_zero, List.set_cons_succ]
      refine wpAnyH_take (i := 3) (oi := { dst := some 20, op := Op.load 60 (Operand.tmp 19), type := 60, pos := "ref.go:102", after := #[{ on := 2, ground := Ground.data }], guard := none }) (v := ?_) rfl (by as_aux_lemma => kernel_rfl) (by as_aux_lemma => kernel_rfl) (by as_aux_lemma => kernel_rfl) (fun _ _ _ h => h) (Or.inl ⟨by rfl, ?_⟩) (by assumption) ?_
      rotate_left
      · intro w' hSw
        try dsimp only at hSw
        go_simp
        try with_reducible rfl
      try simp only [Act.put, List.setIfInBounds_toArray, List.set_cons_zero, List.set_cons_succ]
      refine wpAnyH_take (i := 4) (oi := { dst := some 21, op := Op.move (Operand.tmp 1), type := 50, pos := "ref.go:102", after := #[], guard := none }) (v := ?_) rfl (by as_aux_lemma => kernel_rfl) (by as_aux_lemma => kernel_rfl) (by as_aux_lemma => kernel_rfl) (fun _ _ _ h => h) (Or.inl ⟨by rfl, ?_⟩) (by assumption) ?_
      rotate_left
      · intro w' hSw
        try dsimp only at hSw
        go_simp
        try with_reducible rfl
      try simp only [Act.put, List.setIfInBounds_toArray, List.set_cons_zero, List.set_cons_succ]
      refine wpAnyH_take (i := 5) (oi := { dst := some 22, op := Op.move (Operand.tmp 5), type := 3, pos := "ref.go:102", after := #[], guard := none }) (v := ?_) rfl (by as_aux_lemma => kernel_rfl) (by as_aux_lemma => kernel_rfl) (by as_aux_lemma => kernel_rfl) (fun _ _ _ h => h) (Or.inl ⟨by rfl, ?_⟩) (by assumption) ?_
      rotate_left
      · intro w' hSw
        try dsimp only at hSw
        go_simp
        try with_reducible rfl
      try simp only [Act.put, List.setIfInBounds_toArray, List.set_cons_zero, List.set_cons_succ]
      refine wpAnyH_take (i := 6) (oi := { dst := some 23, op := Op.indexAddr 50 (Operand.tmp 21) (Operand.tmp 22), type := 0, pos := "ref.go:102", after := #[{ on := 4, ground := Ground.data }, { on := 5, ground := Ground.data }], guard := none }) (v := ?_) rfl (by as_aux_lemma => kernel_rfl) (by as_aux_lemma => kernel_rfl) (by as_aux_lemma => kernel_rfl) (fun _ _ _ h => h) (Or.inl ⟨by rfl, ?_⟩) (by assumption) ?_
      rotate_left
      · intro w' hSw
        try dsimp only at hSw
        go_simp
        try with_reducible rfl
      try simp only [Act.put, List.setIfInBounds_toArray, List.set_cons_zero, List.set_cons_succ]
      refine wpAnyH_take (i := 7) (oi := { dst := some 24, op := Op.load 60 (Operand.tmp 23), type := 60, pos := "ref.go:102", after := #[{ on := 6, ground := Ground.data }], guard := none }) (v := ?_) rfl (by as_aux_lemma => kernel_rfl) (by as_aux_lemma => kernel_rfl) (by as_aux_lemma => kernel_rfl) (fun _ _ _ h => h) (Or.inl ⟨by rfl, ?_⟩) (by assumption) ?_
      rotate_left
      · intro w' hSw
        try dsimp only at hSw
        go_simp
        try with_reducible rfl
      try simp only [Act.put, List.setIfInBounds_toArray, List.set_cons_zero, List.set_cons_succ]
      refine wpAnyH_ready (rs := [8]) (by as_aux_lemma => kernel_rfl) (by simp) ?_
      refine AllReadyH.cons (o := { dst := some 25, op := Op.call { callee := Callee.value (Operand.func 53), args := #[Operand.tmp 20, Operand.tmp 24], argTypes := #[60, 60] }, type := 4, pos := "ref.go:102", after := #[{ on := 3, ground := Ground.data }, { on := 7, ground := Ground.data }], guard := none }) rfl (fun Kx hK => ?_) AllReadyH.nil
      go_simp
      refine (RM.out _ K0.out).mono ?_
      rintro e z6001 ⟨rfl, bz6001⟩
      have K6001 := Lib.hid (below2Z K0.out bz6001)
      have D6001 := Lib.hid (heldC_up K6001.out D0.out)
      clear bz6001
      go_wp2_with fail
      refine hK.out _ _ ?_ (fun hHeld2 => ?_)
      · exact D6001.out
      clear hK Kx hHeld
      have hHeld := hHeld2
      clear hHeld2
      try simp only [Act.put, List.setIfInBounds_toArray, List.set_cons_zero, List.set_cons_succ]
      refine wpAnyH_take (i := 9) (oi := { dst := some 26, op := Op.unOp UnOp.not 4 (Operand.tmp 25), type := 4, pos := "ref.go:102", after := #[{ on := 8, ground := Ground.data }], guard := none }) (v := ?_) rfl (by as_aux_lemma => kernel_rfl) (by as_aux_lemma => kernel_rfl) (by as_aux_lemma => kernel_rfl) (fun _ _ _ h => h) (Or.inl ⟨by rfl, ?_⟩) (by assumption) ?_
      rotate_left
      · intro w' hSw
        try dsimp only at hSw
        go_simp
        try with_reducible rfl
      try simp only [Act.put, List.setIfInBounds_toArray, List.set_cons_zero, List.set_cons_succ]
      refine wpAnyH_done (by kernel_rfl) ?_ _
      have HN2 := Lib.hid (below2Z HN.out (K6001.out))
      go_wp2_with fail
      go_roundw
      case rel => exact ⟨j + 1, by omega, by go_num, HN2⟩
      case measure => simp [intOf]; omega
    go_wp2_with fail
    go_ret
    exact ⟨rfl, HN.out⟩

theorem rlemit_eq {w : World} {v vt : Value} {ql : List Chg} {view : List Row} (hv : Chgs w v ql) (ht : Tab w vt view) (hs : ShortC ql) (hl : ql.length ≤ 100) (hsh : Short view) (ca cb cd ce seq tok at' dg now : Int) (la sn : Bool)
    {ms mt ma md : Int} {mq : List Chg} {ml mn : Bool} {fs : List Frm} (hr : Hid (lnEmit ⟨ca, cb, cd, ce⟩ ⟨seq, ⟨ql, la⟩, ⟨tok, at'⟩, sn, dg⟩ view now = (⟨ms, ⟨mq, ml⟩, ⟨mt, ma⟩, mn, md⟩, fs))) :
    Calls Tryz.prog 24 #[.agg #[.int .i64 ca, .int .i64 cb, .int .i64 cd, .int .i64 ce], .agg #[.int .i64 seq, v, .bool la, .int .i64 tok, .int .i64 at', .bool sn, .int .i64 dg], vt, .int .i64 now] w fun e w' =>
      ∃ u fv ps, e = .returned (.tuple #[.agg #[.int .i64 ms, u, .bool ml, .int .i64 mt, .int .i64 ma, .bool mn, .int .i64 md], fv]) ∧ Chgs w' u mq ∧ KG w w' fv ps ∧ ps.map FrS.f = fs ∧ Below w.heap.size w w' :=
  rlemit_any hv ht hs hl hsh ca cb cd ce seq tok at' dg now la sn hr


end Go.Proofs.YtndicdomdndjaaaGreat

end
